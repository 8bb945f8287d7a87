/- Contracts of package page on page tables: isSpace, isPins, isSmall, the checks of free, small and tail pages. -/
import Derived.Test.YtbenklhbcgiacaaPgP
import Derived.Test.YtbenklhbcgiacaaPageV
namespace Go.Proofs.Ytbenklhbcgiacaa
open Go.RowKit

def spaceB (n : Int) : Bool := decide (n = 0 ∨ n = 1)

set_option maxHeartbeats 400000 in
theorem isSpace_is {b : Bool} {n : Int} (hb : spaceB n = b) (w : World) :
    Calls Try.prog 28 #[.int .i64 n] w fun e w' => e = .returned (.bool b) ∧ w = w' := by
  by_cases h0 : n = 0
  · obtain rfl : b = true := by rw [← hb]; exact decide_eq_true (Or.inl h0)
    subst h0
    clear hb
    go_enter Try.func28, Try.ntmps28
    go_wp2
    go_ret
    exact ⟨rfl, rfl⟩
  · by_cases h1 : n = 1
    · obtain rfl : b = true := by rw [← hb]; exact decide_eq_true (Or.inr h1)
      subst h1
      clear hb h0
      go_enter Try.func28, Try.ntmps28
      go_wp2
      go_ret
      exact ⟨rfl, rfl⟩
    · obtain rfl : b = false := by rw [← hb]; exact decide_eq_false (by omega)
      have b0 : (n == 0) = false := beq_eq_false_iff_ne.2 h0
      have b1 : (n == 1) = false := beq_eq_false_iff_ne.2 h1
      clear hb h0 h1
      go_enter Try.func28, Try.ntmps28
      go_wp2
      go_ret
      exact ⟨rfl, rfl⟩

set_option maxHeartbeats 400000 in
theorem isPins_is {b : Bool} {n : Int} (hb : pinsB n = b) (w : World) :
    Calls Try.prog 51 #[.int .i64 n] w fun e w' => e = .returned (.bool b) ∧ w = w' := by
  have hc := Lib.hid (fun w => within_is (n := n) (l := 0) (h := 2147483647) (b := b) hb w)
  clear hb
  go_enter Try.func51, Try.ntmps51
  go_wp2_with fail
  refine (hc.out _).mono ?_
  rintro e w1 ⟨rfl, rfl⟩
  go_wp2
  go_ret
  exact ⟨rfl, rfl⟩

set_option maxHeartbeats 400000 in
theorem isSmall_is {b : Bool} {i : Int} (p : Option Addr) (n cap : Nat) (ps : List Pg) (w : World) (hr : PRow w p n cap ps) (hb : decide (0 ≤ i ∧ i < ps.length ∧ (ps.getD i.toNat Pg.zero).kind = 1) = b) :
    Calls Try.prog 29 #[.slice p n cap, .int .i64 i] w fun e w' => e = .returned (.bool b) ∧ w = w' := by
  have hl := hr.i63.2
  rw [hr.len] at hb
  by_cases h : 0 ≤ i ∧ i ≤ (n : Int) - 1
  · have hc := Lib.hid (fun w => within_yes h.1 h.2 w)
    obtain ⟨k, rfl⟩ : ∃ k : Nat, i = k := ⟨i.toNat, by omega⟩
    obtain ⟨x, b1, off, hx, rfl, c0, c1, c2, c3⟩ := hr.at_ (k := k) (by omega)
    rw [Int.toNat_natCast, getD_at hx] at hb
    have hlt : (k : Int) < n := by omega
    clear h hr hx c1 c2 c3
    by_cases h1 : x.kind = 1
    · obtain rfl : b = true := by rw [← hb]; exact decide_eq_true ⟨by omega, hlt, h1⟩
      rw [h1] at c0
      clear hb h1
      go_enter Try.func29, Try.ntmps29
      go_wp2_with fail
      refine (hc.out _).mono ?_
      rintro e w1 ⟨rfl, rfl⟩
      go_wp2
      go_ret
      exact ⟨rfl, rfl⟩
    · obtain rfl : b = false := by rw [← hb]; exact decide_eq_false fun h => h1 h.2.2
      have b0 : (x.kind == 1) = false := beq_eq_false_iff_ne.2 h1
      clear hb h1
      go_enter Try.func29, Try.ntmps29
      go_wp2_with fail
      refine (hc.out _).mono ?_
      rintro e w1 ⟨rfl, rfl⟩
      go_wp2
      go_ret
      exact ⟨rfl, rfl⟩
  · have hc := Lib.hid (fun w => within_no (n := i) (l := 0) (h := (n : Int) - 1) (by omega) w)
    obtain rfl : b = false := by rw [← hb]; exact decide_eq_false fun h' => h ⟨h'.1, by omega⟩
    clear hb h hr
    go_enter Try.func29, Try.ntmps29
    go_wp2_with fail
    refine (hc.out _).mono ?_
    rintro e w1 ⟨rfl, rfl⟩
    go_wp2
    go_ret
    exact ⟨rfl, rfl⟩

/-- Page i as a free page, a small page. -/
def freeOK (x : Pg) : Bool := decide (x.space = 0 ∧ x.used = 0 ∧ x.pins = 0)
def smallOK (pw : Int) (x : Pg) : Bool := spaceB x.space && decide (0 ≤ x.used ∧ x.used ≤ pw) && pinsB x.pins

set_option maxHeartbeats 800000 in
theorem tfree_is (pw np : Int) (p : Option Addr) (n cap : Nat) (ps : List Pg) (i : Nat) (x : Pg) (w : World) (hr : PRow w p n cap ps) (hx : ps[i]? = some x) (hk : x.kind = 0) :
    Calls Try.prog 36 #[.agg #[.int .i64 pw, .int .i64 np, .slice p n cap], .int .i64 i] w fun e w' => e = .returned (.bool (freeOK x)) ∧ Below w.heap.size w w' := by
  have hl := hr.i63.2
  have hlt : (i : Int) < n := by have := (List.getElem?_eq_some_iff.1 hx).1; rw [hr.len] at this; omega
  obtain ⟨x', b1, off, hx', rfl, c0, c1, c2, c3⟩ := hr.at_ (k := i) (by omega)
  obtain rfl : x = x' := by rw [hx] at hx'; exact Option.some.inj hx'
  have c0 := cell_keep (w' := w.alloc (.cells #[.int .i64 pw, .int .i64 np, .slice (some ⟨b1, off, none⟩) n cap] 61)) below_box c0
  have c1 := cell_keep (w' := w.alloc (.cells #[.int .i64 pw, .int .i64 np, .slice (some ⟨b1, off, none⟩) n cap] 61)) below_box c1
  have c2 := cell_keep (w' := w.alloc (.cells #[.int .i64 pw, .int .i64 np, .slice (some ⟨b1, off, none⟩) n cap] 61)) below_box c2
  have c3 := cell_keep (w' := w.alloc (.cells #[.int .i64 pw, .int .i64 np, .slice (some ⟨b1, off, none⟩) n cap] 61)) below_box c3
  rw [hk] at c0
  clear hr hx hx' hk
  by_cases h1 : x.space = 0
  · by_cases h2 : x.used = 0
    · by_cases h3 : x.pins = 0
      · have E := Lib.hid (show freeOK x = true from decide_eq_true ⟨h1, h2, h3⟩)
        rw [h1] at c1
        rw [h2] at c2
        rw [h3] at c3
        clear h1 h2 h3
        go_enter Try.func36, Try.ntmps36
        go_wp2
        go_ret
        exact ⟨ret_bool E.out.symm, below_box⟩
      · have E := Lib.hid (show freeOK x = false from decide_eq_false fun h => h3 h.2.2)
        rw [h1] at c1
        rw [h2] at c2
        have b3 : (x.pins == 0) = false := beq_eq_false_iff_ne.2 h3
        clear h1 h2 h3
        go_enter Try.func36, Try.ntmps36
        go_wp2
        go_ret
        exact ⟨ret_bool E.out.symm, below_box⟩
    · have E := Lib.hid (show freeOK x = false from decide_eq_false fun h => h2 h.2.1)
      rw [h1] at c1
      have b2 : (x.used == 0) = false := beq_eq_false_iff_ne.2 h2
      clear h1 h2
      go_enter Try.func36, Try.ntmps36
      go_wp2
      go_ret
      exact ⟨ret_bool E.out.symm, below_box⟩
  · have E := Lib.hid (show freeOK x = false from decide_eq_false fun h => h1 h.1)
    have b1 : (x.space == 0) = false := beq_eq_false_iff_ne.2 h1
    clear h1
    go_enter Try.func36, Try.ntmps36
    go_wp2
    go_ret
    exact ⟨ret_bool E.out.symm, below_box⟩
end Go.Proofs.Ytbenklhbcgiacaa
