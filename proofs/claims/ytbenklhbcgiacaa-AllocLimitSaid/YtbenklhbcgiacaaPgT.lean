/- Contracts of package page on page tables: the checks of small and tail pages, owned. -/
import Derived.Test.YtbenklhbcgiacaaPgS
namespace Go.Proofs.Ytbenklhbcgiacaa
open Go.RowKit

theorem below_2 {w : World} {o o' : Obj} : Below w.heap.size w ((w.alloc o).alloc o') := bthen below_box below_box

set_option maxHeartbeats 800000 in
theorem tsmall_is (pw np : Int) (p : Option Addr) (n cap : Nat) (ps : List Pg) (i : Nat) (x : Pg) (w : World) (hr : PRow w p n cap ps) (hx : ps[i]? = some x) :
    Calls Try.prog 37 #[.agg #[.int .i64 pw, .int .i64 np, .slice p n cap], .int .i64 i] w fun e w' => e = .returned (.bool (smallOK pw x)) ∧ Below w.heap.size w w' := by
  have hl := hr.i63.2
  have hlt : (i : Int) < n := by have := (List.getElem?_eq_some_iff.1 hx).1; rw [hr.len] at this; omega
  obtain ⟨x', b1, off, hx', rfl, c0, c1, c2, c3⟩ := hr.at_ (k := i) (by omega)
  obtain rfl : x = x' := by rw [hx] at hx'; exact Option.some.inj hx'
  have hs := Lib.hid (fun w => isSpace_is (n := x.space) rfl w)
  have hu := Lib.hid (fun w => within_is (n := x.used) (l := 0) (h := pw) rfl w)
  have hp := Lib.hid (fun w => isPins_is (n := x.pins) rfl w)
  obtain ⟨A, hA⟩ : ∃ A, Hid (spaceB x.space = A) := ⟨_, rfl⟩
  obtain ⟨B, hB⟩ : ∃ B, Hid (decide (0 ≤ x.used ∧ x.used ≤ pw) = B) := ⟨_, rfl⟩
  obtain ⟨C, hC⟩ : ∃ C, Hid (pinsB x.pins = C) := ⟨_, rfl⟩
  have E := Lib.hid (show smallOK pw x = (A && B && C) from by unfold smallOK; rw [hA.out, hB.out, hC.out])
  rw [hA.out] at hs
  rw [hB.out] at hu
  rw [hC.out] at hp
  clear hr hx hx' hA hB hC
  have q0 := cell_keep (w' := (w.alloc (.cells #[.int .i64 pw, .int .i64 np, .slice (some ⟨b1, off, none⟩) n cap] 61)).alloc (.cells #[.int .i64 0, .int .i64 0, .int .i64 0, .int .i64 0] 55)) (bthen below_box below_box) c0
  have q1 := cell_keep (w' := (w.alloc (.cells #[.int .i64 pw, .int .i64 np, .slice (some ⟨b1, off, none⟩) n cap] 61)).alloc (.cells #[.int .i64 0, .int .i64 0, .int .i64 0, .int .i64 0] 55)) (bthen below_box below_box) c1
  have q2 := cell_keep (w' := (w.alloc (.cells #[.int .i64 pw, .int .i64 np, .slice (some ⟨b1, off, none⟩) n cap] 61)).alloc (.cells #[.int .i64 0, .int .i64 0, .int .i64 0, .int .i64 0] 55)) (bthen below_box below_box) c2
  have q3 := cell_keep (w' := (w.alloc (.cells #[.int .i64 pw, .int .i64 np, .slice (some ⟨b1, off, none⟩) n cap] 61)).alloc (.cells #[.int .i64 0, .int .i64 0, .int .i64 0, .int .i64 0] 55)) (bthen below_box below_box) c3
  have c0 := cell_keep (w' := w.alloc (.cells #[.int .i64 pw, .int .i64 np, .slice (some ⟨b1, off, none⟩) n cap] 61)) below_box c0
  have c1 := cell_keep (w' := w.alloc (.cells #[.int .i64 pw, .int .i64 np, .slice (some ⟨b1, off, none⟩) n cap] 61)) below_box c1
  have c2 := cell_keep (w' := w.alloc (.cells #[.int .i64 pw, .int .i64 np, .slice (some ⟨b1, off, none⟩) n cap] 61)) below_box c2
  have c3 := cell_keep (w' := w.alloc (.cells #[.int .i64 pw, .int .i64 np, .slice (some ⟨b1, off, none⟩) n cap] 61)) below_box c3
  go_enter Try.func37, Try.ntmps37
  go_wp2_with fail
  refine (hs.out _).mono ?_
  rintro e w1 ⟨rfl, rfl⟩
  cases A
  · go_wp2
    go_ret
    exact ⟨ret_bool E.out.symm, below_2⟩
  · go_wp2_with fail
    refine (hu.out _).mono ?_
    rintro e w1 ⟨rfl, rfl⟩
    cases B
    · go_wp2
      go_ret
      exact ⟨ret_bool E.out.symm, below_2⟩
    · go_wp2_with fail
      refine (hp.out _).mono ?_
      rintro e w1 ⟨rfl, rfl⟩
      go_wp2
      go_ret
      exact ⟨ret_bool E.out.symm, below_2⟩

/-- Does the last large page before place m reach b pages ahead? -/
def ownedAt (pw np : Int) (ps : List Pg) : Nat → Int → Bool
  | 0, _ => false
  | m + 1, b => if (ps.getD m Pg.zero).kind = 2 then decide (b < needV pw np (ps.getD m Pg.zero).used) else ownedAt pw np ps m (b + 1)
def ownedB (pw np : Int) (ps : List Pg) (i : Nat) : Bool := ownedAt pw np ps i 1

set_option maxHeartbeats 1600000 in
theorem towned_is (pw np : Int) (p : Option Addr) (n cap : Nat) (ps : List Pg) (i : Nat) (w : World) (hr : PRow w p n cap ps) (hi : i < n) (hn : n ≤ 100000) :
    Calls Try.prog 52 #[.agg #[.int .i64 pw, .int .i64 np, .slice p n cap], .int .i64 i] w fun e w' => e = .returned (.bool (ownedB pw np ps i)) ∧ Below w.heap.size w w' := by
  have Hr := Lib.hid (hr.keep (w' := w.alloc (.cells #[.int .i64 pw, .int .i64 np, .slice p n cap] 61)) below_box)
  have Hlen := Lib.hid hr.len
  have hlt : (i : Int) < n := by omega
  obtain ⟨R, hR⟩ : ∃ R, Hid (ownedAt pw np ps i 1 = R) := ⟨_, rfl⟩
  rw [show ownedB pw np ps i = R from hR.out]
  clear hr
  go_enter Try.func52, Try.ntmps52
  go_wp2
  go_loopw [5] (fun b wr => ∃ m k : Nat, m + k = i + 1 ∧ 1 ≤ k ∧ ownedAt pw np ps m k = R ∧ b = .int .i64 k ∧ Below (w.alloc (.cells #[.int .i64 pw, .int .i64 np, .slice p n cap] 61)).heap.size (w.alloc (.cells #[.int .i64 pw, .int .i64 np, .slice p n cap] 61)) wr) (fun b _ => i + 1 - (intOf b).toNat)
  case atStart => exact ⟨i, 1, by omega, by omega, hR.out, rfl, Below.refl _ _⟩
  case round =>
    obtain ⟨m, k, hmk, hk, ho, rfl, hb⟩ := hrel
    have Ho := Lib.hid ho
    have t0 := box_cell hb 0 (v := .int .i64 pw) rfl
    have t1 := box_cell hb 1 (v := .int .i64 np) rfl
    have t2 := box_cell hb 2 (v := .slice p n cap) rfl
    have hwB := below_boxed hb
    clear ho
    by_cases hm : m = 0
    · subst hm
      have E := Lib.hid (show false = R from Ho.out)
      go_wp2
      go_ret
      exact ⟨ret_bool E.out, hwB⟩
    · obtain ⟨J, rfl⟩ : ∃ J, m = J + 1 := ⟨m - 1, by omega⟩
      have hJ : (i : Int) - (k : Int) = (J : Int) := by omega
      have hki : (k : Int) ≤ i := by omega
      have hJn : (J : Int) < n := by omega
      obtain ⟨x, b1, off, hx, rfl, c0, c1, c2, c3⟩ := (Hr.out.keep hb).at_ (k := J) (by omega)
      have hstep : ownedAt pw np ps (J + 1) k = if x.kind = 2 then decide ((k : Int) < needV pw np x.used) else ownedAt pw np ps J (k + 1) := by rw [ownedAt, getD_at hx]
      have Hst := Lib.hid hstep
      have lwr := cell_lt t0
      simp only [] at lwr
      clear hstep hx hm
      by_cases h2 : x.kind = 2
      · have Hc := Lib.hid (fun w => need_any pw np x.used w)
        have E := Lib.hid (show decide ((k : Int) < needV pw np x.used) = R from by rw [← Ho.out, Hst.out, if_pos h2])
        rw [h2] at c0
        clear h2
        go_wp2_with fail
        refine (Hc.out _).mono ?_
        rintro e w1 ⟨rfl, hb1⟩
        go_wp2
        go_ret
        exact ⟨ret_bool E.out, bthen hwB (below_boxed hb1)⟩
      · have b2 : (x.kind == 2) = false := beq_eq_false_iff_ne.2 h2
        have E := Lib.hid (show ownedAt pw np ps J (k + 1 : Nat) = R from by rw [← Ho.out, Hst.out, if_neg h2]; rfl)
        clear h2
        go_wp2
        go_roundw
        case rel => exact ⟨J, k + 1, by omega, by omega, E.out, by go_num, hb.trans (below_box.mono (by have := hb.size; omega))⟩
        case measure => simp [intOf]; omega

def tailOK (pw np : Int) (ps : List Pg) (i : Nat) (x : Pg) : Bool := decide (x.used = 0 ∧ x.pins = 0) && ownedB pw np ps i

set_option maxHeartbeats 800000 in
theorem ttail_is (pw np : Int) (p : Option Addr) (n cap : Nat) (ps : List Pg) (i : Nat) (x : Pg) (w : World) (hr : PRow w p n cap ps) (hx : ps[i]? = some x) (hn : n ≤ 100000) :
    Calls Try.prog 39 #[.agg #[.int .i64 pw, .int .i64 np, .slice p n cap], .int .i64 i] w fun e w' => e = .returned (.bool (tailOK pw np ps i x)) ∧ Below w.heap.size w w' := by
  have hl := hr.i63.2
  have hin : i < n := by have := (List.getElem?_eq_some_iff.1 hx).1; rw [hr.len] at this; omega
  have hlt : (i : Int) < n := by omega
  have ho := Lib.hid (fun w (h : PRow w p n cap ps) => towned_is pw np p n cap ps i w h hin hn)
  have Hr := Lib.hid hr
  obtain ⟨x', b1, off, hx', rfl, c0, c1, c2, c3⟩ := hr.at_ (k := i) hin
  obtain rfl : x = x' := by rw [hx] at hx'; exact Option.some.inj hx'
  clear hr hx hx'
  have c0 := cell_keep (w' := w.alloc (.cells #[.int .i64 pw, .int .i64 np, .slice (some ⟨b1, off, none⟩) n cap] 61)) below_box c0
  have c1 := cell_keep (w' := w.alloc (.cells #[.int .i64 pw, .int .i64 np, .slice (some ⟨b1, off, none⟩) n cap] 61)) below_box c1
  have c2 := cell_keep (w' := w.alloc (.cells #[.int .i64 pw, .int .i64 np, .slice (some ⟨b1, off, none⟩) n cap] 61)) below_box c2
  have c3 := cell_keep (w' := w.alloc (.cells #[.int .i64 pw, .int .i64 np, .slice (some ⟨b1, off, none⟩) n cap] 61)) below_box c3
  by_cases h1 : x.used = 0
  · by_cases h2 : x.pins = 0
    · have E := Lib.hid (show tailOK pw np ps i x = ownedB pw np ps i from by unfold tailOK; rw [decide_eq_true (And.intro h1 h2), Bool.true_and])
      rw [E.out]
      rw [h1] at c2
      rw [h2] at c3
      clear h1 h2 E
      go_enter Try.func39, Try.ntmps39
      go_wp2_with fail
      refine (ho.out _ (Hr.out.keep below_2)).mono ?_
      rintro e w1 ⟨rfl, hb1⟩
      go_wp2
      go_ret
      exact ⟨rfl, bthen below_2 hb1⟩
    · have E := Lib.hid (show tailOK pw np ps i x = false from by unfold tailOK; rw [decide_eq_false fun h => h2 h.2, Bool.false_and])
      rw [E.out]
      rw [h1] at c2
      have b3 : (x.pins == 0) = false := beq_eq_false_iff_ne.2 h2
      clear h1 h2 E
      go_enter Try.func39, Try.ntmps39
      go_wp2
      go_ret
      exact ⟨rfl, below_2⟩
  · have E := Lib.hid (show tailOK pw np ps i x = false from by unfold tailOK; rw [decide_eq_false fun h => h1 h.1, Bool.false_and])
    rw [E.out]
    have b2 : (x.used == 0) = false := beq_eq_false_iff_ne.2 h1
    clear h1 E
    go_enter Try.func39, Try.ntmps39
    go_wp2
    go_ret
    exact ⟨rfl, below_2⟩
end Go.Proofs.Ytbenklhbcgiacaa
