/- Contracts of package scope: validSlots, Valid. -/
import Derived.Test.YtapfbnhcndifhaaScC
namespace Go.Proofs.Ytapfbnhcndifhaa
open Go.RowKit

theorem slotB_iff {l : Loc} {k : Nat} {s : Sl} : slotB l k s = true ↔ prevSt l.sl k < s.st ∧ issB l.is k s.st = true ∧ (s.lv = true ↔ s.rf ≠ 0) := by
  unfold slotB
  have e : (s.lv == decide (s.rf ≠ 0)) = true ↔ (s.lv = true ↔ s.rf ≠ 0) := by
    rw [beq_iff_eq, Bool.eq_iff_iff (a := s.lv), decide_eq_true_eq]
  rw [Bool.and_eq_true, Bool.and_eq_true, decide_eq_true_eq, and_assoc, e]
theorem prevSt_succ {sl : List Sl} {k : Nat} {s : Sl} (h : sl[k]? = some s) : prevSt sl (k + 1) = s.st := by rw [prevSt, h]

set_option maxRecDepth 100000 in
set_option maxHeartbeats 3200000 in
theorem validSlots_any (pa : Option Addr) (na ca : Nat) (pb : Option Addr) (nb cb : Nat) (pc : Option Addr) (nc cc : Nat) (l : Loc) (w : World) (hr : LRow w pa na ca pb nb cb pc nc cc l) :
    Calls Try.prog 50 #[.agg #[.slice pa na ca, .slice pb nb cb, .slice pc nc cc]] w fun e w' => e = .returned (.bool (okSl l)) ∧ Below w.heap.size w w' := by
  obtain ⟨h63a, h63b, h63c⟩ := hr.i63
  obtain ⟨la, lb, lc⟩ := hr.lens
  have Hl := Lib.hid (And.intro la (And.intro lb lc))
  have Hr := Lib.hid (fun w' (h : Below w.heap.size w w') => hr.keep h)
  clear hr la lb lc
  go_enter Try.func50, Try.ntmps50
  go_wp2
  obtain ⟨w1, hw1⟩ : ∃ w1, w.alloc (.cells #[.slice pa na ca, .slice pb nb cb, .slice pc nc cc] 28) = w1 := ⟨_, rfl⟩
  have d0 : w1.cell? ⟨w.heap.size, 0, none⟩ = some (.slice pa na ca) := by rw [← hw1]; simp
  have d1 : w1.cell? ⟨w.heap.size, 1, none⟩ = some (.slice pb nb cb) := by rw [← hw1]; simp
  have d2 : w1.cell? ⟨w.heap.size, 2, none⟩ = some (.slice pc nc cc) := by rw [← hw1]; simp
  have hB : Below w.heap.size w w1 := by rw [← hw1]; exact below_box
  rw [hw1]
  clear hw1
  go_loopw [3, 9] (fun t i wr => ∃ (k : Nat) (last : Int), k ≤ na ∧ prevSt l.sl k = last ∧ (∀ j s, j < k → l.sl[j]? = some s → slotB l j s = true) ∧ t = .int .i64 last ∧ i = .int .i64 k ∧ Below w1.heap.size w1 wr) (fun _ i _ => na - (intOf i).toNat)
  case atStart => exact ⟨0, 0, by omega, rfl, fun j s h => absurd h (Nat.not_lt_zero _), rfl, rfl, Below.refl _ _⟩
  case round =>
    obtain ⟨k, last, hk, hp, hf, rfl, rfl, hb⟩ := hrel
    have Hp := Lib.hid hp
    have Hf := Lib.hid hf
    clear hf hp
    by_cases hlt : k < na
    · have hlt2 : (k : Int) < na := by omega
      have HR := Lib.hid (Hr.out wr (hB.trans (hb.mono hB.size)))
      obtain ⟨x, b, off, hx, rfl, c0, c1, c2⟩ := slot_at HR.out.sl hlt
      have Hx := Lib.hid hx
      have e0 := cell_keep hb d0
      have e1 := cell_keep hb d1
      have e2 := cell_keep hb d2
      have hlo := cell_lt e0
      have hne : w.heap.size ≠ wr.heap.size := Nat.ne_of_lt hlo
      clear hx
      obtain ⟨st, rf, lv⟩ := x
      simp only at c0 c1 c2
      have his := Lib.hid (fun w h => issued_any (.slice (some ⟨b, off, none⟩) na ca) (.slice pb nb cb) pc nc cc l.is k st w h)
      have hb0 : Below w.heap.size w wr := hB.trans (hb.mono hB.size)
      by_cases h1 : last < st
      · cases hi : issB l.is k st
        · have Hno := Lib.hid (okSl_no Hx.out (by rw [← Bool.not_eq_true, slotB_iff]; simp [hi]))
          rw [hi] at his
          clear hi
          go_wp2_with (((go_at_call 57; refine (his.out _ (HR.out.is.keep below_box)).mono ?_); rintro e w2 ⟨rfl, hb2⟩))
          go_ret
          exact ⟨ret_bool Hno.out.symm, bthen hb0 (below_boxed hb2)⟩
        · rw [hi] at his
          have Hi := Lib.hid hi
          clear hi
          by_cases h2 : rf = 0
          · have hb2' : (rf != 0) = false := by simpa using h2
            cases lv
            · have Hs := Lib.hid (slotB_iff (l := l) (k := k) (s := ⟨st, rf, false⟩).2 ⟨by rw [Hp.out]; exact h1, Hi.out, by simp [h2]⟩)
              clear h2
              go_wp2_with (((go_at_call 57; refine (his.out _ (HR.out.is.keep below_box)).mono ?_); rintro e w2 ⟨rfl, hb2⟩; have f0 := box_cell hb2 0 rfl; have f1 := box_cell hb2 1 rfl; have f2 := box_cell hb2 2 rfl))
              go_roundw
              case rel => exact ⟨k + 1, st, by omega, prevSt_succ Hx.out, fun j s hj hs => by
                  by_cases e : j = k
                  · subst e; rw [Hx.out] at hs; cases hs; exact Hs.out
                  · exact Hf.out j s (by omega) hs, rfl, by go_num, bthen hb (below_boxed hb2)⟩
              case measure => simp [intOf]; omega
            · have Hno := Lib.hid (okSl_no Hx.out (by rw [← Bool.not_eq_true, slotB_iff]; simp [h2]))
              clear h2
              go_wp2_with (((go_at_call 57; refine (his.out _ (HR.out.is.keep below_box)).mono ?_); rintro e w2 ⟨rfl, hb2⟩; have f0 := box_cell hb2 0 rfl; have f1 := box_cell hb2 1 rfl; have f2 := box_cell hb2 2 rfl))
              go_ret
              exact ⟨ret_bool Hno.out.symm, bthen hb0 (below_boxed hb2)⟩
          · have hb2' : (rf != 0) = true := bne_iff_ne.2 h2
            cases lv
            · have Hno := Lib.hid (okSl_no Hx.out (by rw [← Bool.not_eq_true, slotB_iff]; simp [h2]))
              clear h2
              go_wp2_with (((go_at_call 57; refine (his.out _ (HR.out.is.keep below_box)).mono ?_); rintro e w2 ⟨rfl, hb2⟩; have f0 := box_cell hb2 0 rfl; have f1 := box_cell hb2 1 rfl; have f2 := box_cell hb2 2 rfl))
              go_ret
              exact ⟨ret_bool Hno.out.symm, bthen hb0 (below_boxed hb2)⟩
            · have Hs := Lib.hid (slotB_iff (l := l) (k := k) (s := ⟨st, rf, true⟩).2 ⟨by rw [Hp.out]; exact h1, Hi.out, by simp [h2]⟩)
              clear h2
              go_wp2_with (((go_at_call 57; refine (his.out _ (HR.out.is.keep below_box)).mono ?_); rintro e w2 ⟨rfl, hb2⟩; have f0 := box_cell hb2 0 rfl; have f1 := box_cell hb2 1 rfl; have f2 := box_cell hb2 2 rfl))
              go_roundw
              case rel => exact ⟨k + 1, st, by omega, prevSt_succ Hx.out, fun j s hj hs => by
                  by_cases e : j = k
                  · subst e; rw [Hx.out] at hs; cases hs; exact Hs.out
                  · exact Hf.out j s (by omega) hs, rfl, by go_num, bthen hb (below_boxed hb2)⟩
              case measure => simp [intOf]; omega
      · have Hno := Lib.hid (okSl_no Hx.out (by rw [← Bool.not_eq_true, slotB_iff, Hp.out]; exact fun h => h1 h.1))
        go_wp2
        go_ret
        exact ⟨ret_bool Hno.out.symm, bthen hb0 below_box⟩
    · have Hall := Lib.hid (okSl_iff.2 fun j s hs => Hf.out j s (by have := (List.getElem?_eq_some_iff.1 hs).1; rw [Hl.out.1] at this; omega) hs)
      go_wp2
      go_ret
      exact ⟨ret_bool Hall.out.symm, hB.trans (hb.mono hB.size)⟩

set_option maxRecDepth 100000 in
set_option maxHeartbeats 1600000 in
/-- Whether local handles are valid. -/
theorem scValid_any (pa : Option Addr) (na ca : Nat) (pb : Option Addr) (nb cb : Nat) (pc : Option Addr) (nc cc : Nat) (l : Loc) (w : World) (hr : LRow w pa na ca pb nb cb pc nc cc l) :
    Calls Try.prog 35 #[.agg #[.slice pa na ca, .slice pb nb cb, .slice pc nc cc]] w fun e w' => e = .returned (.bool (okB l)) ∧ Below w.heap.size w w' := by
  have Hr := Lib.hid (fun w' (h : Below w.heap.size w w') => hr.keep h)
  have hi := Lib.hid (fun w h => validIssued_any pc nc cc l.is w h)
  have hs := Lib.hid (fun w h => validScopes_any pa na ca pb nb cb pc nc cc l w h)
  have ht := Lib.hid (fun w h => validSlots_any pa na ca pb nb cb pc nc cc l w h)
  unfold okB
  clear hr
  cases h1 : issAll l.is
  · simp only [Bool.false_and]
    rw [h1] at hi
    clear h1
    go_enter Try.func35, Try.ntmps35
    go_wp2_with (((go_at_call 48; refine (hi.out _ (Hr.out _ below_box).is).mono ?_); rintro e w2 ⟨rfl, rfl⟩))
    go_ret
    exact ⟨rfl, below_box⟩
  · simp only [Bool.true_and]
    rw [h1] at hi
    clear h1
    cases h2 : okSc l
    · simp only [Bool.false_and]
      rw [h2] at hs
      clear h2
      go_enter Try.func35, Try.ntmps35
      go_wp2_with (first
        | ((go_at_call 48; refine (hi.out _ (Hr.out _ below_box).is).mono ?_); rintro e w2 ⟨rfl, rfl⟩)
        | ((go_at_call 49; refine (hs.out _ (Hr.out _ below_box)).mono ?_); rintro e w2 ⟨rfl, hb2⟩))
      go_ret
      exact ⟨rfl, below_boxed hb2⟩
    · simp only [Bool.true_and]
      rw [h2] at hs
      clear h2
      go_enter Try.func35, Try.ntmps35
      go_wp2_with (first
        | ((go_at_call 48; refine (hi.out _ (Hr.out _ below_box).is).mono ?_); rintro e w2 ⟨rfl, rfl⟩)
        | ((go_at_call 49; refine (hs.out _ (Hr.out _ below_box)).mono ?_); rintro e w2 ⟨rfl, hb2⟩; have f0 := box_cell hb2 0 rfl; have f1 := box_cell hb2 1 rfl; have f2 := box_cell hb2 2 rfl; have HB := Lib.hid (below_boxed hb2))
        | ((go_at_call 50; refine (ht.out _ (Hr.out _ HB.out)).mono ?_); rintro e w3 ⟨rfl, hb3⟩))
      go_ret
      exact ⟨rfl, bthen HB.out hb3⟩
end Go.Proofs.Ytapfbnhcndifhaa
