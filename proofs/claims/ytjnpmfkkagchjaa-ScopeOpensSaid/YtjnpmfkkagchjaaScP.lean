/- The law ScopeValid of layer 14. -/
import Derived.Test.YtjnpmfkkagchjaaScO
import Derived.Test.YtjnpmfkkagchjaaSame
set_option linter.unusedVariables false
set_option linter.unusedSimpArgs false
namespace Go.Proofs.Ytjnpmfkkagchjaa
open Go.RowKit

def lightB (na nb nc : Nat) : Bool := decide (na ≤ 200) && decide (nb ≤ 100) && decide (nc ≤ 5000)
theorem light_any (pa : Option Addr) (na ca : Nat) (pb : Option Addr) (nb cb : Nat) (pc : Option Addr) (nc cc : Nat) (w : World) (ha : (na : Int) ≤ 9223372036854775807) (hb : (nb : Int) ≤ 9223372036854775807) (hc : (nc : Int) ≤ 9223372036854775807) :
    Calls Try.prog 9 #[.agg #[.slice pa na ca, .slice pb nb cb, .slice pc nc cc]] w fun e w' => e = .returned (.bool (lightB na nb nc)) ∧ Below w.heap.size w w' := by
  unfold lightB
  by_cases h1 : (na : Int) ≤ 200
  · by_cases h2 : (nb : Int) ≤ 100
    · go_enter Try.func9, Try.ntmps9
      go_wp2
      go_ret
      exact ⟨ret_bool (by rw [Bool.eq_iff_iff]; simp; omega), below_box⟩
    · go_enter Try.func9, Try.ntmps9
      go_wp2
      go_ret
      exact ⟨ret_bool (by rw [Bool.eq_iff_iff]; simp; omega), below_box⟩
  · go_enter Try.func9, Try.ntmps9
    go_wp2
    go_ret
    exact ⟨ret_bool (by rw [Bool.eq_iff_iff]; simp; omega), below_box⟩

theorem sval_held {B : Nat} {a b c : Value} {w0 w : World} (pa : Option Addr) (na ca : Nat) (pb : Option Addr) (nb cb : Nat) (pc : Option Addr) (nc cc : Nat) (l : Loc) {r : Bool} (h : w.cell? ⟨B, 0, none⟩ = some a ∧ w.cell? ⟨B, 1, none⟩ = some b ∧ w.cell? ⟨B, 2, none⟩ = some c ∧ Below w0.heap.size w0 w) (hr : LRow w0 pa na ca pb nb cb pc nc cc l) (ho : okB l = r) :
    Calls Try.prog 11 #[.agg #[.slice pa na ca, .slice pb nb cb, .slice pc nc cc]] w fun e w' => e = .returned (.bool r) ∧ Below w.heap.size w w' := by
  subst ho; exact scValid_any pa na ca pb nb cb pc nc cc l w (hr.keep h.2.2.2)
theorem rval_held {B : Nat} {a b c : Value} {w0 w : World} (pa : Option Addr) (na ca : Nat) (pb : Option Addr) (nb cb : Nat) (pc : Option Addr) (nc cc : Nat) (l : Loc) {r : Bool} (h : w.cell? ⟨B, 0, none⟩ = some a ∧ w.cell? ⟨B, 1, none⟩ = some b ∧ w.cell? ⟨B, 2, none⟩ = some c ∧ Below w0.heap.size w0 w) (hr : LRow w0 pa na ca pb nb cb pc nc cc l) (ho : okB l = r) :
    Calls Try.prog 12 #[.agg #[.slice pa na ca, .slice pb nb cb, .slice pc nc cc]] w fun e w' => e = .returned (.bool r) ∧ Below w.heap.size w w' := by
  subst ho; exact refVal_any pa na ca pb nb cb pc nc cc l w (hr.keep h.2.2.2)
theorem sref_held {B : Nat} {a b c : Value} {w0 w : World} (pa : Option Addr) (na ca : Nat) (pb : Option Addr) (nb cb : Nat) (pc : Option Addr) (nc cc : Nat) (l : Loc) {r : List Int} (h : w.cell? ⟨B, 0, none⟩ = some a ∧ w.cell? ⟨B, 1, none⟩ = some b ∧ w.cell? ⟨B, 2, none⟩ = some c ∧ Below w0.heap.size w0 w) (hr : LRow w0 pa na ca pb nb cb pc nc cc l) (ho : refsV l = r) :
    Calls Try.prog 14 #[.agg #[.slice pa na ca, .slice pb nb cb, .slice pc nc cc]] w fun e w' => RetU r e w' ∧ Below w.heap.size w w' := by
  subst ho; exact scRefs_any pa na ca pb nb cb pc nc cc l w (hr.keep h.2.2.2)
theorem rref_held {B : Nat} {a b c : Value} {w0 w : World} (pa : Option Addr) (na ca : Nat) (pb : Option Addr) (nb cb : Nat) (pc : Option Addr) (nc cc : Nat) (l : Loc) {r : List Int} (h : w.cell? ⟨B, 0, none⟩ = some a ∧ w.cell? ⟨B, 1, none⟩ = some b ∧ w.cell? ⟨B, 2, none⟩ = some c ∧ Below w0.heap.size w0 w) (hr : LRow w0 pa na ca pb nb cb pc nc cc l) (ho : refsV l = r) :
    Calls Try.prog 15 #[.agg #[.slice pa na ca, .slice pb nb cb, .slice pc nc cc]] w fun e w' => RetU r e w' ∧ Below w.heap.size w w' := by
  subst ho; exact refRefs_any pa na ca pb nb cb pc nc cc l w (hr.keep h.2.2.2)
theorem same_yes (p q : Option Addr) (n m cap cap' : Nat) (xs : List Int) (w : World) (hr : SRow w .u64 p n cap xs) (hr' : SRow w .u64 q m cap' xs) :
    Calls Try.prog 13 #[.slice p n cap, .slice q m cap'] w fun e w' => e = .returned (.bool true) ∧ Below w.heap.size w w' :=
  (same_any p q n m cap cap' xs xs w (Lib.hid hr.len) (Lib.hid hr'.len) hr.i63.2 hr.row hr'.row).mono fun e w' h => ⟨by rw [h.1]; simp, h.2.below _⟩

set_option maxRecDepth 100000 in
set_option maxHeartbeats 3200000 in
theorem lawValid (pa : Option Addr) (na ca : Nat) (pb : Option Addr) (nb cb : Nat) (pc : Option Addr) (nc cc : Nat) (l : Loc) (w : World) (hr : LRow w pa na ca pb nb cb pc nc cc l) :
    Calls Try.prog 3 #[.agg #[.slice pa na ca, .slice pb nb cb, .slice pc nc cc]] w fun e w' => e = .returned (.bool true) ∧ Below w.heap.size w w' := by
  obtain ⟨h63a, h63b, h63c⟩ := hr.i63
  have Hr := Lib.hid (fun w' (h : Below w.heap.size w w') => hr.keep h)
  have hl := Lib.hid (fun w => light_any pa na ca pb nb cb pc nc cc w h63a h63b h63c)
  clear hr
  cases hlt : lightB na nb nc
  · rw [hlt] at hl
    clear hlt
    go_enter Try.func3, Try.ntmps3
    go_wp2_with (((go_at_call 9; refine (hl.out _).mono ?_); rintro e w1 ⟨rfl, hb1⟩))
    go_ret
    exact ⟨rfl, below_boxed hb1⟩
  · rw [hlt] at hl
    clear hlt
    obtain ⟨OK, hOK⟩ : ∃ OK, okB l = OK := ⟨_, rfl⟩
    have HOK := Lib.hid hOK
    clear hOK
    obtain ⟨xs, hxs⟩ : ∃ xs, Hid (refsV l = xs) := ⟨_, rfl⟩
    go_enter Try.func3, Try.ntmps3
    go_wp2_with (((go_at_call 9; refine (hl.out _).mono ?_); rintro e w1 ⟨rfl, hb1⟩; have d0 := box_cell hb1 0 rfl; have d1 := box_cell hb1 1 rfl; have d2 := box_cell hb1 2 rfl; have HB := Lib.hid (below_boxed hb1)))
    clear hb1
    cases OK
    all_goals
      go_region_held3 (fun w' => w'.cell? ⟨w.heap.size, 0, none⟩ = some (.slice pa na ca) ∧ w'.cell? ⟨w.heap.size, 1, none⟩ = some (.slice pb nb cb) ∧ w'.cell? ⟨w.heap.size, 2, none⟩ = some (.slice pc nc cc) ∧ Below w1.heap.size w1 w')
        (first | exact ⟨d0, d1, d2, Below.drew (Below.refl _ _)⟩ | (exact held3_keep ‹_› hbq) | (exact held3_keep ‹_› hbA) | (exact held3_keep ‹_› hbB) | assumption)
        (first
          | (go_at_call 10; refine (awake14 _).mono ?_; rintro e w' ⟨rfl, hbq⟩)
          | (go_at_call 11; refine (sval_held (B := w.heap.size) (a := .slice pa na ca) (b := .slice pb nb cb) (c := .slice pc nc cc) (w0 := w1) pa na ca pb nb cb pc nc cc l ?_ (Hr.out _ HB.out) HOK.out).mono ?_; (assumption); rintro e w' ⟨rfl, hbq⟩)
          | (go_at_call 12; refine (rval_held (B := w.heap.size) (a := .slice pa na ca) (b := .slice pb nb cb) (c := .slice pc nc cc) (w0 := w1) pa na ca pb nb cb pc nc cc l ?_ (Hr.out _ HB.out) HOK.out).mono ?_; (assumption); rintro e w' ⟨rfl, hbq⟩)
          | (go_at_call 14; refine (sref_held (B := w.heap.size) (a := .slice pa na ca) (b := .slice pb nb cb) (c := .slice pc nc cc) (w0 := w1) pa na ca pb nb cb pc nc cc l ?_ (Hr.out _ HB.out) hxs.out).mono ?_; (assumption); rintro e w' ⟨⟨qA, mA, cA, rfl, hqA⟩, hbA⟩)
          | (go_at_call 15; refine (rref_held (B := w.heap.size) (a := .slice pa na ca) (b := .slice pb nb cb) (c := .slice pc nc cc) (w0 := w1) pa na ca pb nb cb pc nc cc l ?_ (Hr.out _ HB.out) hxs.out).mono ?_; (assumption); rintro e w' ⟨⟨qB, mB, cB, rfl, hqB⟩, hbB⟩)
          | (go_at_call 13; refine (same_yes _ _ _ _ _ _ _ _ (hqA.keep hbB) hqB).mono ?_; rintro e w' ⟨rfl, hbq⟩))
      rename_i hH
      have HB5 := Lib.hid (bthen HB.out hH.2.2.2)
      clear hH
      go_wp2
      go_ret
      exact ⟨rfl, HB5.out⟩
end Go.Proofs.Ytjnpmfkkagchjaa
