/- Contracts of layer 14: Refs, the program's and the reference's. -/
import Derived.Test.YtapfbnhcndifhaaScF
import Derived.Test.YtapfbnhcndifhaaScI
set_option linter.unusedVariables false
namespace Go.Proofs.Ytapfbnhcndifhaa
open Go.RowKit

/-- What live slots refer to. -/
def refsOf : List Sl → List Int
  | [] => []
  | s :: r => if s.lv then s.rf :: refsOf r else refsOf r
theorem refsOf_append : ∀ a b : List Sl, refsOf (a ++ b) = refsOf a ++ refsOf b
  | [], b => rfl
  | s :: r, b => by rw [List.cons_append, refsOf, refsOf, refsOf_append r b]; split <;> rfl
theorem refsOf_len : ∀ a : List Sl, (refsOf a).length = cnt a
  | [] => rfl
  | s :: r => by rw [refsOf, cnt, ← refsOf_len r]; split <;> rfl
theorem refsOf_take {l : List Sl} {k : Nat} {s : Sl} (h : l[k]? = some s) : refsOf (l.take (k + 1)) = refsOf (l.take k) ++ if s.lv then [s.rf] else [] := by
  rw [take_snoc' h, refsOf_append]; rfl
def refsV (l : Loc) : List Int := if okB l then refsOf l.sl else []
/-- A call returned a slice of words that reads as xs. -/
def RetU (xs : List Int) (e : Ending) (w' : World) : Prop := ∃ q m c, e = .returned (.slice q m c) ∧ SRow w' .u64 q m c xs
theorem RetU.nil (w : World) : RetU [] (.returned (.slice none 0 0)) w := ⟨none, 0, 0, rfl, SRow.nil _ _ _⟩
theorem sl_le {l : Loc} (h : okB l = true) : l.sl.length ≤ 4096 := by
  obtain ⟨h1, _, h3⟩ := okB_iff.1 h
  have h4 := (issAll_iff.1 h1).1
  have hb : ∀ (k : Nat) (s : Sl), l.sl[k]? = some s → (k : Int) + 1 ≤ s.st := by
    intro k
    induction k with
    | zero =>
      intro s hs
      have := issB_iff.1 (slotB_iff.1 (okSl_iff.1 h3 0 s hs)).2.1
      omega
    | succ j ih =>
      intro s hs
      obtain ⟨s', hs'⟩ : ∃ s', l.sl[j]? = some s' := ⟨_, List.getElem?_eq_getElem (by have := (List.getElem?_eq_some_iff.1 hs).1; omega)⟩
      have h5 := (slotB_iff.1 (okSl_iff.1 h3 (j + 1) s hs)).1
      rw [prevSt_succ hs'] at h5
      have := ih s' hs'
      omega
  cases hl : l.sl.length with
  | zero => omega
  | succ k =>
    obtain ⟨s, hs⟩ : ∃ s, l.sl[k]? = some s := ⟨_, List.getElem?_eq_getElem (by omega)⟩
    have h5 := hb k s hs
    have h6 := issB_iff.1 (slotB_iff.1 (okSl_iff.1 h3 k s hs)).2.1
    omega

end Go.Proofs.Ytapfbnhcndifhaa
