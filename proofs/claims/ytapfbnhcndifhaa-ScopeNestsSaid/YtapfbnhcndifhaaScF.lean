/- Contract of the reference's Valid of layer 14. -/
import Derived.Test.YtapfbnhcndifhaaScE
namespace Go.Proofs.Ytapfbnhcndifhaa
open Go.RowKit

theorem held5_keep {B b1 o1 o2 : Nat} {a b c d e : Value} {w0 w w' : World} (h : w.cell? ⟨B, 0, none⟩ = some a ∧ w.cell? ⟨B, 1, none⟩ = some b ∧ w.cell? ⟨B, 2, none⟩ = some c ∧ w.cell? ⟨b1, o1, none⟩ = some d ∧ w.cell? ⟨b1, o2, none⟩ = some e ∧ Below w0.heap.size w0 w) (hb : Below w.heap.size w w') :
    w'.cell? ⟨B, 0, none⟩ = some a ∧ w'.cell? ⟨B, 1, none⟩ = some b ∧ w'.cell? ⟨B, 2, none⟩ = some c ∧ w'.cell? ⟨b1, o1, none⟩ = some d ∧ w'.cell? ⟨b1, o2, none⟩ = some e ∧ Below w0.heap.size w0 w' :=
  ⟨cell_keep hb h.1, cell_keep hb h.2.1, cell_keep hb h.2.2.1, cell_keep hb h.2.2.2.1, cell_keep hb h.2.2.2.2.1, bthen h.2.2.2.2.2 hb⟩
theorem prevSt_nonneg {l : Loc} {k : Nat} (h : ∀ j s, j < k → l.sl[j]? = some s → slotB l j s = true) (hk : k ≤ l.sl.length) : 0 ≤ prevSt l.sl k := by
  cases k with
  | zero => exact Int.le_refl _
  | succ j =>
    obtain ⟨s, hs⟩ : ∃ s, l.sl[j]? = some s := ⟨_, List.getElem?_eq_getElem (by omega)⟩
    rw [prevSt_succ hs]
    have := issB_iff.1 (slotB_iff.1 (h j s (by omega) hs)).2.1
    omega

end Go.Proofs.Ytapfbnhcndifhaa
