/- Contract of page.New. -/
import Derived.Test.YtbenklhbcgiacaaPgQ
namespace Go.Proofs.Ytbenklhbcgiacaa
open Go.RowKit

/-- A row of words where the six fields of a struct without words are stored. -/
theorem SRow.set6o {w : World} {q : Option Addr} {m c b : Nat} {xs : List Int} {y0 y1 y2 y3 y4 y5 : Value} (h : SRow w .u64 q m c xs) (ho : Own6 w b y0 y1 y2 y3 y4 y5)
    (h0 : ∀ x, y0 ≠ .int .u64 x) (h1 : ∀ x, y1 ≠ .int .u64 x) (h2 : ∀ x, y2 ≠ .int .u64 x) (h3 : ∀ x, y3 ≠ .int .u64 x) (h4 : ∀ x, y4 ≠ .int .u64 x) (h5 : ∀ x, y5 ≠ .int .u64 x) (x0 x1 x2 x3 x4 x5 : Value) :
    SRow ((((((w.setCell ⟨b, 0, none⟩ x0).setCell ⟨b, 1, none⟩ x1).setCell ⟨b, 2, none⟩ x2).setCell ⟨b, 3, none⟩ x3).setCell ⟨b, 4, none⟩ x4).setCell ⟨b, 5, none⟩ x5) .u64 q m c xs := by
  refine ⟨h.len, h.le, h.max, fun i x hx => ?_⟩
  obtain ⟨g, off, hp, hcell⟩ := h.row i x hx
  refine ⟨g, off, hp, ?_⟩
  have hne : ∀ (j : Nat) (y : Value), w.cell? ⟨b, j, none⟩ = some y → (∀ x, y ≠ .int .u64 x) → (⟨b, j, none⟩ : Addr) ≠ ⟨g, off + i, none⟩ := fun j y hc hy e => by rw [← e, hc] at hcell; exact hy x (Option.some.inj hcell)
  rw [World.cell?_setCell_other _ _ _ _ (hne 5 _ ho.c5 h5), World.cell?_setCell_other _ _ _ _ (hne 4 _ ho.c4 h4), World.cell?_setCell_other _ _ _ _ (hne 3 _ ho.c3 h3), World.cell?_setCell_other _ _ _ _ (hne 2 _ ho.c2 h2), World.cell?_setCell_other _ _ _ _ (hne 1 _ ho.c1 h1), World.cell?_setCell_other _ _ _ _ (hne 0 _ ho.c0 h0)]
  exact hcell

end Go.Proofs.Ytbenklhbcgiacaa
