/- Rows of structs of three cells as they are read. -/
import Derived.Test.YtggaaobpaodigaaSlM
import Derived.Test.YtggaaobpaodigaaRow
import Derived.Lib.SmallJoins
import Derived.WideShapes
namespace Go.Proofs.Ytggaaobpaodigaa
open Go.RowKit Go.ChangeShapes Go.WideShapes Go.Deep
theorem vrow_mk3S {α : Type} (f : α → List Value) (hf : ∀ x, (f x).length = 3) {w : World} {p : Option Addr} {n cap : Nat} {xs : List α} (hl : xs.length = n) (hle : n ≤ cap) (hm : cap ≤ maxLen)
    (h : ∀ (k : Nat) (x : α), xs[k]? = some x → ∃ b off, p = some ⟨b, off, none⟩ ∧ ∀ j v, (f x)[j]? = some v → w.cell? ⟨b, off + k * 3 + j, none⟩ = some v) : VRow w 3 p n cap (xs.flatMap f) := by
  refine ⟨by rw [flat_len f 3 hf, hl], hle, hm, fun i v hv => ?_⟩
  have hi : i < xs.length * 3 := by have := (List.getElem?_eq_some_iff.1 hv).1; rw [flat_len f 3 hf] at this; exact this
  obtain ⟨k, j, hj, rfl⟩ : ∃ k j, j < 3 ∧ i = k * 3 + j := ⟨i / 3, i % 3, by omega, by omega⟩
  have hx : xs[k]? = some (xs[k]'(by omega)) := List.getElem?_eq_getElem _
  obtain ⟨b, off, hp, hc⟩ := h k _ hx
  rw [flat_at f 3 hf xs k _ j hj hx] at hv
  exact ⟨b, off, hp, by rw [← Nat.add_assoc]; exact hc j v hv⟩
end Go.Proofs.Ytggaaobpaodigaa
