/- The law ScopeLife over its arguments as they are read. -/
import Derived.Test.YtapfbnhcndifhaaScLl
import Derived.Test.YtapfbnhcndifhaaScQ
set_option linter.unusedVariables false
namespace Go.Proofs.Ytapfbnhcndifhaa
open Go.RowKit Go.ChangeShapes Go.WideShapes Go.Deep
theorem vrow_mk4 {α : Type} (f : α → List Value) (hf : ∀ x, (f x).length = 4) {w : World} {p : Option Addr} {n cap : Nat} {xs : List α} (hl : xs.length = n) (hle : n ≤ cap) (hm : cap ≤ maxLen)
    (h : ∀ (k : Nat) (x : α), xs[k]? = some x → ∃ b off, p = some ⟨b, off, none⟩ ∧ ∀ j v, (f x)[j]? = some v → w.cell? ⟨b, off + k * 4 + j, none⟩ = some v) : VRow w 4 p n cap (xs.flatMap f) := by
  refine ⟨by rw [flat_len f 4 hf, hl], hle, hm, fun i v hv => ?_⟩
  have hi : i < xs.length * 4 := by have := (List.getElem?_eq_some_iff.1 hv).1; rw [flat_len f 4 hf] at this; exact this
  obtain ⟨k, j, hj, rfl⟩ : ∃ k j, j < 4 ∧ i = k * 4 + j := ⟨i / 4, i % 4, by omega, by omega⟩
  have hx : xs[k]? = some (xs[k]'(by omega)) := List.getElem?_eq_getElem _
  obtain ⟨b, off, hp, hc⟩ := h k _ hx
  rw [flat_at f 4 hf xs k _ j hj hx] at hv
  exact ⟨b, off, hp, by rw [← Nat.add_assoc]; exact hc j v hv⟩
section
variable {H : Type} {enc : TypeId × Value → H} {w : World} {spare : Nat → Bool} {held : Bool}
theorem open_acts {a0 : Option Addr} {len cap : Nat} {d : DataW H} {p : List MemPlace}
    (h : DataW.Trod enc Try.prog w 0 spare held 22 (.slice a0 len cap) d p) : ∃ sl : List Ac, VRow w 4 a0 len cap (sl.flatMap acC) := by
  obtain ⟨hlc, hm, hr⟩ := open_row Try.underlying22 (C := 4) (by kernel_rfl) (by omega) h
  obtain ⟨ps, hl, hq⟩ := list_of (Q := fun k (x : Ac) => ∃ b off, a0 = some ⟨b, off, none⟩ ∧ ∀ j v, (acC x)[j]? = some v → w.cell? ⟨b, off + k * 4 + j, none⟩ = some v) len fun i hi => by
    obtain ⟨b, off, cs, n, y, ha, hcl, hat, hy⟩ := hr i hi
    have hf := open_cells Try.underlying68 (by kernel_rfl) (by kernel_rfl) hy
    obtain ⟨v0, n0, y0, h0, t0⟩ := hf 0 _ rfl
    obtain ⟨v1, n1, y1, h1, t1⟩ := hf 1 _ rfl
    obtain ⟨v2, n2, y2, h2, t2⟩ := hf 2 _ rfl
    obtain ⟨v3, n3, y3, h3, t3⟩ := hf 3 _ rfl
    obtain ⟨x0, e0, _, _⟩ := DataW.trod_int Try.underlying3 t0
    obtain ⟨x1, e1, _, _⟩ := DataW.trod_int Try.underlying3 t1
    obtain ⟨x2, e2, _, _⟩ := DataW.trod_int Try.underlying3 t2
    obtain ⟨x3, e3, _, _⟩ := DataW.trod_int Try.underlying38 t3
    simp at e0 e1 e2 e3
    subst e0 e1 e2 e3
    refine ⟨⟨x0, x1, x2, x3⟩, b, off, ha, fun j v hv => ?_⟩
    have hj : j < 4 := (List.getElem?_eq_some_iff.1 hv).1
    rw [hat j hj, ← hv]
    rcases (show j = 0 ∨ j = 1 ∨ j = 2 ∨ j = 3 by omega) with rfl | rfl | rfl | rfl
    · rw [h0]; rfl
    · rw [h1]; rfl
    · rw [h2]; rfl
    · rw [h3]; rfl
  exact ⟨ps, vrow_mk4 acC acC_len hl hlc hm hq⟩
end
end Go.Proofs.Ytapfbnhcndifhaa
