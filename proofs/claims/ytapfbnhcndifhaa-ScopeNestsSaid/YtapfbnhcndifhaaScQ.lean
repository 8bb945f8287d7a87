/- Local handles as arguments: opened as they are read. -/
import Derived.Test.YtapfbnhcndifhaaScM
import Derived.Lib.SmallJoins
import Derived.WideShapes
namespace Go.Proofs.Ytapfbnhcndifhaa
open Go.RowKit Go.ChangeShapes Go.WideShapes Go.Deep
theorem vrow_mk3 {α : Type} (f : α → List Value) (hf : ∀ x, (f x).length = 3) {w : World} {p : Option Addr} {n cap : Nat} {xs : List α} (hl : xs.length = n) (hle : n ≤ cap) (hm : cap ≤ maxLen)
    (h : ∀ (k : Nat) (x : α), xs[k]? = some x → ∃ b off, p = some ⟨b, off, none⟩ ∧ ∀ j v, (f x)[j]? = some v → w.cell? ⟨b, off + k * 3 + j, none⟩ = some v) : VRow w 3 p n cap (xs.flatMap f) := by
  refine ⟨by rw [flat_len f 3 hf, hl], hle, hm, fun i v hv => ?_⟩
  have hi : i < xs.length * 3 := by have := (List.getElem?_eq_some_iff.1 hv).1; rw [flat_len f 3 hf] at this; exact this
  obtain ⟨k, j, hj, rfl⟩ : ∃ k j, j < 3 ∧ i = k * 3 + j := ⟨i / 3, i % 3, by omega, by omega⟩
  have hx : xs[k]? = some (xs[k]'(by omega)) := List.getElem?_eq_getElem _
  obtain ⟨b, off, hp, hc⟩ := h k _ hx
  rw [flat_at f 3 hf xs k _ j hj hx] at hv
  exact ⟨b, off, hp, by rw [← Nat.add_assoc]; exact hc j v hv⟩
section
variable {H : Type} {enc : TypeId × Value → H} {P : Program} {w : World} {spare : Nat → Bool} {held : Bool}
theorem slice_of {t e : TypeId} {n : Nat} {v : Value} {y : DataW H × List MemPlace} (ht : P.underlying t = some (.slice e)) (hf : DataW.trod enc P w 0 spare held n t [v] = some y) :
    ∃ a len cap, v = .slice a len cap ∧ DataW.Trod enc P w 0 spare held t (.slice a len cap) y.1 y.2 := by
  rcases open_slice ht hf with ⟨hcs, _⟩ | ⟨a, len', cap', m, n', D, Pl, hcs, _⟩
  · obtain rfl : v = .slice none 0 0 := by simpa using hcs
    exact ⟨none, 0, 0, rfl, n, by simpa [Value.cells] using hf⟩
  · obtain rfl : v = .slice (some a) len' cap' := by simpa using hcs
    exact ⟨some a, len', cap', rfl, n, by simpa [Value.cells] using hf⟩
theorem open_slots {a0 : Option Addr} {len cap : Nat} {d : DataW H} {p : List MemPlace}
    (h : DataW.Trod enc Try.prog w 0 spare held 24 (.slice a0 len cap) d p) : ∃ sl : List Sl, VRow w 3 a0 len cap (sl.flatMap slC) := by
  obtain ⟨hlc, hm, hr⟩ := open_row Try.underlying24 (C := 3) (by kernel_rfl) (by omega) h
  obtain ⟨ps, hl, hq⟩ := list_of (Q := fun k (x : Sl) => ∃ b off, a0 = some ⟨b, off, none⟩ ∧ ∀ j v, (slC x)[j]? = some v → w.cell? ⟨b, off + k * 3 + j, none⟩ = some v) len fun i hi => by
    obtain ⟨b, off, cs, n, y, ha, hcl, hat, hy⟩ := hr i hi
    have hf := open_cells Try.underlying75 (by kernel_rfl) (by kernel_rfl) hy
    obtain ⟨v0, n0, y0, h0, t0⟩ := hf 0 _ rfl
    obtain ⟨v1, n1, y1, h1, t1⟩ := hf 1 _ rfl
    obtain ⟨v2, n2, y2, h2, t2⟩ := hf 2 _ rfl
    obtain ⟨x0, e0, _, _⟩ := DataW.trod_int Try.underlying3 t0
    obtain ⟨x1, e1, _, _⟩ := DataW.trod_int Try.underlying38 t1
    obtain ⟨x2, e2, _⟩ := DataW.trod_bool Try.underlying4 t2
    simp at e0 e1 e2
    subst e0 e1 e2
    refine ⟨⟨x0, x1, x2⟩, b, off, ha, fun j v hv => ?_⟩
    have hj : j < 3 := (List.getElem?_eq_some_iff.1 hv).1
    rw [hat j hj, ← hv]
    rcases (show j = 0 ∨ j = 1 ∨ j = 2 by omega) with rfl | rfl | rfl
    · rw [h0]; rfl
    · rw [h1]; rfl
    · rw [h2]; rfl
  exact ⟨ps, vrow_mk3 slC slC_len hl hlc hm hq⟩
theorem open_scopes {a0 : Option Addr} {len cap : Nat} {d : DataW H} {p : List MemPlace}
    (h : DataW.Trod enc Try.prog w 0 spare held 25 (.slice a0 len cap) d p) : ∃ sl : List Sp, VRow w 3 a0 len cap (sl.flatMap spC) := by
  obtain ⟨hlc, hm, hr⟩ := open_row Try.underlying25 (C := 3) (by kernel_rfl) (by omega) h
  obtain ⟨ps, hl, hq⟩ := list_of (Q := fun k (x : Sp) => ∃ b off, a0 = some ⟨b, off, none⟩ ∧ ∀ j v, (spC x)[j]? = some v → w.cell? ⟨b, off + k * 3 + j, none⟩ = some v) len fun i hi => by
    obtain ⟨b, off, cs, n, y, ha, hcl, hat, hy⟩ := hr i hi
    have hf := open_cells Try.underlying77 (by kernel_rfl) (by kernel_rfl) hy
    obtain ⟨v0, n0, y0, h0, t0⟩ := hf 0 _ rfl
    obtain ⟨v1, n1, y1, h1, t1⟩ := hf 1 _ rfl
    obtain ⟨v2, n2, y2, h2, t2⟩ := hf 2 _ rfl
    obtain ⟨x0, e0, _, _⟩ := DataW.trod_int Try.underlying3 t0
    obtain ⟨x1, e1, _, _⟩ := DataW.trod_int Try.underlying3 t1
    obtain ⟨x2, e2, _⟩ := DataW.trod_bool Try.underlying4 t2
    simp at e0 e1 e2
    subst e0 e1 e2
    refine ⟨⟨x0, x1, x2⟩, b, off, ha, fun j v hv => ?_⟩
    have hj : j < 3 := (List.getElem?_eq_some_iff.1 hv).1
    rw [hat j hj, ← hv]
    rcases (show j = 0 ∨ j = 1 ∨ j = 2 by omega) with rfl | rfl | rfl
    · rw [h0]; rfl
    · rw [h1]; rfl
    · rw [h2]; rfl
  exact ⟨ps, vrow_mk3 spC spC_len hl hlc hm hq⟩
set_option maxRecDepth 100000 in
theorem opn_locals {r : Reach} {b0 : Nat} {v : Value} {d : DataW H} {p : List MemPlace} (hv : Value.okWide Try.prog w r b0 28 v) (h : DataW.Trod enc Try.prog w 0 spare held 28 v d p) :
    ∃ (pa : Option Addr) (na ca : Nat) (pb : Option Addr) (nb cb : Nat) (pc : Option Addr) (nc cc : Nat) (l : Loc), v = .agg #[.slice pa na ca, .slice pb nb cb, .slice pc nc cc] ∧ LRow w pa na ca pb nb cb pc nc cc l := by
  obtain ⟨v0, v1, v2, y0, y1, y2, n, rfl, _, _, t0, t1, t2⟩ := Joins.open_agg3 Try.underlying28 (by kernel_rfl) (by kernel_rfl) hv h
  obtain ⟨pa, na, ca, rfl, h0⟩ := slice_of Try.underlying24 t0
  obtain ⟨pb, nb, cb, rfl, h1⟩ := slice_of Try.underlying25 t1
  obtain ⟨pc, nc, cc, rfl, h2⟩ := slice_of Try.underlying26 t2
  obtain ⟨sl, hsl⟩ := open_slots h0
  obtain ⟨sc, hsc⟩ := open_scopes h1
  obtain ⟨is, his, _⟩ := open_srow Try.underlying26 Try.underlying3 (by kernel_rfl) h2
  exact ⟨pa, na, ca, pb, nb, cb, pc, nc, cc, ⟨sl, sc, is⟩, rfl, hsl, hsc, his⟩
end
end Go.Proofs.Ytapfbnhcndifhaa
