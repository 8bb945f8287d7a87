/- The law SlotsLife over its arguments as they are read. -/
import Derived.Test.YtggaaobpaodigaaSlW
import Derived.Test.YtggaaobpaodigaaSlX0
set_option linter.unusedVariables false
namespace Go.Proofs.Ytggaaobpaodigaa
open Go.RowKit Go.ChangeShapes Go.WideShapes Go.Deep
section
variable {H : Type} {enc : TypeId × Value → H} {w : World} {spare : Nat → Bool} {held : Bool}
theorem open_acts15 {a0 : Option Addr} {len cap : Nat} {d : DataW H} {p : List MemPlace}
    (h : DataW.Trod enc Try.prog w 0 spare held 22 (.slice a0 len cap) d p) : ∃ t : List Ac15, VRow w 3 a0 len cap (t.flatMap aC) ∧ ∀ (k : Nat) (a : Ac15), t[k]? = some a → (Lit.int .u64 a.rf).wf = true := by
  obtain ⟨hlc, hm, hr⟩ := open_row Try.underlying22 (C := 3) (by kernel_rfl) (by omega) h
  obtain ⟨ps, hl, hq⟩ := list_of (Q := fun k (x : Ac15) => (∃ b off, a0 = some ⟨b, off, none⟩ ∧ ∀ j v, (aC x)[j]? = some v → w.cell? ⟨b, off + k * 3 + j, none⟩ = some v) ∧ (Lit.int .u64 x.rf).wf = true) len fun i hi => by
    obtain ⟨b, off, cs, n, y, ha, hcl, hat, hy⟩ := hr i hi
    have hf := open_cells Try.underlying31 (by kernel_rfl) (by kernel_rfl) hy
    obtain ⟨v0, n0, y0, h0, t0⟩ := hf 0 _ rfl
    obtain ⟨v1, n1, y1, h1, t1⟩ := hf 1 _ rfl
    obtain ⟨v2, n2, y2, h2, t2⟩ := hf 2 _ rfl
    obtain ⟨x0, e0, _, _⟩ := DataW.trod_int Try.underlying3 t0
    obtain ⟨x1, e1, _, _⟩ := DataW.trod_int Try.underlying3 t1
    obtain ⟨x2, e2, _, w2⟩ := DataW.trod_int Try.underlying29 t2
    simp at e0 e1 e2
    subst e0 e1 e2
    refine ⟨⟨x0, x1, x2⟩, ⟨b, off, ha, fun j v hv => ?_⟩, w2⟩
    have hj : j < 3 := (List.getElem?_eq_some_iff.1 hv).1
    rw [hat j hj, ← hv]
    rcases (show j = 0 ∨ j = 1 ∨ j = 2 by omega) with rfl | rfl | rfl
    · rw [h0]; rfl
    · rw [h1]; rfl
    · rw [h2]; rfl
  exact ⟨ps, vrow_mk3S aC aC_len hl hlc hm fun k x hx => (hq k x hx).1, fun k e he => (hq k e he).2⟩
theorem lawLife15D {a0 : Option Addr} {len cap : Nat} {d : DataW H} {pl : List MemPlace}
    (h : DataW.Trod enc Try.prog w 0 spare held 22 (.slice a0 len cap) d pl) :
    Calls Try.prog 3 #[.slice a0 len cap] w fun e w' => e = .returned (.bool true) ∧ Below w.heap.size w w' := by
  obtain ⟨ac, hx, hw⟩ := open_acts15 h
  exact lawLife15 a0 len cap ac w hx hw
end
end Go.Proofs.Ytggaaobpaodigaa
