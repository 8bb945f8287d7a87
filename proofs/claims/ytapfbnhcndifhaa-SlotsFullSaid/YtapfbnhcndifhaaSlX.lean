/- Tables as arguments: opened as they are read; the laws SlotsValid and SlotsCalls over them. -/
import Derived.Test.YtapfbnhcndifhaaSlU
import Derived.Lib.SmallJoins
import Derived.WideShapes
namespace Go.Proofs.Ytapfbnhcndifhaa
open Go.RowKit Go.ChangeShapes Go.WideShapes Go.Deep
theorem vrow_mk3S {α : Type} (f : α → List Value) (hf : ∀ x, (f x).length = 3) {w : World} {p : Option Addr} {n cap : Nat} {xs : List α} (hl : xs.length = n) (hle : n ≤ cap) (hm : cap ≤ maxLen)
    (h : ∀ (k : Nat) (x : α), xs[k]? = some x → ∃ b off, p = some ⟨b, off, none⟩ ∧ ∀ j v, (f x)[j]? = some v → w.cell? ⟨b, off + k * 3 + j, none⟩ = some v) : VRow w 3 p n cap (xs.flatMap f) := by
  refine ⟨by rw [flat_len f 3 hf, hl], hle, hm, fun i v hv => ?_⟩
  have hi : i < xs.length * 3 := by have := (List.getElem?_eq_some_iff.1 hv).1; rw [flat_len f 3 hf] at this; exact this
  obtain ⟨k, j, hj, rfl⟩ : ∃ k j, j < 3 ∧ i = k * 3 + j := ⟨i / 3, i % 3, by omega, by omega⟩
  have hx : xs[k]? = some (xs[k]'(by omega)) := List.getElem?_eq_getElem _
  obtain ⟨b, off, hp, hc⟩ := h k _ hx
  rw [flat_at f 3 hf xs k _ j hj hx] at hv
  exact ⟨b, off, hp, by rw [← Nat.add_assoc]; exact hc j v hv⟩
section
variable {H : Type} {enc : TypeId × Value → H} {P : Program} {w : World} {base : Nat} {spare : Nat → Bool} {held : Bool}
theorem open_agg1 {r : Reach} {b0 : Nat} {t : TypeId} {f0 : Field} {v : Value} {d : DataW H} {p : List MemPlace} (hs : P.underlying t = some (.struct #[f0])) (hone : oneCellFields P #[f0] = true) (hC : P.cellsOf t = 1)
    (hv : Value.okWide P w r b0 t v) (h : DataW.Trod enc P w base spare held t v d p) :
    ∃ (v0 : Value) (y0 : DataW H × List MemPlace) (n : Nat), v = .agg #[v0] ∧ DataW.trod enc P w base spare held n f0.type [v0] = some y0 := by
  obtain ⟨cs, rfl, hsz⟩ := okWide_struct hs hv
  obtain ⟨c0, rfl⟩ : ∃ c0, cs = #[c0] := by
    obtain ⟨l⟩ := cs
    match l, hsz.trans hC with
    | [c0], _ => exact ⟨c0, rfl⟩
  obtain ⟨fuel, hf⟩ := h
  obtain ⟨xs, n, _, -, hl, hlen, hf2⟩ := DataW.trod_struct hs hf
  obtain ⟨o0, k0⟩ := hone_of hone 0 f0 rfl
  match xs, hlen with
  | [y0], _ => exact ⟨c0, y0, n, rfl, by have h0 := hf2 0 f0 rfl; simpa [Value.cells, o0, k0] using h0⟩
theorem slice_ofS {t e : TypeId} {n : Nat} {v : Value} {y : DataW H × List MemPlace} (ht : P.underlying t = some (.slice e)) (hf : DataW.trod enc P w 0 spare held n t [v] = some y) :
    ∃ a len cap, v = .slice a len cap ∧ DataW.Trod enc P w 0 spare held t (.slice a len cap) y.1 y.2 := by
  rcases open_slice ht hf with ⟨hcs, _⟩ | ⟨a, len', cap', m, n', D, Pl, hcs, _⟩
  · obtain rfl : v = .slice none 0 0 := by simpa using hcs
    exact ⟨none, 0, 0, rfl, n, by simpa [Value.cells] using hf⟩
  · obtain rfl : v = .slice (some a) len' cap' := by simpa using hcs
    exact ⟨some a, len', cap', rfl, n, by simpa [Value.cells] using hf⟩
end
section
variable {H : Type} {enc : TypeId × Value → H} {w : World} {spare : Nat → Bool} {held : Bool}
theorem open_entries {a0 : Option Addr} {len cap : Nat} {d : DataW H} {p : List MemPlace}
    (h : DataW.Trod enc Try.prog w 0 spare held 44 (.slice a0 len cap) d p) : ∃ t : List En, VRow w 3 a0 len cap (t.flatMap enC) ∧ WfT t := by
  obtain ⟨hlc, hm, hr⟩ := open_row Try.underlying44 (C := 3) (by kernel_rfl) (by omega) h
  obtain ⟨ps, hl, hq⟩ := list_of (Q := fun k (x : En) => (∃ b off, a0 = some ⟨b, off, none⟩ ∧ ∀ j v, (enC x)[j]? = some v → w.cell? ⟨b, off + k * 3 + j, none⟩ = some v) ∧ (Lit.int .u64 x.rf).wf = true) len fun i hi => by
    obtain ⟨b, off, cs, n, y, ha, hcl, hat, hy⟩ := hr i hi
    have hf := open_cells Try.underlying65 (by kernel_rfl) (by kernel_rfl) hy
    obtain ⟨v0, n0, y0, h0, t0⟩ := hf 0 _ rfl
    obtain ⟨v1, n1, y1, h1, t1⟩ := hf 1 _ rfl
    obtain ⟨v2, n2, y2, h2, t2⟩ := hf 2 _ rfl
    obtain ⟨x0, e0, _, _⟩ := DataW.trod_int Try.underlying3 t0
    obtain ⟨x1, e1, _, w1⟩ := DataW.trod_int Try.underlying38 t1
    obtain ⟨x2, e2, _⟩ := DataW.trod_bool Try.underlying4 t2
    simp at e0 e1 e2
    subst e0 e1 e2
    refine ⟨⟨x0, x1, x2⟩, ⟨b, off, ha, fun j v hv => ?_⟩, w1⟩
    have hj : j < 3 := (List.getElem?_eq_some_iff.1 hv).1
    rw [hat j hj, ← hv]
    rcases (show j = 0 ∨ j = 1 ∨ j = 2 by omega) with rfl | rfl | rfl
    · rw [h0]; rfl
    · rw [h1]; rfl
    · rw [h2]; rfl
  exact ⟨ps, vrow_mk3S enC enC_len hl hlc hm fun k x hx => (hq k x hx).1, fun k e he => (hq k e he).2⟩
set_option maxRecDepth 100000 in
theorem opn_table {r : Reach} {b0 : Nat} {v : Value} {d : DataW H} {p : List MemPlace} (hv : Value.okWide Try.prog w r b0 46 v) (h : DataW.Trod enc Try.prog w 0 spare held 46 v d p) :
    ∃ (a : Option Addr) (n c : Nat) (t : List En), v = .agg #[.slice a n c] ∧ VRow w 3 a n c (t.flatMap enC) ∧ WfT t := by
  obtain ⟨v0, y0, n, rfl, t0⟩ := open_agg1 Try.underlying46 (by kernel_rfl) (by kernel_rfl) hv h
  obtain ⟨pa, na, ca, rfl, h0⟩ := slice_ofS Try.underlying44 t0
  obtain ⟨t, ht, hw⟩ := open_entries h0
  exact ⟨pa, na, ca, t, rfl, ht, hw⟩
theorem lawCallsD {p : Option Addr} {n c : Nat} {t : List En} {r i q : Int} {a0 : Option Addr} {len cap : Nat} {d : DataW H} {pl : List MemPlace} (hr : VRow w 3 p n c (t.flatMap enC)) (hwf : WfT t) (hrw : (Lit.int .u64 r).wf = true)
    (h : DataW.Trod enc Try.prog w 0 spare held 23 (.slice a0 len cap) d pl) :
    Calls Try.prog 5 #[.agg #[.slice p n c], .int .u64 r, .int .i64 i, .int .i64 q, .slice a0 len cap] w fun e w' => e = .returned (.bool true) ∧ Below w.heap.size w w' := by
  obtain ⟨xs, hx, hw⟩ := open_srow Try.underlying23 Try.underlying38 (by kernel_rfl) h
  exact lawCalls15 p n c t r i q a0 len cap xs w hr hwf hrw hx hw
end
end Go.Proofs.Ytapfbnhcndifhaa
