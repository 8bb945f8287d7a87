/- The laws of layer 4 over arguments as they are read. -/
import Derived.Test.YtnelnabeajkpfaaPgN
import Derived.Lib.SmallJoins
import Derived.WideShapes
namespace Go.Proofs.Ytnelnabeajkpfaa
open Go.RowKit Go.ChangeShapes Go.WideShapes
theorem prow_mk {w : World} {p : Option Addr} {n cap : Nat} {ps : List Pg} (hl : ps.length = n) (hle : n ≤ cap) (hm : cap ≤ maxLen)
    (h : ∀ (k : Nat) (x : Pg), ps[k]? = some x → ∃ b off, p = some ⟨b, off, none⟩ ∧ w.cell? ⟨b, off + k * 4, none⟩ = some (.int .i64 x.kind) ∧ w.cell? ⟨b, off + k * 4 + 1, none⟩ = some (.int .i64 x.space) ∧ w.cell? ⟨b, off + k * 4 + 2, none⟩ = some (.int .i64 x.used) ∧ w.cell? ⟨b, off + k * 4 + 3, none⟩ = some (.int .i64 x.pins)) : PRow w p n cap ps := by
  refine ⟨by rw [pvals_len, hl], hle, hm, fun i v hv => ?_⟩
  have hi : i < ps.length * 4 := by have := (List.getElem?_eq_some_iff.1 hv).1; rw [pvals_len] at this; exact this
  obtain ⟨k, j, hj, rfl⟩ : ∃ k j, j < 4 ∧ i = k * 4 + j := ⟨i / 4, i % 4, by omega, by omega⟩
  have hx : ps[k]? = some (ps[k]'(by omega)) := List.getElem?_eq_getElem _
  obtain ⟨b, off, hp, h0, h1, h2, h3⟩ := h k _ hx
  obtain ⟨g0, g1, g2, g3⟩ := pvals_at ps k _ hx
  refine ⟨b, off, hp, ?_⟩
  rcases (show j = 0 ∨ j = 1 ∨ j = 2 ∨ j = 3 by omega) with rfl | rfl | rfl | rfl
  · rw [Nat.add_zero] at hv ⊢; rw [g0] at hv; rw [h0]; exact hv
  · rw [g1] at hv; rw [← Nat.add_assoc, h1]; exact hv
  · rw [g2] at hv; rw [← Nat.add_assoc, h2]; exact hv
  · rw [g3] at hv; rw [← Nat.add_assoc, h3]; exact hv
section
variable {H : Type} {enc : TypeId × Value → H} {w : World} {spare : Nat → Bool} {held : Bool}
theorem open_conf {r : Reach} {b0 base : Nat} {v : Value} {d : DataW H} {p : List MemPlace} (hv : Value.okWide Try.prog w r b0 23 v) (h : DataW.Trod enc Try.prog w base spare held 23 v d p) :
    ∃ x y : Int, v = .agg #[.int .i64 x, .int .i64 y] := by
  obtain ⟨v0, v1, y0, y1, n, rfl, _, _, t0, t1⟩ := Joins.open_agg2 Try.underlying23 (by kernel_rfl) (by kernel_rfl) hv h
  obtain ⟨x0, e0, _, _⟩ := DataW.trod_int Try.underlying3 t0
  obtain ⟨x1, e1, _, _⟩ := DataW.trod_int Try.underlying3 t1
  simp at e0 e1
  subst e0 e1
  exact ⟨x0, x1, rfl⟩
theorem open_pages {a0 : Option Addr} {len cap : Nat} {d : DataW H} {p : List MemPlace}
    (h : DataW.Trod enc Try.prog w 0 spare held 37 (.slice a0 len cap) d p) : ∃ ps : List Pg, PRow w a0 len cap ps := by
  obtain ⟨hlc, hm, hr⟩ := open_row Try.underlying37 (C := 4) (by kernel_rfl) (by omega) h
  obtain ⟨ps, hl, hq⟩ := list_of (Q := fun k (x : Pg) => ∃ b off, a0 = some ⟨b, off, none⟩ ∧ w.cell? ⟨b, off + k * 4, none⟩ = some (.int .i64 x.kind) ∧ w.cell? ⟨b, off + k * 4 + 1, none⟩ = some (.int .i64 x.space) ∧ w.cell? ⟨b, off + k * 4 + 2, none⟩ = some (.int .i64 x.used) ∧ w.cell? ⟨b, off + k * 4 + 3, none⟩ = some (.int .i64 x.pins)) len fun i hi => by
    obtain ⟨b, off, cs, n, y, ha, hcl, hat, hy⟩ := hr i hi
    have hf := open_cells Try.underlying59 (by kernel_rfl) (by kernel_rfl) hy
    obtain ⟨v0, n0, y0, h0, t0⟩ := hf 0 _ rfl
    obtain ⟨v1, n1, y1, h1, t1⟩ := hf 1 _ rfl
    obtain ⟨v2, n2, y2, h2, t2⟩ := hf 2 _ rfl
    obtain ⟨v3, n3, y3, h3, t3⟩ := hf 3 _ rfl
    obtain ⟨x0, e0, _, _⟩ := DataW.trod_int Try.underlying3 t0
    obtain ⟨x1, e1, _, _⟩ := DataW.trod_int Try.underlying3 t1
    obtain ⟨x2, e2, _, _⟩ := DataW.trod_int Try.underlying3 t2
    obtain ⟨x3, e3, _, _⟩ := DataW.trod_int Try.underlying3 t3
    simp at e0 e1 e2 e3
    subst e0 e1 e2 e3
    exact ⟨⟨x0, x1, x2, x3⟩, b, off, ha, by have := hat 0 (by omega); rw [h0] at this; simpa using this, by have := hat 1 (by omega); rw [h1] at this; simpa using this, by have := hat 2 (by omega); rw [h2] at this; simpa using this, by have := hat 3 (by omega); rw [h3] at this; simpa using this⟩
  exact ⟨ps, prow_mk hl hlc hm hq⟩
theorem lawAddressesI {x y p o a : Int} (ha : (Lit.int .u64 a).wf = true) :
    Calls Try.prog 4 #[.agg #[.int .i64 x, .int .i64 y], .int .i64 p, .int .i64 o, .int .u64 a] w fun e w' => e = .returned (.bool true) ∧ Below w.heap.size w w' := by
  obtain ⟨a, rfl, h⟩ := u64_of_wf ha
  exact lawAddresses x y p o a w (by omega) (by omega)
theorem lawRunsD {a0 : Option Addr} {len cap : Nat} {k : Int} {d : DataW H} {pl : List MemPlace} (h : DataW.Trod enc Try.prog w 0 spare held 37 (.slice a0 len cap) d pl) :
    Calls Try.prog 6 #[.slice a0 len cap, .int .i64 k] w fun e w' => e = .returned (.bool true) ∧ Below w.heap.size w w' := by
  obtain ⟨ps, hr⟩ := open_pages h
  exact lawRuns a0 len cap ps k w hr
end
end Go.Proofs.Ytnelnabeajkpfaa
