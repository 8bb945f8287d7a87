/- Arguments that are slices, opened to their cells. -/
import Derived.Test.YtmnfcepdmjondaaBitsJ
import Derived.ProofKit
import Derived.Deep.Slices
import Derived.Deep.Fields
namespace Go.Proofs.Ytmnfcepdmjondaa
open Go.ChangeShapes Go.WideShapes Go.RowKit Go.Deep

theorem list_of {α : Type} {Q : Nat → α → Prop} : ∀ (n : Nat), (∀ i, i < n → ∃ x, Q i x) → ∃ l : List α, l.length = n ∧ ∀ i x, l[i]? = some x → Q i x
  | 0, _ => ⟨[], rfl, fun i x h => by simp at h⟩
  | n + 1, h => by
    obtain ⟨l, hl, hq⟩ := list_of n fun i hi => h i (by omega)
    obtain ⟨x, hx⟩ := h n (by omega)
    refine ⟨l ++ [x], by simp [hl], fun i y hy => ?_⟩
    by_cases hi : i < l.length
    · rw [List.getElem?_append_left hi] at hy; exact hq i y hy
    · have hn : i = n := by
        have := (List.getElem?_eq_some_iff.1 hy).1
        rw [List.length_append, List.length_singleton] at this; omega
      subst hn
      rw [List.getElem?_append_right (by omega)] at hy
      simp [hl] at hy
      subst hy; exact hx

section
variable {H : Type} {enc : TypeId × Value → H} {P : Program} {w : World} {spare : Nat → Bool} {held : Bool}

/-- A slice that reads: each element's cells, and that they read. -/
theorem open_row {t e : TypeId} {a0 : Option Addr} {len cap C : Nat} {d : DataW H} {p : List MemPlace} (ht : P.underlying t = some (.slice e)) (hC : P.cellsOf e = C) (hC0 : 0 < C)
    (h : DataW.Trod enc P w 0 spare held t (.slice a0 len cap) d p) :
    len ≤ maxLen ∧ ∀ i, i < len → ∃ b off cs n y, a0 = some ⟨b, off, none⟩ ∧ cs.length = C ∧ (∀ j, j < C → w.cell? ⟨b, off + i * C + j, none⟩ = cs[j]?) ∧ DataW.trod enc P w 0 spare held n e cs = some y := by
  obtain ⟨fuel, hf⟩ := h
  rcases open_slice ht hf with ⟨hcs, _⟩ | ⟨a, len', cap', m, n, D, Pl, hcs, hb, hl, hm, hmm, hx, hi⟩
  · simp [Value.cells] at hcs
    obtain ⟨_, rfl, _⟩ := hcs
    exact ⟨Nat.zero_le _, fun i hi => by omega⟩
  · simp [Value.cells] at hcs
    obtain ⟨rfl, rfl, rfl⟩ := hcs
    have hlm : len ≤ m := by rw [hmm]; split <;> omega
    refine ⟨by omega, fun i hilt => ?_⟩
    obtain ⟨b, off, spot⟩ := a
    have hspot : spot = none := by
      obtain ⟨cs0, hc0, _⟩ := hi 0 (by omega)
      obtain ⟨_, hl0, hat0⟩ := World.cells?_some hc0
      have := hat0 0 (by omega)
      have hz : cs0[0]? = some (cs0[0]'(by omega)) := List.getElem?_eq_getElem (by omega)
      rw [hz] at this
      simpa [Addr.add] using World.cell?_spot this
    subst hspot
    obtain ⟨cs', hc, ht'⟩ := hi i (by omega)
    obtain ⟨_, hcl, hat⟩ := World.cells?_some hc
    rw [hC] at hcl hat
    refine ⟨b, off, cs', n, _, rfl, hcl, fun j hj => ?_, ht'⟩
    rw [← hat j hj]
    congr 1
    simp only [Addr.add]
    split <;> split <;> simp_all

theorem open_irow {t e : TypeId} {k : IntKind} {a0 : Option Addr} {len cap : Nat} {d : DataW H} {p : List MemPlace} (ht : P.underlying t = some (.slice e)) (he : P.underlying e = some (.int k)) (hC : P.cellsOf e = 1)
    (h : DataW.Trod enc P w 0 spare held t (.slice a0 len cap) d p) : len ≤ maxLen ∧ ∃ xs : List Int, xs.length = len ∧ IRow w k a0 xs ∧ ∀ (i : Nat) (x : Int), xs[i]? = some x → (Lit.int k x).wf = true := by
  obtain ⟨hm, hr⟩ := open_row ht hC (by omega) h
  refine ⟨hm, ?_⟩
  obtain ⟨xs, hl, hq⟩ := list_of (Q := fun i (x : Int) => (∃ b off, a0 = some ⟨b, off, none⟩ ∧ w.cell? ⟨b, off + i, none⟩ = some (.int k x)) ∧ (Lit.int k x).wf = true) len fun i hi => by
    obtain ⟨b, off, cs, n, y, ha, hcl, hat, hy⟩ := hr i hi
    obtain ⟨x, rfl, _, hw⟩ := DataW.trod_int he hy
    exact ⟨x, ⟨b, off, ha, by have := hat 0 (by omega); simpa using this⟩, hw⟩
  exact ⟨xs, hl, fun i x hx => (hq i x hx).1, fun i x hx => (hq i x hx).2⟩

/-- A struct whose fields have one cell each: each field's cell, and that it reads. -/
theorem open_cells {e : TypeId} {fs : Array Field} {n : Nat} {cs : List Value} {y : DataW H × List MemPlace} (he : P.underlying e = some (.struct fs)) (hone : oneCellFields P fs = true) (hC : P.cellsOf e = fs.size) (h : DataW.trod enc P w 0 spare held n e cs = some y) :
    ∀ (j : Nat) (f : Field), fs[j]? = some f → ∃ v n' y', cs[j]? = some v ∧ DataW.trod enc P w 0 spare held n' f.type [v] = some y' := by
  obtain ⟨ys, n', _, _, hcl, hyl, hf⟩ := DataW.trod_struct he h
  intro j f hj
  obtain ⟨ho, hk⟩ := hone_of hone j f hj
  have hjl : j < fs.size := (Array.getElem?_eq_some_iff.1 hj).1
  have h1 := hf j f hj
  rw [ho, hk] at h1
  have hys : ys[j]? = some (ys[j]'(by omega)) := List.getElem?_eq_getElem (by omega)
  rw [hys] at h1
  have hc : j < cs.length := by omega
  refine ⟨cs[j], n', ys[j]'(by omega), List.getElem?_eq_getElem hc, ?_⟩
  rw [List.drop_eq_getElem_cons hc] at h1
  exact h1
end

theorem open_frow {H : Type} {enc : TypeId × Value → H} {w : World} {spare : Nat → Bool} {held : Bool} {a0 : Option Addr} {len cap : Nat} {d : DataW H} {p : List MemPlace}
    (h : DataW.Trod enc Try.prog w 0 spare held 33 (.slice a0 len cap) d p) : len ≤ maxLen ∧ ∃ fs : List (Int × Nat), fs.length = len ∧ FRow w a0 fs ∧ ∀ x ∈ fs, x.2 < 18446744073709551616 := by
  obtain ⟨hm, hr⟩ := open_row Try.underlying33 (C := 2) (by kernel_rfl) (by omega) h
  refine ⟨hm, ?_⟩
  obtain ⟨fs, hl, hq⟩ := list_of (Q := fun i (x : Int × Nat) => (∃ b off, a0 = some ⟨b, off, none⟩ ∧ w.cell? ⟨b, off + i * 2, none⟩ = some (.int .i64 x.1) ∧ w.cell? ⟨b, off + i * 2 + 1, none⟩ = some (.int .u64 x.2)) ∧ x.2 < 18446744073709551616) len fun i hi => by
    obtain ⟨b, off, cs, n, y, ha, hcl, hat, hy⟩ := hr i hi
    have hf := open_cells Try.underlying46 (by kernel_rfl) (by kernel_rfl) hy
    obtain ⟨v0, n0, y0, h0, t0⟩ := hf 0 _ rfl
    obtain ⟨v1, n1, y1, h1, t1⟩ := hf 1 _ rfl
    obtain ⟨x0, e0, _, _⟩ := DataW.trod_int Try.underlying3 t0
    obtain ⟨x1, e1, _, w1⟩ := DataW.trod_int Try.underlying23 t1
    simp at e0 e1
    subst e0 e1
    obtain ⟨u, rfl, hu⟩ := u64_of_wf w1
    exact ⟨(x0, u), ⟨b, off, ha, by have := hat 0 (by omega); rw [h0] at this; simpa using this, by have := hat 1 (by omega); rw [h1] at this; simpa using this⟩, hu⟩
  exact ⟨fs, hl, fun i x hx => (hq i x hx).1, fun x hx => by obtain ⟨i, hi⟩ := List.getElem?_of_mem hx; exact (hq i x hi).2⟩

theorem lawPacksD {H : Type} {enc : TypeId × Value → H} {w : World} {spare : Nat → Bool} {held : Bool} {a0 : Option Addr} {len cap : Nat} {d : DataW H} {p : List MemPlace}
    (h : DataW.Trod enc Try.prog w 0 spare held 33 (.slice a0 len cap) d p) :
    Calls Try.prog 6 #[.slice a0 len cap] w fun e w' => e = .returned (.bool true) ∧ Below w.heap.size w w' := by
  obtain ⟨hm, fs, hl, hr, hw⟩ := open_frow h
  exact lawPacks a0 len cap fs w hl (by unfold maxLen at hm; omega) hw hr
theorem lawBackD {H : Type} {enc : TypeId × Value → H} {w : World} {spare : Nat → Bool} {held : Bool} {a0 : Option Addr} {len cap : Nat} {d : DataW H} {p : List MemPlace} {x : Int}
    (h : DataW.Trod enc Try.prog w 0 spare held 33 (.slice a0 len cap) d p) (hx : (Lit.int .u64 x).wf = true) :
    Calls Try.prog 8 #[.slice a0 len cap, .int .u64 x] w fun e w' => e = .returned (.bool true) ∧ Below w.heap.size w w' := by
  obtain ⟨hm, fs, hl, hr, hw⟩ := open_frow h
  obtain ⟨x, rfl, hx'⟩ := u64_of_wf hx
  exact lawBack a0 len cap fs x w hl (by unfold maxLen at hm; omega) hx' hr
theorem lawUnpacksD {H : Type} {enc : TypeId × Value → H} {w : World} {spare : Nat → Bool} {held : Bool} {a0 : Option Addr} {len cap : Nat} {d : DataW H} {p : List MemPlace} {x : Int}
    (h : DataW.Trod enc Try.prog w 0 spare held 39 (.slice a0 len cap) d p) (hx : (Lit.int .u64 x).wf = true) :
    Calls Try.prog 7 #[.int .u64 x, .slice a0 len cap] w fun e w' => e = .returned (.bool true) ∧ Below w.heap.size w w' := by
  obtain ⟨hm, ws, hl, hr, hw⟩ := open_irow Try.underlying39 Try.underlying3 (by kernel_rfl) h
  obtain ⟨x, rfl, hx'⟩ := u64_of_wf hx
  exact lawUnpacks x a0 len cap ws w hx' hl (by unfold maxLen at hm; omega) hr
end Go.Proofs.Ytmnfcepdmjondaa
