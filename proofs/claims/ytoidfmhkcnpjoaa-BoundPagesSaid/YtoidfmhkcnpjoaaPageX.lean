/- Contracts of the references of layer 4 on page tables: First. -/
import Derived.Test.YtoidfmhkcnpjoaaPageW
namespace Go.Proofs.Ytoidfmhkcnpjoaa
open Go.RowKit

/-- The first run with at least k pages, from place i on. -/
def firstFrom (k : Int) : List (Int × Int) → Int
  | [] => -1
  | r :: t => if 1 ≤ k ∧ k ≤ r.2 then r.1 else firstFrom k t
theorem firstV_from (ps : List Pg) (k : Int) : firstV ps k = firstFrom k (runsV ps) := by
  unfold firstV
  generalize runsV ps = l
  induction l with
  | nil => rfl
  | cons r t ih =>
    rw [List.find?_cons, firstFrom]
    by_cases h : 1 ≤ k ∧ k ≤ r.2
    · rw [if_pos h]; simp [h]
    · rw [if_neg h]
      have : (decide (1 ≤ k) && decide (k ≤ r.2)) = false := by simp; omega
      rw [this]; exact ih
theorem firstFrom_at {k : Int} {l : List (Int × Int)} {i : Nat} {r : Int × Int} (h : l[i]? = some r) : firstFrom k (l.drop i) = if 1 ≤ k ∧ k ≤ r.2 then r.1 else firstFrom k (l.drop (i + 1)) := by
  obtain ⟨hi, rfl⟩ := List.getElem?_eq_some_iff.1 h
  rw [List.drop_eq_getElem_cons hi, firstFrom]
theorem firstFrom_end {k : Int} {l : List (Int × Int)} {i : Nat} (h : l.length ≤ i) : firstFrom k (l.drop i) = -1 := by
  rw [List.drop_eq_nil_of_le h]; rfl

/-- A call returned a slice of pages, and the error er. -/
def RetP (B : Nat) (ps : List Pg) (er : Int) (e : Ending) (w' : World) : Prop := ∃ q m c, e = .returned (.tuple #[.slice q m c, .int .i64 er]) ∧ PRow w' q m c ps ∧ Fresh B q
theorem RetP.nil (B : Nat) (er : Int) (w : World) : RetP B [] er (.returned (.tuple #[.slice none 0 0, .int .i64 er])) w := ⟨none, 0, 0, rfl, PRow.nil _ _, fresh_none _⟩
theorem take_out {ps : List Pg} {i k : Int} {x y : Pg} (h : ¬ (0 ≤ i ∧ i < ps.length ∧ k ≤ ps.length - i)) : takeV ps i k x y = [] ∧ takeE ps i k = 2 := by
  unfold takeV takeE; rw [if_neg h, if_neg h]; exact ⟨rfl, rfl⟩
theorem take_ok {ps : List Pg} {i k : Nat} {x y : Pg} (h : i < ps.length) (hk : i + k ≤ ps.length) (hf : freeB ps i k = true) : takeV ps i k x y = (put ps i k y).set i x ∧ takeE ps i k = 0 := by
  have hc : 0 ≤ (i : Int) ∧ (i : Int) < ps.length ∧ (k : Int) ≤ ps.length - i := ⟨by omega, by omega, by omega⟩
  unfold takeV takeE; rw [if_pos hc, if_pos hc, Int.toNat_natCast, Int.toNat_natCast, if_pos hf, if_pos hf]; exact ⟨rfl, rfl⟩
theorem take_state {ps : List Pg} {i k : Nat} {x y : Pg} (h : i < ps.length) (hk : i + k ≤ ps.length) (hf : freeB ps i k = false) : takeV ps i k x y = [] ∧ takeE ps i k = 20 := by
  have hc : 0 ≤ (i : Int) ∧ (i : Int) < ps.length ∧ (k : Int) ≤ ps.length - i := ⟨by omega, by omega, by omega⟩
  have hf' : ¬ freeB ps i k = true := by rw [hf]; exact Bool.false_ne_true
  unfold takeV takeE; rw [if_pos hc, if_pos hc, Int.toNat_natCast, Int.toNat_natCast, if_neg hf', if_neg hf']; exact ⟨rfl, rfl⟩
theorem freeB_stop {ps : List Pg} {i k m : Nat} {x : Pg} (hx : ps[i + m]? = some x) (hm : m < k) (h : ¬ x.kind = 0) : freeB ps i k = false := by
  rw [← Bool.not_eq_true]
  intro hf
  have := freeB_mono hf (show m + 1 ≤ k from hm)
  rw [freeB_succ hx] at this
  simp at this; exact h this.2

/-- The cells of a page of a table of the call's own. -/
theorem own_page {w : World} {base g n cap : Nat} {e : TypeId} {qs : List Pg} {j : Nat} {x : Pg} (h : w.ownsRow base e 4 (.slice (some ⟨g, 0, none⟩) n cap) n (pvals qs)) (hx : qs[j]? = some x) :
    (w.cell? ⟨g, j * 4, none⟩ = some (.int .i64 x.kind) ∧ w.cell? ⟨g, j * 4 + 1, none⟩ = some (.int .i64 x.space) ∧ w.cell? ⟨g, j * 4 + 2, none⟩ = some (.int .i64 x.used) ∧ w.cell? ⟨g, j * 4 + 3, none⟩ = some (.int .i64 x.pins)) ∧
    w.frozen? ⟨g, j * 4, none⟩ = false ∧ w.frozen? ⟨g, j * 4 + 1, none⟩ = false ∧ w.frozen? ⟨g, j * 4 + 2, none⟩ = false ∧ w.frozen? ⟨g, j * 4 + 3, none⟩ = false := by
  have hl : qs.length = n := by have := h.1; rw [pvals_len] at this; omega
  have hj : j < n := by rw [← hl]; exact (List.getElem?_eq_some_iff.1 hx).1
  obtain ⟨h0, h1, h2, h3⟩ := pvals_at qs j x hx
  exact ⟨⟨by rw [h.cellAt _ (by omega)]; exact h0, by rw [h.cellAt _ (by omega)]; exact h1, by rw [h.cellAt _ (by omega)]; exact h2, by rw [h.cellAt _ (by omega)]; exact h3⟩, h.frozenAt _, h.frozenAt _, h.frozenAt _, h.frozenAt _⟩
theorem own_set4 {w : World} {base g n cap : Nat} {e : TypeId} {qs : List Pg} (h : w.ownsRow base e 4 (.slice (some ⟨g, 0, none⟩) n cap) n (pvals qs)) (j : Nat) (a b c d : Int) :
    ((((w.setCell ⟨g, j * 4, none⟩ (.int .i64 a)).setCell ⟨g, j * 4 + 1, none⟩ (.int .i64 b)).setCell ⟨g, j * 4 + 2, none⟩ (.int .i64 c)).setCell ⟨g, j * 4 + 3, none⟩ (.int .i64 d)).ownsRow base e 4 (.slice (some ⟨g, 0, none⟩) n cap) n (pvals (qs.set j ⟨a, b, c, d⟩)) := by
  rw [← pvals_set qs j ⟨a, b, c, d⟩]
  exact ((((h.stored _ _).1.stored _ _).1.stored _ _).1.stored _ _).1
theorem below_set4 {B : Nat} {w w1 : World} {g j : Nat} {a b c d : Value} (h : Below B w w1) (hb : B ≤ g) : Below B w ((((w1.setCell ⟨g, j * 4, none⟩ a).setCell ⟨g, j * 4 + 1, none⟩ b).setCell ⟨g, j * 4 + 2, none⟩ c).setCell ⟨g, j * 4 + 3, none⟩ d) :=
  (((h.setCell hb a).setCell hb b).setCell hb c).setCell hb d
/-- An empty literal owns no cell. -/
theorem own_empty (w : World) (e : TypeId) (s : Nat) : (w.alloc (.cells #[] e)).ownsRow w.heap.size e s (.slice (some ⟨w.heap.size, 0, none⟩) 0 0) 0 [] :=
  ⟨by simp, .inr ⟨w.heap.size, 0, #[], rfl, Nat.le_refl _, heap_alloc_new w _, Nat.le_refl _, Nat.zero_le _, by simp, by simp⟩⟩
theorem below_two {w wr : World} {o o' : Obj} (hb : Below (w.heap.size + 1 + 1) ((w.alloc o).alloc o') wr) : Below w.heap.size w wr :=
  below_of_alloc (by have := below_of_alloc (w := w.alloc o) (wr := wr) (o := o') (by simpa using hb); simpa using this)

end Go.Proofs.Ytoidfmhkcnpjoaa
