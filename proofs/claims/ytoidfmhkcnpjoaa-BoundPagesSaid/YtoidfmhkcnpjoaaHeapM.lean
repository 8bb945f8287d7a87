/- Heaps as plain data; contract of the reference's New. -/
import Derived.Test.YtoidfmhkcnpjoaaPageX
namespace Go.Proofs.Ytoidfmhkcnpjoaa
open Go.RowKit

/-- A heap as plain data. -/
structure Hp where
  pw : Int
  np : Int
  words : List Int
  pages : List Pg
  space : Int
  bump : Int
def Hp.zero : Hp := ⟨0, 0, [], [], 0, 0⟩
/-- Words are 64 bits. -/
def WB (xs : List Int) : Prop := ∀ x ∈ xs, 0 ≤ x ∧ x < 18446744073709551616
theorem WB.zeros (n : Nat) : WB (List.replicate n 0) := by
  intro x hx; obtain ⟨_, rfl⟩ := List.mem_replicate.1 hx; omega
theorem WB.nil : WB [] := fun x h => by cases h
/-- A value that reads as a heap. -/
def HV (w : World) (v : Value) (h : Hp) : Prop := ∃ p n c q m d, v = .agg #[.int .i64 h.pw, .int .i64 h.np, .slice p n c, .slice q m d, .int .i64 h.space, .int .i64 h.bump] ∧ SRow w .u64 p n c h.words ∧ PRow w q m d h.pages ∧ WB h.words
theorem HV.keep {w w' : World} {v : Value} {h : Hp} (hv : HV w v h) (hb : Below w.heap.size w w') : HV w' v h := by
  obtain ⟨p, n, c, q, m, d, rfl, h1, h2, h3⟩ := hv
  exact ⟨p, n, c, q, m, d, rfl, h1.keep hb, h2.keep hb, h3⟩
theorem HV.zero (w : World) : HV w (.agg #[.int .i64 0, .int .i64 0, .slice none 0 0, .slice none 0 0, .int .i64 0, .int .i64 0]) Hp.zero := ⟨none, 0, 0, none, 0, 0, rfl, SRow.nil _ _ _, PRow.nil _ _, WB.nil⟩
/-- A call returned a heap, and the error er. -/
def RetH (h : Hp) (er : Int) (e : Ending) (w' : World) : Prop := ∃ v, e = .returned (.tuple #[v, .int .i64 er]) ∧ HV w' v h

def newHV (pw np : Int) : Hp := if confB pw np then ⟨pw, np, List.replicate (np * pw).toNat 0, List.replicate np.toNat Pg.zero, 0, -1⟩ else Hp.zero
def newHE (pw np : Int) : Int := if confB pw np then 0 else 1
theorem newH_ok {pw np : Int} (h : confB pw np = true) : newHV pw np = ⟨pw, np, List.replicate (np * pw).toNat 0, List.replicate np.toNat Pg.zero, 0, -1⟩ ∧ newHE pw np = 0 := by
  unfold newHV newHE; rw [if_pos h, if_pos h]; exact ⟨rfl, rfl⟩
theorem newH_no {pw np : Int} (h : confB pw np = false) : newHV pw np = Hp.zero ∧ newHE pw np = 1 := by
  unfold newHV newHE; rw [if_neg (by simp [h]), if_neg (by simp [h])]; exact ⟨rfl, rfl⟩

theorem made_const (z : Value) (k : Nat) : (madeCells #[z, z, z, z] k).toList = List.replicate k z := by
  unfold madeCells
  rw [Array.toList_map]
  apply List.ext_getElem
  · simp
  · intro i h1 h2
    simp only [List.getElem_map, List.getElem_replicate]
    have : ∀ j, j < 4 → (#[z, z, z, z] : Array Value)[j]! = z := by
      intro j hj
      rcases (show j = 0 ∨ j = 1 ∨ j = 2 ∨ j = 3 by omega) with rfl | rfl | rfl | rfl <;> rfl
    exact this _ (Nat.mod_lt _ (by simp))
theorem pvals_zeros : ∀ n : Nat, pvals (List.replicate n Pg.zero) = List.replicate (n * 4) (.int .i64 0)
  | 0 => rfl
  | n + 1 => by
    rw [List.replicate_succ, show pvals (Pg.zero :: List.replicate n Pg.zero) = Pg.zero.vals ++ pvals (List.replicate n Pg.zero) from rfl, pvals_zeros n, show (n + 1) * 4 = n * 4 + 1 + 1 + 1 + 1 from by omega, List.replicate_succ, List.replicate_succ, List.replicate_succ, List.replicate_succ]; rfl
theorem made_pages (w : World) (T : TypeId) (n : Nat) (hn : n ≤ maxLen) : PRow (w.alloc (.cells (madeCells #[.int .i64 0, .int .i64 0, .int .i64 0, .int .i64 0] (n * 4)) T)) (some ⟨w.heap.size, 0, none⟩) n n (List.replicate n Pg.zero) := by
  refine ⟨by rw [pvals_len, List.length_replicate], Nat.le_refl _, hn, fun i v hv => ⟨w.heap.size, 0, rfl, ?_⟩⟩
  have hh := heap_alloc_new w (.cells (madeCells #[.int .i64 0, .int .i64 0, .int .i64 0, .int .i64 0] (n * 4)) T)
  rw [pvals_zeros, ← made_const, Array.getElem?_toList] at hv
  simp only [World.cell?, hh, Nat.zero_add]
  exact hv
theorem made_words (w : World) (T : TypeId) (n : Nat) (hn : n ≤ maxLen) : SRow (w.alloc (.cells (madeCells #[.int .u64 0] n) T)) .u64 (some ⟨w.heap.size, 0, none⟩) n n (List.replicate n 0) := by
  refine ⟨List.length_replicate, Nat.le_refl _, hn, fun i x hx => ⟨w.heap.size, 0, rfl, ?_⟩⟩
  have hh := heap_alloc_new w (.cells (madeCells #[.int .u64 0] n) T)
  have h2 : (ivals .u64 (List.replicate n 0))[i]? = some (.int .u64 x) := ivals_at hx
  rw [← made_zeros, Array.getElem?_toList] at h2
  simp only [World.cell?, hh, Nat.zero_add]
  exact h2

theorem made_pages' (w : World) (T : TypeId) (n b : Nat) (hb : w.heap.size = b) (hn : n ≤ maxLen) : PRow (w.alloc (.cells (madeCells #[.int .i64 0, .int .i64 0, .int .i64 0, .int .i64 0] (n * 4)) T)) (some ⟨b, 0, none⟩) n n (List.replicate n Pg.zero) := by
  subst hb; exact made_pages w T n hn
theorem made_words' (w : World) (T : TypeId) (n b : Nat) (hb : w.heap.size = b) (hn : n ≤ maxLen) : SRow (w.alloc (.cells (madeCells #[.int .u64 0] n) T)) .u64 (some ⟨b, 0, none⟩) n n (List.replicate n 0) := by
  subst hb; exact made_words w T n hn

/-- Block b is a struct of six fields that may be written. -/
structure Own6 (w : World) (b : Nat) (x0 x1 x2 x3 x4 x5 : Value) : Prop where
  c0 : w.cell? ⟨b, 0, none⟩ = some x0
  c1 : w.cell? ⟨b, 1, none⟩ = some x1
  c2 : w.cell? ⟨b, 2, none⟩ = some x2
  c3 : w.cell? ⟨b, 3, none⟩ = some x3
  c4 : w.cell? ⟨b, 4, none⟩ = some x4
  c5 : w.cell? ⟨b, 5, none⟩ = some x5
  f0 : w.frozen? ⟨b, 0, none⟩ = false
  f1 : w.frozen? ⟨b, 1, none⟩ = false
  f2 : w.frozen? ⟨b, 2, none⟩ = false
  f3 : w.frozen? ⟨b, 3, none⟩ = false
  f4 : w.frozen? ⟨b, 4, none⟩ = false
  f5 : w.frozen? ⟨b, 5, none⟩ = false
theorem Own6.keep {w w' : World} {b : Nat} {x0 x1 x2 x3 x4 x5 : Value} (h : Own6 w b x0 x1 x2 x3 x4 x5) (hb : Below w.heap.size w w') : Own6 w' b x0 x1 x2 x3 x4 x5 := by
  have hl : b < w.heap.size := cell_lt h.c0
  have hc : ∀ o, w'.cell? ⟨b, o, none⟩ = w.cell? ⟨b, o, none⟩ := fun o => hb.cell (p := ⟨b, o, none⟩) hl
  have hf : ∀ o, w'.frozen? ⟨b, o, none⟩ = w.frozen? ⟨b, o, none⟩ := fun o => hb.frozen (p := ⟨b, o, none⟩) hl
  constructor <;> first | rw [hc] | rw [hf]
  · exact h.c0
  · exact h.c1
  · exact h.c2
  · exact h.c3
  · exact h.c4
  · exact h.c5
  · exact h.f0
  · exact h.f1
  · exact h.f2
  · exact h.f3
  · exact h.f4
  · exact h.f5
theorem Own6.new (w : World) (x0 x1 x2 x3 x4 x5 : Value) (T : TypeId) : Own6 (w.alloc (.cells #[x0, x1, x2, x3, x4, x5] T)) w.heap.size x0 x1 x2 x3 x4 x5 := by
  constructor <;> simp
/-- All six fields stored. -/
theorem Own6.set {w : World} {b : Nat} {y0 y1 y2 y3 y4 y5 : Value} (h : Own6 w b y0 y1 y2 y3 y4 y5) (x0 x1 x2 x3 x4 x5 : Value) :
    Own6 ((((((w.setCell ⟨b, 0, none⟩ x0).setCell ⟨b, 1, none⟩ x1).setCell ⟨b, 2, none⟩ x2).setCell ⟨b, 3, none⟩ x3).setCell ⟨b, 4, none⟩ x4).setCell ⟨b, 5, none⟩ x5) b x0 x1 x2 x3 x4 x5 := by
  obtain ⟨c0, c1, c2, c3, c4, c5, f0, f1, f2, f3, f4, f5⟩ := h
  constructor <;> simp [go_sem, c0, c1, c2, c3, c4, c5, f0, f1, f2, f3, f4, f5]
theorem below_set6 {B : Nat} {w w1 : World} {b : Nat} {x0 x1 x2 x3 x4 x5 : Value} (h : Below B w w1) (hb : B ≤ b) : Below B w ((((((w1.setCell ⟨b, 0, none⟩ x0).setCell ⟨b, 1, none⟩ x1).setCell ⟨b, 2, none⟩ x2).setCell ⟨b, 3, none⟩ x3).setCell ⟨b, 4, none⟩ x4).setCell ⟨b, 5, none⟩ x5) :=
  (((((h.setCell hb x0).setCell hb x1).setCell hb x2).setCell hb x3).setCell hb x4).setCell hb x5

end Go.Proofs.Ytoidfmhkcnpjoaa
