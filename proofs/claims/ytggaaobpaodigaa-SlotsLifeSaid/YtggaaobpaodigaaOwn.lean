/- Boxed structs of any number of cells that may be written; rows of one's own beside stores elsewhere. -/
import Derived.Test.YtggaaobpaodigaaRow
namespace Go.Proofs.Ytggaaobpaodigaa
open Go.RowKit

/-- Block b holds the cells vs, and may be written. -/
structure OwnL (w : World) (b : Nat) (vs : List Value) : Prop where
  cell : ∀ (i : Nat) (v : Value), vs[i]? = some v → w.cell? ⟨b, i, none⟩ = some v
  free : ∀ i : Nat, w.frozen? ⟨b, i, none⟩ = false
theorem OwnL.lt {w : World} {b : Nat} {vs : List Value} (h : OwnL w b vs) {v : Value} (h0 : vs[0]? = some v) : b < w.heap.size := cell_lt (h.cell 0 v h0)
theorem OwnL.keep {w w' : World} {b : Nat} {vs : List Value} (h : OwnL w b vs) (hb : Below w.heap.size w w') (hlt : b < w.heap.size) : OwnL w' b vs :=
  ⟨fun i v hv => cell_keep hb (h.cell i v hv), fun i => by rw [hb.frozen (p := ⟨b, i, none⟩) hlt]; exact h.free i⟩
theorem OwnL.new (w : World) (vs : List Value) (T : TypeId) : OwnL (w.alloc (.cells vs.toArray T)) w.heap.size vs :=
  ⟨fun i v hv => by simp [hv], fun i => by simp⟩
theorem OwnL.set {w : World} {b : Nat} {vs : List Value} (h : OwnL w b vs) (j : Nat) (x : Value) (hj : j < vs.length) : OwnL (w.setCell ⟨b, j, none⟩ x) b (vs.set j x) := by
  refine ⟨fun i v hv => ?_, fun i => by rw [World.frozen?_setCell]; exact h.free i⟩
  rw [List.getElem?_set] at hv
  by_cases hij : j = i
  · subst hij
    rw [if_pos rfl, if_pos hj] at hv
    obtain rfl : x = v := Option.some.inj hv
    exact World.cell?_setCell_same _ _ _ (h.cell j _ (List.getElem?_eq_getElem hj))
  · rw [if_neg hij] at hv
    rw [World.cell?_setCell_other _ _ _ _ (fun e => hij (by injection e))]
    exact h.cell i v hv
theorem OwnL.other {w : World} {b : Nat} {vs : List Value} (h : OwnL w b vs) (a : Addr) (x : Value) (hne : a.block ≠ b) : OwnL (w.setCell a x) b vs :=
  ⟨fun i v hv => by rw [World.cell?_setCell_other _ _ _ _ (fun e => hne (by rw [e]))]; exact h.cell i v hv, fun i => by rw [World.frozen?_setCell]; exact h.free i⟩
/-- A row of one's own in block g, where another block is stored to. -/
theorem own_other {w : World} {B e s g n c : Nat} {xs : List Value} (h : w.ownsRow B e s (.slice (some ⟨g, 0, none⟩) n c) n xs) (a : Addr) (x : Value) (hne : g ≠ a.block) : (w.setCell a x).ownsRow B e s (.slice (some ⟨g, 0, none⟩) n c) n xs := by
  refine ⟨h.1, ?_⟩
  rcases h.2 with hn | ⟨g', cap, cur, hv, hg, hh, rest⟩
  · exact .inl hn
  · simp only [Value.slice.injEq, Option.some.injEq, Addr.mk.injEq, and_true, true_and] at hv
    obtain ⟨rfl, rfl⟩ := hv
    exact .inr ⟨g, c, cur, rfl, hg, by rw [Below.heap_setCell _ _ _ _ hne]; exact hh, rest⟩
end Go.Proofs.Ytggaaobpaodigaa
