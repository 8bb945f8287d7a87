/- Contracts of the reference of layer 15: put, Set, Delete. -/
import Derived.Test.YtggaaobpaodigaaSlI
import Derived.Test.YtggaaobpaodigaaSlG
set_option linter.unusedVariables false
set_option linter.unusedSimpArgs false
namespace Go.Proofs.Ytggaaobpaodigaa
open Go.RowKit

theorem flat_setS {α : Type} (f : α → List Value) (hf : ∀ x, (f x).length = 3) (y : α) {a b c : Value} (hy : f y = [a, b, c]) : ∀ (l : List α) (j : Nat), j < l.length → (((l.flatMap f).set (j * 3) a).set (j * 3 + 1) b).set (j * 3 + 2) c = (l.set j y).flatMap f
  | [], j, h => by simp at h
  | x :: r, 0, h => by
    obtain ⟨p, q, s, hx⟩ : ∃ p q s, f x = [p, q, s] := by
      have := hf x
      match hfx : f x, this with
      | [p, q, s], _ => exact ⟨p, q, s, rfl⟩
    simp [List.flatMap_cons, hx, hy]
  | x :: r, j + 1, h => by
    have ih := flat_setS f hf y hy r j (by simpa using h)
    have e0 : (j + 1) * 3 = (f x).length + j * 3 := by rw [hf]; omega
    have e1 : (j + 1) * 3 + 1 = (f x).length + (j * 3 + 1) := by rw [hf]; omega
    have e2 : (j + 1) * 3 + 2 = (f x).length + (j * 3 + 2) := by rw [hf]; omega
    rw [e1, e2, e0, List.flatMap_cons, List.set_append_right _ _ (by omega), List.set_append_right _ _ (by omega), List.set_append_right _ _ (by omega)]
    simp only [Nat.add_sub_cancel_left, List.set_cons_succ, List.flatMap_cons]
    rw [ih]
theorem own_en {w : World} {base g n cap T : Nat} {qs : List En} {j : Nat} {x : En} (h : w.ownsRow base T 3 (.slice (some ⟨g, 0, none⟩) n cap) n (qs.flatMap enC)) (hx : qs[j]? = some x) :
    (w.cell? ⟨g, j * 3, none⟩ = some (.int .i64 x.gn) ∧ w.cell? ⟨g, j * 3 + 1, none⟩ = some (.int .u64 x.rf) ∧ w.cell? ⟨g, j * 3 + 2, none⟩ = some (.bool x.lv)) ∧
    w.frozen? ⟨g, j * 3, none⟩ = false ∧ w.frozen? ⟨g, j * 3 + 1, none⟩ = false ∧ w.frozen? ⟨g, j * 3 + 2, none⟩ = false := by
  have hl : qs.length = n := by have := h.1; rw [flat_len _ 3 enC_len] at this; omega
  have hj : j < n := by rw [← hl]; exact (List.getElem?_eq_some_iff.1 hx).1
  have h0 := flat_at enC 3 enC_len qs j x 0 (by decide) hx
  have h1 := flat_at enC 3 enC_len qs j x 1 (by decide) hx
  have h2 := flat_at enC 3 enC_len qs j x 2 (by decide) hx
  exact ⟨⟨by rw [h.cellAt _ (by omega)]; exact h0, by rw [h.cellAt _ (by omega)]; exact h1, by rw [h.cellAt _ (by omega)]; exact h2⟩, h.frozenAt _, h.frozenAt _, h.frozenAt _⟩
theorem own_setEn {w : World} {base g n cap T : Nat} {qs : List En} (h : w.ownsRow base T 3 (.slice (some ⟨g, 0, none⟩) n cap) n (qs.flatMap enC)) (j : Nat) (hj : j < qs.length) (y : En) :
    (((w.setCell ⟨g, j * 3, none⟩ (.int .i64 y.gn)).setCell ⟨g, j * 3 + 1, none⟩ (.int .u64 y.rf)).setCell ⟨g, j * 3 + 2, none⟩ (.bool y.lv)).ownsRow base T 3 (.slice (some ⟨g, 0, none⟩) n cap) n ((qs.set j y).flatMap enC) := by
  rw [← flat_setS enC enC_len y rfl qs j hj]
  exact (((h.stored _ _).1.stored _ _).1.stored _ _).1
theorem enC_one (sl : List En) : ∀ v ∈ sl.flatMap enC, v.oneCell' = true := by
  intro v hv
  obtain ⟨s, _, h⟩ := List.mem_flatMap.1 hv
  simp [enC] at h
  rcases h with rfl | rfl | rfl <;> rfl
theorem box_far3 {w : World} {b g : Nat} {vs : List Value} (h : OwnL w b vs) (o0 o1 o2 : Nat) (x y z : Value) (hne : g ≠ b) : OwnL (((w.setCell ⟨g, o0, none⟩ x).setCell ⟨g, o1, none⟩ y).setCell ⟨g, o2, none⟩ z) b vs := ((h.other _ x hne).other _ y hne).other _ z hne
theorem below_far3 {w w0 : World} {C g : Nat} (h : Below C w0 w) (hC : C ≤ g) (o0 o1 o2 : Nat) (x y z : Value) : Below C w0 (((w.setCell ⟨g, o0, none⟩ x).setCell ⟨g, o1, none⟩ y).setCell ⟨g, o2, none⟩ z) := ((h.setCell hC x).setCell hC y).setCell hC z

end Go.Proofs.Ytggaaobpaodigaa
