/- Contracts of the references of layer 14: live, to, Valid. -/
import Derived.Test.YtapfbnhcndifhaaScD
namespace Go.Proofs.Ytapfbnhcndifhaa
open Go.RowKit

/-! What valid scopes are, as the reference asks it. -/
def prevFr (sc : List Sp) : Nat → Int
  | 0 => 0
  | j + 1 => match sc[j]? with
    | some s => s.fr
    | none => 0
theorem prevFr_succ {sc : List Sp} {k : Nat} {s : Sp} (h : sc[k]? = some s) : prevFr sc (k + 1) = s.fr := by rw [prevFr, h]
/-- Scope k as the reference's first loop asks it. -/
def FrOk (l : Loc) (k : Nat) (s : Sp) : Prop := (k = 0 → s.fr = 0 ∧ s.bs = true) ∧ prevFr l.sc k ≤ s.fr ∧ s.fr ≤ l.sl.length ∧ 0 ≤ s.cp ∧ s.cp ≤ 64
theorem okSc_first {l : Loc} {s : Sp} (h : okSc l = true) (hs : l.sc[0]? = some s) : (s.fr = 0 ∧ s.bs = true) ∧ l.sc.length ≤ 64 ∧ allSp l = true := by
  rw [okSc_cons hs] at h
  simpa [and_assoc] using h
theorem first_of {l : Loc} {k : Nat} {s : Sp} (hs : l.sc[k]? = some s) : ∃ s0, l.sc[0]? = some s0 :=
  ⟨_, List.getElem?_eq_getElem (by have := (List.getElem?_eq_some_iff.1 hs).1; omega)⟩
theorem okSc_fr {l : Loc} (h : okSc l = true) {k : Nat} {s : Sp} (hs : l.sc[k]? = some s) : FrOk l k s := by
  obtain ⟨s0, h0⟩ := first_of hs
  obtain ⟨hf, _, ha⟩ := okSc_first h h0
  have hk := spanB_iff.1 (allSp_iff.1 ha k s hs)
  refine ⟨fun e => ?_, ?_, by omega, hk.1.1, hk.1.2⟩
  · subst e; rw [h0] at hs; cases hs; exact hf
  · cases k with
    | zero => rw [h0] at hs; cases hs; show (0 : Int) ≤ _; omega
    | succ j =>
      obtain ⟨s', hs'⟩ : ∃ s', l.sc[j]? = some s' := ⟨_, List.getElem?_eq_getElem (by have := (List.getElem?_eq_some_iff.1 hs).1; omega)⟩
      rw [prevFr_succ hs']
      have := (spanB_iff.1 (allSp_iff.1 ha j s' hs')).2.1
      rw [endOf_in hs] at this; exact this
theorem okSc_cnt {l : Loc} (h : okSc l = true) {k : Nat} {s : Sp} (hs : l.sc[k]? = some s) : (cnt (part l.sl s.fr (endOf l k)) : Int) ≤ s.cp := by
  obtain ⟨s0, h0⟩ := first_of hs
  exact (spanB_iff.1 (allSp_iff.1 (okSc_first h h0).2.2 k s hs)).2.2.2
theorem fr_nonneg {l : Loc} (h : ∀ k s, l.sc[k]? = some s → FrOk l k s) : ∀ (k : Nat) (s : Sp), l.sc[k]? = some s → 0 ≤ s.fr
  | 0, s, hs => by have := ((h 0 s hs).1 rfl).1; omega
  | k + 1, s, hs => by
    obtain ⟨s', hs'⟩ : ∃ s', l.sc[k]? = some s' := ⟨_, List.getElem?_eq_getElem (by have := (List.getElem?_eq_some_iff.1 hs).1; omega)⟩
    have h1 := fr_nonneg h k s' hs'
    have h2 := (h (k + 1) s hs).2.1
    rw [prevFr_succ hs'] at h2; omega
theorem fr_end {l : Loc} (h : ∀ k s, l.sc[k]? = some s → FrOk l k s) {k : Nat} {s : Sp} (hs : l.sc[k]? = some s) : s.fr ≤ endOf l k ∧ endOf l k ≤ l.sl.length := by
  cases hn : l.sc[k + 1]? with
  | none => rw [show endOf l k = l.sl.length from by unfold endOf; rw [hn]]; exact ⟨(h k s hs).2.2.1, Int.le_refl _⟩
  | some s' =>
    rw [endOf_in hn]
    have h2 := h (k + 1) s' hn
    have h3 := h2.2.1
    rw [prevFr_succ hs] at h3
    exact ⟨h3, h2.2.2.1⟩
theorem okSc_of {l : Loc} (h64 : l.sc.length ≤ 64) (hn : l.sc.length = 0 → l.sl.length = 0) (h : ∀ k s, l.sc[k]? = some s → FrOk l k s) (hc : ∀ k s, l.sc[k]? = some s → (cnt (part l.sl s.fr (endOf l k)) : Int) ≤ s.cp) : okSc l = true := by
  cases h0 : l.sc[0]? with
  | none =>
    have : l.sc.length = 0 := by have := List.getElem?_eq_none_iff.1 h0; omega
    rw [okSc_nil this, hn this]; rfl
  | some s =>
    have ha : allSp l = true := allSp_iff.2 fun k s hs => spanB_iff.2 ⟨(h k s hs).2.2.2, (fr_end h hs).1, (fr_end h hs).2, hc k s hs⟩
    obtain ⟨e1, e2⟩ := (h 0 s h0).1 rfl
    rw [okSc_cons h0, ha, e1, e2]
    simp [h64]
theorem okB_iff {l : Loc} : okB l = true ↔ issAll l.is = true ∧ okSc l = true ∧ okSl l = true := by simp [okB, and_assoc]
theorem okB_no1 {l : Loc} (h : issAll l.is = false) : okB l = false := by simp [okB, h]
theorem okB_no2 {l : Loc} (h : ¬ okSc l = true) : okB l = false := by rw [← Bool.not_eq_true, okB_iff]; exact fun h' => h h'.2.1
theorem okB_no3 {l : Loc} {k : Nat} {s : Sl} (hs : l.sl[k]? = some s) (h : ¬ slotB l k s = true) : okB l = false := by
  rw [← Bool.not_eq_true, okB_iff]; exact fun h' => h (okSl_iff.1 h'.2.2 k s hs)
end Go.Proofs.Ytapfbnhcndifhaa
