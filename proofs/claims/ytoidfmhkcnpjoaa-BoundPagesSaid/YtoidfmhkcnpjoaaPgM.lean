/- Plain mathematics of proper page tables: the tails still due. -/
import Derived.Test.YtoidfmhkcnpjoaaPageN
set_option linter.unusedVariables false
namespace Go.Proofs.Ytoidfmhkcnpjoaa
open Go.RowKit

/-- Are the pages tails of this space? -/
def allTails (sp : Int) (l : List Pg) : Bool := l.all fun t => decide (t.kind = 3 ∧ t.space = sp)
/-- The tail pages still due at place i. -/
def dueAt (pw np : Int) (ps : List Pg) : Nat → Int
  | 0 => 0
  | i + 1 => if (ps.getD i Pg.zero).kind = 2 then max 0 (needV pw np (ps.getD i Pg.zero).used - 1) else max 0 (dueAt pw np ps i - 1)
theorem due_nonneg (pw np : Int) (ps : List Pg) : ∀ i, 0 ≤ dueAt pw np ps i
  | 0 => Int.le_refl 0
  | i + 1 => by rw [dueAt]; split <;> omega
theorem tails_ge (sp : Int) : ∀ (l : List Pg) (m : Nat), m ≤ tails sp l ↔ (m ≤ l.length ∧ allTails sp (l.take m) = true)
  | [], m => by
    rw [tails]
    constructor
    · intro h; obtain rfl : m = 0 := by omega
      exact ⟨Nat.le_refl _, rfl⟩
    · rintro ⟨h, -⟩; exact h
  | x :: r, 0 => by simp [allTails]
  | x :: r, m + 1 => by
    rw [tails, List.take_succ_cons, List.length_cons]
    have ih := tails_ge sp r m
    have e : allTails sp (x :: r.take m) = (decide (x.kind = 3 ∧ x.space = sp) && allTails sp (r.take m)) := rfl
    rw [e, Bool.and_eq_true, decide_eq_true_eq]
    by_cases h : x.kind = 3 ∧ x.space = sp
    · rw [if_pos h]
      constructor
      · intro a
        obtain ⟨a1, a2⟩ := ih.1 (by omega)
        exact ⟨by omega, h, a2⟩
      · rintro ⟨a1, -, a2⟩
        have := ih.2 ⟨by omega, a2⟩
        omega
    · rw [if_neg h]
      constructor
      · intro a; omega
      · rintro ⟨-, a, -⟩; exact absurd a h
theorem due_step {pw np : Int} {ps : List Pg} {i : Nat} {x : Pg} (hx : ps[i]? = some x) {r : List Pg} {d : Int} (h : stepP pw np x r (dueAt pw np ps i) = some d) : d = dueAt pw np ps (i + 1) := by
  rw [dueAt, getD_at hx]
  unfold stepP at h
  split at h
  · cases h
  · split at h
    · rename_i k0
      rw [if_neg (by omega)]
      split at h
      · exact (Option.some.inj h).symm
      · cases h
    · split at h
      · rename_i k1
        rw [if_neg (by omega)]
        split at h
        · cases h
        · exact (Option.some.inj h).symm
      · split at h
        · rename_i k2
          rw [if_pos k2]
          split at h
          · cases h
          · exact (Option.some.inj h).symm
        · rename_i k2
          rw [if_neg k2]
          split at h
          · split at h
            · exact (Option.some.inj h).symm
            · cases h
          · cases h
theorem proper_at {pw np : Int} {ps : List Pg} (h : properL pw np ps 0 = true) : ∀ i, i ≤ ps.length → properL pw np (ps.drop i) (dueAt pw np ps i) = true
  | 0, _ => by rw [List.drop_zero]; exact h
  | i + 1, hi => by
    have ih := proper_at h i (by omega)
    have hx : ps[i]? = some (ps[i]'(by omega)) := List.getElem?_eq_getElem _
    rw [List.drop_eq_getElem_cons (by omega), properL] at ih
    cases hs : stepP pw np (ps[i]'(by omega)) (ps.drop (i + 1)) (dueAt pw np ps i) with
    | none => rw [hs] at ih; cases ih
    | some d => rw [hs] at ih; rw [← due_step hx hs]; exact ih
end Go.Proofs.Ytoidfmhkcnpjoaa
