/- Contracts of the references of layer 4: take, Small, Large, Free. -/
import Derived.Test.YtbenklhbcgiacaaPageX
namespace Go.Proofs.Ytbenklhbcgiacaa
open Go.RowKit

theorem own_mono {w : World} {B B' e s n : Nat} {v : Value} {xs : List Value} (h : w.ownsRow B e s v n xs) (hb : B' ≤ B) : w.ownsRow B' e s v n xs := by
  refine ⟨h.1, ?_⟩
  rcases h.2 with hn | ⟨g, cap, cur, rfl, hg, rest⟩
  · exact .inl hn
  · exact .inr ⟨g, cap, cur, rfl, Nat.le_trans hb hg, rest⟩
/-- A call returned a slice of pages of its own, and the error er. -/
def RetO (B : Nat) (ps : List Pg) (er : Int) (e : Ending) (w' : World) : Prop := ∃ q m c, e = .returned (.tuple #[.slice q m c, .int .i64 er]) ∧ w'.ownsRow B 55 4 (.slice q m c) m (pvals ps)
theorem RetO.nil (B : Nat) (er : Int) (w : World) : RetO B [] er (.returned (.tuple #[.slice none 0 0, .int .i64 er])) w := ⟨none, 0, 0, rfl, World.ownsRow_nil _ _ _ _⟩

theorem smallP_no {ps : List Pg} {i sp : Int} (h : ¬ (0 ≤ sp ∧ sp ≤ 1)) : smallPV ps i sp = [] ∧ smallPE ps i sp = 1 := by
  unfold smallPV smallPE; rw [if_neg h, if_neg h]; exact ⟨rfl, rfl⟩
theorem smallP_ok {ps : List Pg} {i sp : Int} (h : 0 ≤ sp ∧ sp ≤ 1) : smallPV ps i sp = takeV ps i 1 ⟨1, sp, 0, 0⟩ Pg.zero ∧ smallPE ps i sp = takeE ps i 1 := by
  unfold smallPV smallPE; rw [if_pos h, if_pos h]; exact ⟨rfl, rfl⟩
theorem RetO.mk {B : Nat} {xs ys : List Pg} {er er' : Int} {w : World} {q : Option Addr} {m c : Nat} (h : w.ownsRow B 55 4 (.slice q m c) m (pvals xs)) (e1 : ys = xs) (e2 : er' = er) : RetO B ys er' (.returned (.tuple #[.slice q m c, .int .i64 er])) w := by
  subst e1 e2; exact ⟨q, m, c, rfl, h⟩

theorem largeP_no {pw np : Int} {ps : List Pg} {i sp n : Int} (h : ¬ (1 ≤ needV pw np n ∧ 0 ≤ sp ∧ sp ≤ 1)) : largePV pw np ps i sp n = [] ∧ largePE pw np ps i sp n = 1 := by
  unfold largePV largePE; rw [if_neg h, if_neg h]; exact ⟨rfl, rfl⟩
theorem largeP_ok {pw np : Int} {ps : List Pg} {i sp n : Int} (h : 1 ≤ needV pw np n ∧ 0 ≤ sp ∧ sp ≤ 1) : largePV pw np ps i sp n = takeV ps i (needV pw np n) ⟨2, sp, n, 0⟩ ⟨3, sp, 0, 0⟩ ∧ largePE pw np ps i sp n = takeE ps i (needV pw np n) := by
  unfold largePV largePE; rw [if_pos h, if_pos h]; exact ⟨rfl, rfl⟩

end Go.Proofs.Ytbenklhbcgiacaa
