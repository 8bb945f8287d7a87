/- Contracts of package page on page tables: the check of large pages. -/
import Derived.Test.YtoidfmhkcnpjoaaPgT
import Derived.Test.YtoidfmhkcnpjoaaPgM
import Derived.Test.YtoidfmhkcnpjoaaCut
set_option maxRecDepth 100000
namespace Go.Proofs.Ytoidfmhkcnpjoaa
open Go.RowKit

theorem pvals_drop : ∀ (l : Nat) (ps : List Pg), (pvals ps).drop (l * 4) = pvals (ps.drop l)
  | 0, ps => by simp
  | l + 1, [] => by simp [pvals]
  | l + 1, x :: r => by
    rw [List.drop_succ_cons, ← pvals_drop l r, show (l + 1) * 4 = 4 + l * 4 from by omega, ← List.drop_drop]; rfl
theorem pvals_take : ∀ (m : Nat) (ps : List Pg), (pvals ps).take (m * 4) = pvals (ps.take m)
  | 0, ps => by simp [pvals]
  | m + 1, [] => by simp [pvals]
  | m + 1, x :: r => by
    have h : (x.vals ++ pvals r).take (4 + m * 4) = x.vals ++ (pvals r).take (m * 4) := by
      rw [List.take_append, show x.vals.length = 4 from rfl, show 4 + m * 4 - 4 = m * 4 from by omega, List.take_of_length_le (by simp [Pg.vals])]
    rw [List.take_succ_cons, show (m + 1) * 4 = 4 + m * 4 from by omega]
    exact h.trans (by rw [pvals_take m r]; rfl)
theorem PRow.cut {w : World} {p : Option Addr} {n cap : Nat} {ps : List Pg} (h : PRow w p n cap ps) {l m : Nat} (hl : l + m ≤ n) : PRow w (cutS 4 p cap l) m (cap - l) ((ps.drop l).take m) := by
  have := VRow.cut h hl
  rw [pvals_drop, pvals_take] at this
  exact this
theorem needV_le (pw np n : Int) : needV pw np n ≤ 4 := by
  unfold needV needP
  repeat' split
  all_goals omega
def largeOK (pw np : Int) (ps : List Pg) (i : Nat) (x : Pg) : Bool :=
  spaceB x.space && decide (1 ≤ needV pw np x.used) && pinsB x.pins && decide ((i : Int) + needV pw np x.used ≤ ps.length) && allTails x.space ((ps.drop (i + 1)).take ((needV pw np x.used).toNat - 1))

end Go.Proofs.Ytoidfmhkcnpjoaa
