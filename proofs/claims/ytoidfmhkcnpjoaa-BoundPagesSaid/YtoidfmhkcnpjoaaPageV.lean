/- Contracts of the references of layer 4 on page tables: InUse, SamePages. -/
import Derived.Test.YtoidfmhkcnpjoaaPageN
import Derived.Test.YtoidfmhkcnpjoaaPageU
namespace Go.Proofs.Ytoidfmhkcnpjoaa
open Go.RowKit

theorem tails_step {ps : List Pg} {k : Nat} {x : Pg} {sp : Int} (h : ps[k]? = some x) : tails sp (ps.drop k) = if x.kind = 3 ∧ x.space = sp then tails sp (ps.drop (k + 1)) + 1 else 0 := by
  obtain ⟨hk, rfl⟩ := List.getElem?_eq_some_iff.1 h
  rw [List.drop_eq_getElem_cons hk, tails]
theorem tails_end {ps : List Pg} {k : Nat} {sp : Int} (h : ps.length ≤ k) : tails sp (ps.drop k) = 0 := by
  rw [List.drop_eq_nil_of_le h]; rfl

theorem pg_eq {x y : Pg} (h0 : x.kind = y.kind) (h1 : x.space = y.space) (h2 : x.used = y.used) (h3 : x.pins = y.pins) : x = y := by
  cases x; cases y; simp_all

end Go.Proofs.Ytoidfmhkcnpjoaa
