/- Contracts of package page on page tables: isSpace, isPins, isSmall, the checks of free, small and tail pages. -/
import Derived.Test.YtoidfmhkcnpjoaaPgP
import Derived.Test.YtoidfmhkcnpjoaaPageV
namespace Go.Proofs.Ytoidfmhkcnpjoaa
open Go.RowKit

def spaceB (n : Int) : Bool := decide (n = 0 ∨ n = 1)

/-- Page i as a free page, a small page. -/
def freeOK (x : Pg) : Bool := decide (x.space = 0 ∧ x.used = 0 ∧ x.pins = 0)
def smallOK (pw : Int) (x : Pg) : Bool := spaceB x.space && decide (0 ≤ x.used ∧ x.used ≤ pw) && pinsB x.pins

end Go.Proofs.Ytoidfmhkcnpjoaa
