/- Contracts of package page on page tables: the checks of small and tail pages, owned. -/
import Derived.Test.YtoidfmhkcnpjoaaPgS
namespace Go.Proofs.Ytoidfmhkcnpjoaa
open Go.RowKit

theorem below_2 {w : World} {o o' : Obj} : Below w.heap.size w ((w.alloc o).alloc o') := bthen below_box below_box

/-- Does the last large page before place m reach b pages ahead? -/
def ownedAt (pw np : Int) (ps : List Pg) : Nat → Int → Bool
  | 0, _ => false
  | m + 1, b => if (ps.getD m Pg.zero).kind = 2 then decide (b < needV pw np (ps.getD m Pg.zero).used) else ownedAt pw np ps m (b + 1)
def ownedB (pw np : Int) (ps : List Pg) (i : Nat) : Bool := ownedAt pw np ps i 1

def tailOK (pw np : Int) (ps : List Pg) (i : Nat) (x : Pg) : Bool := decide (x.used = 0 ∧ x.pins = 0) && ownedB pw np ps i

end Go.Proofs.Ytoidfmhkcnpjoaa
