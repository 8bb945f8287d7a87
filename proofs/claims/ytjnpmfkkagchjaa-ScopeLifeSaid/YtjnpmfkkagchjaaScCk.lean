/- What is asked of the reference's cut. -/
import Derived.Test.YtjnpmfkkagchjaaScW
set_option linter.unusedVariables false
namespace Go.Proofs.Ytjnpmfkkagchjaa
open Go.RowKit
def CutOK : Prop := ∀ (pa : Option Addr) (na ca : Nat) (pb : Option Addr) (nb cb : Nat) (pc : Option Addr) (nc cc : Nat) (l : Loc) (k : Nat) (s : Sp) (w : World) (hr : LRow w pa na ca pb nb cb pc nc cc l) (ho : okB l = true) (hs : l.sc[k]? = some s),
    Calls Try.prog 42 #[.agg #[.slice pa na ca, .slice pb nb cb, .slice pc nc cc], .int .i64 k] w fun e w' => RetO (cutL l k s) e w' ∧ Below w.heap.size w w'
end Go.Proofs.Ytjnpmfkkagchjaa
