/- Contracts of the reference of layer 15: Same at equal tables, Get, put. -/
import Derived.Test.YtggaaobpaodigaaSlD
set_option linter.unusedVariables false
set_option linter.unusedSimpArgs false
namespace Go.Proofs.Ytggaaobpaodigaa
open Go.RowKit

end Go.Proofs.Ytggaaobpaodigaa
