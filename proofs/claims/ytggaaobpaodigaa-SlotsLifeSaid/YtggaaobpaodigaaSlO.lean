/- Contracts of the reference of layer 15: Set, Delete. -/
import Derived.Test.YtggaaobpaodigaaSlJ
set_option linter.unusedVariables false
set_option linter.unusedSimpArgs false
namespace Go.Proofs.Ytggaaobpaodigaa
open Go.RowKit

end Go.Proofs.Ytggaaobpaodigaa
