/- Contracts of the reference of layer 15: Refs, Move. -/
import Derived.Test.YtggaaobpaodigaaSlP
import Derived.Test.YtggaaobpaodigaaSlH
set_option linter.unusedVariables false
set_option linter.unusedSimpArgs false
namespace Go.Proofs.Ytggaaobpaodigaa
open Go.RowKit

end Go.Proofs.Ytggaaobpaodigaa
