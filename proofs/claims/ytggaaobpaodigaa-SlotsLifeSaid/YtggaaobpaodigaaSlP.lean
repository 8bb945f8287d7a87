/- Contract of the reference of layer 15: New. -/
import Derived.Test.YtggaaobpaodigaaSlO
set_option linter.unusedVariables false
set_option linter.unusedSimpArgs false
namespace Go.Proofs.Ytggaaobpaodigaa
open Go.RowKit

end Go.Proofs.Ytggaaobpaodigaa
