/- What is asked of the reference's cut. -/
import Derived.Test.YtapfbnhcndifhaaScW
set_option linter.unusedVariables false
namespace Go.Proofs.Ytapfbnhcndifhaa
open Go.RowKit
end Go.Proofs.Ytapfbnhcndifhaa
