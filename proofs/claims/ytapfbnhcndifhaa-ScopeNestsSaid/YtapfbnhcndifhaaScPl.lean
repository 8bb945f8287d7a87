/- Contract of the reference's Leave of layer 14. -/
import Derived.Test.YtapfbnhcndifhaaScCk
import Derived.Test.YtapfbnhcndifhaaScLv
set_option linter.unusedVariables false
set_option linter.unusedSimpArgs false
namespace Go.Proofs.Ytapfbnhcndifhaa
open Go.RowKit

end Go.Proofs.Ytapfbnhcndifhaa
