/- Contract of the references' Same: whether two lists of words are equal. -/
import Derived.Test.YtggaaobpaodigaaKit
namespace Go.Proofs.Ytggaaobpaodigaa
open Go.RowKit

end Go.Proofs.Ytggaaobpaodigaa
