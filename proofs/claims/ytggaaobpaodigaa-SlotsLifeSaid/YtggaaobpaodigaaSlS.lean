/- The library's slices.Sorted, maps.Keys and slices.Sort at ints, laid out of the shelf (tools/lay2tpl.py), in plain words. -/
import Derived.Shelf.SlIterI.Nil
import Derived.Shelf.SortM.Plain
import Derived.Shelf.SortM.SortNone
import Derived.Test.YtggaaobpaodigaaProg
namespace Go.Proofs.Ytggaaobpaodigaa
open Go.RowKit Go.Maps Go.Sort Go.Shelf

end Go.Proofs.Ytggaaobpaodigaa
