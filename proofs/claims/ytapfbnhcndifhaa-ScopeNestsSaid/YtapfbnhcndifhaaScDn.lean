/- The law ScopeNests over its arguments as they are read. -/
import Derived.Test.YtapfbnhcndifhaaScNs
import Derived.Test.YtapfbnhcndifhaaScDl
set_option linter.unusedVariables false
namespace Go.Proofs.Ytapfbnhcndifhaa
open Go.RowKit Go.ChangeShapes Go.WideShapes Go.Deep
section
variable {H : Type} {enc : TypeId × Value → H} {w : World} {spare : Nat → Bool} {held : Bool}
theorem lawNestsD {a0 : Option Addr} {len cap : Nat} {d : DataW H} {pl : List MemPlace} {sz : Int} {b0 : Option Addr} {lenb capb : Nat} {db : DataW H} {pb : List MemPlace}
    (h : DataW.Trod enc Try.prog w 0 spare held 22 (.slice a0 len cap) d pl) (hb : DataW.Trod enc Try.prog w 0 spare held 23 (.slice b0 lenb capb) db pb) :
    Calls Try.prog 3 #[.slice a0 len cap, .int .i64 sz, .slice b0 lenb capb] w fun e w' => e = .returned (.bool true) ∧ Below w.heap.size w w' := by
  obtain ⟨ac, hx⟩ := open_acts h
  obtain ⟨xs, hs, _⟩ := open_srow Try.underlying23 Try.underlying38 (by kernel_rfl) hb
  exact lawNests a0 len cap ac sz b0 lenb capb xs w hx hs
end
end Go.Proofs.Ytapfbnhcndifhaa
