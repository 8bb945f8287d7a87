/- The law ScopeHandles over its arguments as they are read. -/
import Derived.Test.YtjnpmfkkagchjaaScLh
import Derived.Test.YtjnpmfkkagchjaaScQ
namespace Go.Proofs.Ytjnpmfkkagchjaa
open Go.RowKit Go.ChangeShapes Go.WideShapes Go.Deep
section
variable {H : Type} {enc : TypeId × Value → H} {w : World} {spare : Nat → Bool} {held : Bool}
theorem lawHandlesD {pa : Option Addr} {na ca : Nat} {pb : Option Addr} {nb cb : Nat} {pc : Option Addr} {nc cc : Nat} {l : Loc} {ref i st : Int} {a0 : Option Addr} {len cap : Nat} {d : DataW H} {pl : List MemPlace} (hr : LRow w pa na ca pb nb cb pc nc cc l)
    (h : DataW.Trod enc Try.prog w 0 spare held 30 (.slice a0 len cap) d pl) :
    Calls Try.prog 5 #[.agg #[.slice pa na ca, .slice pb nb cb, .slice pc nc cc], .int .u64 ref, .int .i64 i, .int .i64 st, .slice a0 len cap] w fun e w' => e = .returned (.bool true) ∧ Below w.heap.size w w' := by
  obtain ⟨xs, hx, _⟩ := open_srow Try.underlying30 Try.underlying38 (by kernel_rfl) h
  exact lawHandles pa na ca pb nb cb pc nc cc l ref i st a0 len cap xs w hr hx
end
end Go.Proofs.Ytjnpmfkkagchjaa
