/- The law ScopeLife of layer 14. -/
import Derived.Test.YtapfbnhcndifhaaScPz
import Derived.Test.YtapfbnhcndifhaaScPa
import Derived.Test.YtapfbnhcndifhaaScJ
import Derived.Test.YtapfbnhcndifhaaScF
import Derived.Test.YtapfbnhcndifhaaScEq
set_option linter.unusedVariables false
set_option linter.unusedSimpArgs false
namespace Go.Proofs.Ytapfbnhcndifhaa
open Go.RowKit
attribute [local go_sem] eq_pair

theorem scGet_held {B b1 o1 o2 : Nat} {a b c d e : Value} {w0 w : World} (pa : Option Addr) (na ca : Nat) (pb : Option Addr) (nb cb : Nat) (pc : Option Addr) (nc cc : Nat) (l : Loc) (i st : Int) (h : w.cell? ⟨B, 0, none⟩ = some a ∧ w.cell? ⟨B, 1, none⟩ = some b ∧ w.cell? ⟨B, 2, none⟩ = some c ∧ w.cell? ⟨b1, o1, none⟩ = some d ∧ w.cell? ⟨b1, o2, none⟩ = some e ∧ Below w0.heap.size w0 w) (hr : LRow w0 pa na ca pb nb cb pc nc cc l) :
    Calls Try.prog 13 #[.agg #[.slice pa na ca, .slice pb nb cb, .slice pc nc cc], .int .i64 i, .int .i64 st] w fun e w' => e = .returned (.tuple #[.int .u64 (getV l i st), .int .i64 (findV l i st)]) ∧ Below w.heap.size w w' :=
  scGet_any pa na ca pb nb cb pc nc cc l i st w (hr.keep h.2.2.2.2.2)

end Go.Proofs.Ytapfbnhcndifhaa
