/- The regions of SlotsLife, taken out of the program's text. -/
import Derived.Test.YtggaaobpaodigaaSlZ
import Derived.Test.YtggaaobpaodigaaDraw
set_option linter.unusedVariables false
namespace Go.Proofs.Ytggaaobpaodigaa
open Go.RowKit
def findR (n : Nat) : Code → Option Code
  | .region m ops b => match Nat.beq m n with
    | true => some (.region m ops b)
    | false => none
  | .seq a b => match findR n a with
    | some c => some c
    | none => findR n b
  | .cond _ a b => match findR n a with
    | some c => some c
    | none => findR n b
  | .block _ c => findR n c
  | .loop c => findR n c
  | .scope c => findR n c
  | _ => none
def findBl (n : Nat) : Code → Option Code
  | .block m c => match Nat.beq m n with
    | true => some (.block m c)
    | false => findBl n c
  | .seq a b => match findBl n a with
    | some c => some c
    | none => findBl n b
  | .cond _ a b => match findBl n a with
    | some c => some c
    | none => findBl n b
  | .loop c => findBl n c
  | .scope c => findBl n c
  | _ => none
noncomputable def blkL (n : Nat) : Code := ((Try.f3.body.bind (findBl n)).getD .skip)
noncomputable def regL (n : Nat) : Code := ((Try.f3.body.bind (findR n)).getD .skip)
end Go.Proofs.Ytggaaobpaodigaa
