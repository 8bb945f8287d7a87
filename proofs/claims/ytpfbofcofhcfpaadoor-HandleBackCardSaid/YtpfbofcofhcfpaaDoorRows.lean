/-
  NARROWER THAN 'FOR EVERY INPUT', by the rows' own cells (each row's printed sentence says how): HandleEncodes: laid · HandleDecodes: laid · HandleBack: laid · HandleApart: laid.
  DERIVED. THE GIVEN ROWS OF THIS SEAT. 4 by the template 'for every input the law returns true; each argument reads behind the call as it read before'; 0 by the template 'total and deterministic' (their statements: YtpfbofcofhcfpaaDoorTotals.lean).
  GIVEN WITH THE SEED: the statements are not yours to turn. If you find one false, say at which input.
  Laid BY PROGRAM, IN A SANDBOX (cutbox-rows.mjs): the forced cells as the released guide's own fill.sh prints them over the translation 7f2901a488148631… (all of the seat's roots in one cut). By AI agents, Wed Nov 11 2026. No macro, syntax, notation, axiom, sorry.
-/
import Derived.Test.YtpfbofcofhcfpaaDoorChecked
import GoSem.Claim
import GoSem.ClaimJoined
import GoSem.ClaimMapViews
import Derived.JoinedTies
import Derived.KernelRfl
namespace Go.Proofs.YtpfbofcofhcfpaaDoor
/- THE CELL 'sum', in the pinned program and in every row, IS THE sha256 OF THE DUMP (.gsa) THAT YtpfbofcofhcfpaaDoorProg.lean LOADS. Nothing in Lean hashes anything: it is a label: what it is worth is what the hold of that sum in a sandbox is worth. -/
noncomputable def Tryd.pinned : Pinned := { name := "ytpfbofcofhcfpaadoor", sum := "7f2901a4881486315324dd5094a53aa2325d6abc67cd607c024d09a224c8104c", checked := Tryd.checked }
namespace Rows
def none {H : Type} : Left H := { results := [], args := [] }

/- WHAT THE LISTED PACKAGE-LEVEL VARIABLES READ AS WHEN THE CALL BEGINS. Each datum BY PROGRAM (the guide's laid-datum.mjs) off the statement by which the dump's own 'gosem.cut.vars' lays the variable. In a bare row this is a premise. The card (YtpfbofcofhcfpaaDoorCards.lean) ties it to the program's text. -/
def laid_semispace_handle_widths {H : Type} : DataW H := .agg [.lit (.int .i64 2), .lit (.int .i64 16), .lit (.int .i64 32)]

/-- 'semispacelaw16.HandleEncodes': WHATEVER THE INPUT: true; the input reads as it did. -/
def handleEncodesSpec : ChangeSpec := { name := "handleEncodes", fn := fun _ => fun
  | [d] => { results := [.lit (.bool true)], args := [d] }
  | _ => none }
def handleEncodesRow : OpenClaim := { program := "ytpfbofcofhcfpaadoor", sum := "7f2901a4881486315324dd5094a53aa2325d6abc67cd607c024d09a224c8104c", func := "semispace/semispacelaw16.HandleEncodes", spec := "handleEncodes", unfollowed := true, recurses := true, named := ["semispace/handle.widths"], apart := false, laid := [("semispace/handle.widths", laid_semispace_handle_widths)] }
def HandleEncodesSaid : Prop := handleEncodesRow.holds Tryd.pinned (OpenSpec.ofChange handleEncodesSpec)

/-- ITS FALSE NEIGHBOUR: 'it returns false'. Refute it at one input. -/
def handleEncodesWrong : ChangeSpec := { name := "handleEncodes", fn := fun _ => fun
  | [d] => { results := [.lit (.bool false)], args := [d] }
  | _ => none }
def HandleEncodesWrongFalsely : Prop := handleEncodesRow.holds Tryd.pinned (OpenSpec.ofChange handleEncodesWrong)

/-- 'semispacelaw16.HandleDecodes': WHATEVER THE INPUT: true; the input reads as it did. -/
def handleDecodesSpec : ChangeSpec := { name := "handleDecodes", fn := fun _ => fun
  | [d] => { results := [.lit (.bool true)], args := [d] }
  | _ => none }
def handleDecodesRow : OpenClaim := { program := "ytpfbofcofhcfpaadoor", sum := "7f2901a4881486315324dd5094a53aa2325d6abc67cd607c024d09a224c8104c", func := "semispace/semispacelaw16.HandleDecodes", spec := "handleDecodes", unfollowed := true, recurses := true, named := ["semispace/handle.widths"], apart := false, laid := [("semispace/handle.widths", laid_semispace_handle_widths)] }
def HandleDecodesSaid : Prop := handleDecodesRow.holds Tryd.pinned (OpenSpec.ofChange handleDecodesSpec)

/-- ITS FALSE NEIGHBOUR: 'it returns false'. Refute it at one input. -/
def handleDecodesWrong : ChangeSpec := { name := "handleDecodes", fn := fun _ => fun
  | [d] => { results := [.lit (.bool false)], args := [d] }
  | _ => none }
def HandleDecodesWrongFalsely : Prop := handleDecodesRow.holds Tryd.pinned (OpenSpec.ofChange handleDecodesWrong)

/-- 'semispacelaw16.HandleBack': WHATEVER THE INPUT: true; the input reads as it did. -/
def handleBackSpec : ChangeSpec := { name := "handleBack", fn := fun _ => fun
  | [d1, d2] => { results := [.lit (.bool true)], args := [d1, d2] }
  | _ => none }
def handleBackRow : OpenClaim := { program := "ytpfbofcofhcfpaadoor", sum := "7f2901a4881486315324dd5094a53aa2325d6abc67cd607c024d09a224c8104c", func := "semispace/semispacelaw16.HandleBack", spec := "handleBack", unfollowed := true, recurses := true, named := ["semispace/handle.widths"], apart := false, laid := [("semispace/handle.widths", laid_semispace_handle_widths)] }
def HandleBackSaid : Prop := handleBackRow.holds Tryd.pinned (OpenSpec.ofChange handleBackSpec)

/-- ITS FALSE NEIGHBOUR: 'it returns false'. Refute it at one input. -/
def handleBackWrong : ChangeSpec := { name := "handleBack", fn := fun _ => fun
  | [d1, d2] => { results := [.lit (.bool false)], args := [d1, d2] }
  | _ => none }
def HandleBackWrongFalsely : Prop := handleBackRow.holds Tryd.pinned (OpenSpec.ofChange handleBackWrong)

/-- 'semispacelaw16.HandleApart': WHATEVER THE INPUT: true; the input reads as it did. -/
def handleApartSpec : ChangeSpec := { name := "handleApart", fn := fun _ => fun
  | [d] => { results := [.lit (.bool true)], args := [d] }
  | _ => none }
def handleApartRow : OpenClaim := { program := "ytpfbofcofhcfpaadoor", sum := "7f2901a4881486315324dd5094a53aa2325d6abc67cd607c024d09a224c8104c", func := "semispace/semispacelaw16.HandleApart", spec := "handleApart", unfollowed := true, recurses := true, named := ["semispace/handle.widths"], apart := false, laid := [("semispace/handle.widths", laid_semispace_handle_widths)] }
def HandleApartSaid : Prop := handleApartRow.holds Tryd.pinned (OpenSpec.ofChange handleApartSpec)

/-- ITS FALSE NEIGHBOUR: 'it returns false'. Refute it at one input. -/
def handleApartWrong : ChangeSpec := { name := "handleApart", fn := fun _ => fun
  | [d] => { results := [.lit (.bool false)], args := [d] }
  | _ => none }
def HandleApartWrongFalsely : Prop := handleApartRow.holds Tryd.pinned (OpenSpec.ofChange handleApartWrong)

/- THE SECOND FORM. 'bulk': how many values and letters a reading holds, each counted each time it is reached (what is shared counts as often as it is met; a slice's spare places count too). A statement '..UptoSaid' is the law's where the arguments, and the package variables that the reading takes, are together of bulk at most 1048576: NARROWER than '..Said'. Prove '..Said' where nothing that the law and all that it calls make is longer than what came in: it says more and counts as full. Else prove '..UptoSaid'. A law counts once. -/
mutual
def uptoBulk {H : Type} : DataW H → Nat
  | .lit (.string bytes) => bytes.length + 1
  | .lit _ => 1
  | .nil => 1
  | .ptr d => uptoBulk d + 1
  | .slice elems spare => uptoBulkAll elems + uptoBulkAll spare + 1
  | .agg parts => uptoBulkAll parts + 1
  | .iface _ d => uptoBulk d + 1
  | .map entries => uptoBulkEntries entries + 1
  | .held _ => 1
def uptoBulkAll {H : Type} : List (DataW H) → Nat
  | [] => 0
  | d :: r => uptoBulk d + uptoBulkAll r
def uptoBulkEntries {H : Type} : List (Lit × DataW H) → Nat
  | [] => 0
  | x :: r => uptoBulkEntry x + uptoBulkEntries r
def uptoBulkEntry {H : Type} : Lit × DataW H → Nat
  | (.string bytes, d) => bytes.length + uptoBulk d + 1
  | (_, d) => uptoBulk d + 1
 end
def uptoSmall : (H : Type) → List (DataW H) → Bool := fun _ ds => decide (uptoBulkAll ds ≤ 1048576)
def OpenSpec.upto (s : _root_.Go.ChangeSpec) : _root_.Go.OpenSpec := { _root_.Go.OpenSpec.ofChange s with cond := some uptoSmall }

/-- 'semispacelaw16.HandleEncodes', WHERE WHAT IT READS IS OF BULK AT MOST 1048576: true; the input reads as it did. -/
def handleEncodesUptoRow : OpenClaim := { program := "ytpfbofcofhcfpaadoor", sum := "7f2901a4881486315324dd5094a53aa2325d6abc67cd607c024d09a224c8104c", func := "semispace/semispacelaw16.HandleEncodes", spec := "handleEncodes", unfollowed := true, recurses := true, named := ["semispace/handle.widths"], apart := false, laid := [("semispace/handle.widths", laid_semispace_handle_widths)], narrowed := true }
def HandleEncodesUptoSaid : Prop := handleEncodesUptoRow.holds Tryd.pinned (OpenSpec.upto handleEncodesSpec)

/-- 'semispacelaw16.HandleDecodes', WHERE WHAT IT READS IS OF BULK AT MOST 1048576: true; the input reads as it did. -/
def handleDecodesUptoRow : OpenClaim := { program := "ytpfbofcofhcfpaadoor", sum := "7f2901a4881486315324dd5094a53aa2325d6abc67cd607c024d09a224c8104c", func := "semispace/semispacelaw16.HandleDecodes", spec := "handleDecodes", unfollowed := true, recurses := true, named := ["semispace/handle.widths"], apart := false, laid := [("semispace/handle.widths", laid_semispace_handle_widths)], narrowed := true }
def HandleDecodesUptoSaid : Prop := handleDecodesUptoRow.holds Tryd.pinned (OpenSpec.upto handleDecodesSpec)

/-- 'semispacelaw16.HandleBack', WHERE WHAT IT READS IS OF BULK AT MOST 1048576: true; the input reads as it did. -/
def handleBackUptoRow : OpenClaim := { program := "ytpfbofcofhcfpaadoor", sum := "7f2901a4881486315324dd5094a53aa2325d6abc67cd607c024d09a224c8104c", func := "semispace/semispacelaw16.HandleBack", spec := "handleBack", unfollowed := true, recurses := true, named := ["semispace/handle.widths"], apart := false, laid := [("semispace/handle.widths", laid_semispace_handle_widths)], narrowed := true }
def HandleBackUptoSaid : Prop := handleBackUptoRow.holds Tryd.pinned (OpenSpec.upto handleBackSpec)

/-- 'semispacelaw16.HandleApart', WHERE WHAT IT READS IS OF BULK AT MOST 1048576: true; the input reads as it did. -/
def handleApartUptoRow : OpenClaim := { program := "ytpfbofcofhcfpaadoor", sum := "7f2901a4881486315324dd5094a53aa2325d6abc67cd607c024d09a224c8104c", func := "semispace/semispacelaw16.HandleApart", spec := "handleApart", unfollowed := true, recurses := true, named := ["semispace/handle.widths"], apart := false, laid := [("semispace/handle.widths", laid_semispace_handle_widths)], narrowed := true }
def HandleApartUptoSaid : Prop := handleApartUptoRow.holds Tryd.pinned (OpenSpec.upto handleApartSpec)

end Rows
end Go.Proofs.YtpfbofcofhcfpaaDoor
