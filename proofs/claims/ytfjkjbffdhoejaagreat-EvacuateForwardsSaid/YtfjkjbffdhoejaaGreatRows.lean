/-
  No cell of these rows narrows 'for every input' (looked for: loops, veiled, ifaces, maps, wideKeys, modest, calm, conditions, laid).
  DERIVED. THE GIVEN ROWS OF THIS SEAT. 8 by the template 'for every input the law returns true; each argument reads behind the call as it read before'; 0 by the template 'total and deterministic' (their statements: YtfjkjbffdhoejaaGreatTotals.lean).
  GIVEN WITH THE SEED: the statements are not yours to turn. If you find one false, say at which input.
  Laid BY PROGRAM, IN A SANDBOX (cutbox-rows.mjs): the forced cells as the released guide's own fill.sh prints them over the translation ee0da083bb768813… (all of the seat's roots in one cut). By AI agents, Wed Nov 11 2026. No macro, syntax, notation, axiom, sorry.
-/
import Derived.Test.YtfjkjbffdhoejaaGreatChecked
import GoSem.Claim
import GoSem.ClaimJoined
import GoSem.ClaimMapViews
import Derived.JoinedTies
import Derived.KernelRfl
namespace Go.Proofs.YtfjkjbffdhoejaaGreat
/- THE CELL 'sum', in the pinned program and in every row, IS THE sha256 OF THE DUMP (.gsa) THAT YtfjkjbffdhoejaaGreatProg.lean LOADS. Nothing in Lean hashes anything: it is a label: what it is worth is what the hold of that sum in a sandbox is worth. -/
noncomputable def Tryz.pinned : Pinned := { name := "ytfjkjbffdhoejaagreat", sum := "ee0da083bb7688130a46e0138fb26424c398cd416e4cdc25f9dfaf318576b500", checked := Tryz.checked }
namespace Rows
def none {H : Type} : Left H := { results := [], args := [] }

/-- 'semispacelaw10.EvacuateBegins': WHATEVER THE INPUT: true; the input reads as it did. -/
def evacuateBeginsSpec : ChangeSpec := { name := "evacuateBegins", fn := fun _ => fun
  | [d1, d2, d3] => { results := [.lit (.bool true)], args := [d1, d2, d3] }
  | _ => none }
def evacuateBeginsRow : OpenClaim := { program := "ytfjkjbffdhoejaagreat", sum := "ee0da083bb7688130a46e0138fb26424c398cd416e4cdc25f9dfaf318576b500", func := "semispace/semispacelaw10.EvacuateBegins", spec := "evacuateBegins", unfollowed := true, recurses := true, apart := false }
def EvacuateBeginsSaid : Prop := evacuateBeginsRow.holds Tryz.pinned (OpenSpec.ofChange evacuateBeginsSpec)

/-- ITS FALSE NEIGHBOUR: 'it returns false'. Refute it at one input. -/
def evacuateBeginsWrong : ChangeSpec := { name := "evacuateBegins", fn := fun _ => fun
  | [d1, d2, d3] => { results := [.lit (.bool false)], args := [d1, d2, d3] }
  | _ => none }
def EvacuateBeginsWrongFalsely : Prop := evacuateBeginsRow.holds Tryz.pinned (OpenSpec.ofChange evacuateBeginsWrong)

/-- 'semispacelaw10.EvacuateForwards': WHATEVER THE INPUT: true; the input reads as it did. -/
def evacuateForwardsSpec : ChangeSpec := { name := "evacuateForwards", fn := fun _ => fun
  | [d1, d2, d3] => { results := [.lit (.bool true)], args := [d1, d2, d3] }
  | _ => none }
def evacuateForwardsRow : OpenClaim := { program := "ytfjkjbffdhoejaagreat", sum := "ee0da083bb7688130a46e0138fb26424c398cd416e4cdc25f9dfaf318576b500", func := "semispace/semispacelaw10.EvacuateForwards", spec := "evacuateForwards", unfollowed := true, recurses := true, apart := false }
def EvacuateForwardsSaid : Prop := evacuateForwardsRow.holds Tryz.pinned (OpenSpec.ofChange evacuateForwardsSpec)

/-- ITS FALSE NEIGHBOUR: 'it returns false'. Refute it at one input. -/
def evacuateForwardsWrong : ChangeSpec := { name := "evacuateForwards", fn := fun _ => fun
  | [d1, d2, d3] => { results := [.lit (.bool false)], args := [d1, d2, d3] }
  | _ => none }
def EvacuateForwardsWrongFalsely : Prop := evacuateForwardsRow.holds Tryz.pinned (OpenSpec.ofChange evacuateForwardsWrong)

/-- 'semispacelaw10.EvacuateOnce': WHATEVER THE INPUT: true; the input reads as it did. -/
def evacuateOnceSpec : ChangeSpec := { name := "evacuateOnce", fn := fun _ => fun
  | [d1, d2] => { results := [.lit (.bool true)], args := [d1, d2] }
  | _ => none }
def evacuateOnceRow : OpenClaim := { program := "ytfjkjbffdhoejaagreat", sum := "ee0da083bb7688130a46e0138fb26424c398cd416e4cdc25f9dfaf318576b500", func := "semispace/semispacelaw10.EvacuateOnce", spec := "evacuateOnce", unfollowed := true, recurses := true, apart := false }
def EvacuateOnceSaid : Prop := evacuateOnceRow.holds Tryz.pinned (OpenSpec.ofChange evacuateOnceSpec)

/-- ITS FALSE NEIGHBOUR: 'it returns false'. Refute it at one input. -/
def evacuateOnceWrong : ChangeSpec := { name := "evacuateOnce", fn := fun _ => fun
  | [d1, d2] => { results := [.lit (.bool false)], args := [d1, d2] }
  | _ => none }
def EvacuateOnceWrongFalsely : Prop := evacuateOnceRow.holds Tryz.pinned (OpenSpec.ofChange evacuateOnceWrong)

/-- 'semispacelaw10.EvacuateCopies': WHATEVER THE INPUT: true; the input reads as it did. -/
def evacuateCopiesSpec : ChangeSpec := { name := "evacuateCopies", fn := fun _ => fun
  | [d1, d2] => { results := [.lit (.bool true)], args := [d1, d2] }
  | _ => none }
def evacuateCopiesRow : OpenClaim := { program := "ytfjkjbffdhoejaagreat", sum := "ee0da083bb7688130a46e0138fb26424c398cd416e4cdc25f9dfaf318576b500", func := "semispace/semispacelaw10.EvacuateCopies", spec := "evacuateCopies", unfollowed := true, recurses := true, apart := false }
def EvacuateCopiesSaid : Prop := evacuateCopiesRow.holds Tryz.pinned (OpenSpec.ofChange evacuateCopiesSpec)

/-- ITS FALSE NEIGHBOUR: 'it returns false'. Refute it at one input. -/
def evacuateCopiesWrong : ChangeSpec := { name := "evacuateCopies", fn := fun _ => fun
  | [d1, d2] => { results := [.lit (.bool false)], args := [d1, d2] }
  | _ => none }
def EvacuateCopiesWrongFalsely : Prop := evacuateCopiesRow.holds Tryz.pinned (OpenSpec.ofChange evacuateCopiesWrong)

/-- 'semispacelaw11.ScanSteps': WHATEVER THE INPUT: true; the input reads as it did. -/
def scanStepsSpec : ChangeSpec := { name := "scanSteps", fn := fun _ => fun
  | [d1, d2] => { results := [.lit (.bool true)], args := [d1, d2] }
  | _ => none }
def scanStepsRow : OpenClaim := { program := "ytfjkjbffdhoejaagreat", sum := "ee0da083bb7688130a46e0138fb26424c398cd416e4cdc25f9dfaf318576b500", func := "semispace/semispacelaw11.ScanSteps", spec := "scanSteps", unfollowed := true, recurses := true, apart := false }
def ScanStepsSaid : Prop := scanStepsRow.holds Tryz.pinned (OpenSpec.ofChange scanStepsSpec)

/-- ITS FALSE NEIGHBOUR: 'it returns false'. Refute it at one input. -/
def scanStepsWrong : ChangeSpec := { name := "scanSteps", fn := fun _ => fun
  | [d1, d2] => { results := [.lit (.bool false)], args := [d1, d2] }
  | _ => none }
def ScanStepsWrongFalsely : Prop := scanStepsRow.holds Tryz.pinned (OpenSpec.ofChange scanStepsWrong)

/-- 'semispacelaw11.ScanAll': WHATEVER THE INPUT: true; the input reads as it did. -/
def scanAllSpec : ChangeSpec := { name := "scanAll", fn := fun _ => fun
  | [d] => { results := [.lit (.bool true)], args := [d] }
  | _ => none }
def scanAllRow : OpenClaim := { program := "ytfjkjbffdhoejaagreat", sum := "ee0da083bb7688130a46e0138fb26424c398cd416e4cdc25f9dfaf318576b500", func := "semispace/semispacelaw11.ScanAll", spec := "scanAll", unfollowed := true, recurses := true, apart := false }
def ScanAllSaid : Prop := scanAllRow.holds Tryz.pinned (OpenSpec.ofChange scanAllSpec)

/-- ITS FALSE NEIGHBOUR: 'it returns false'. Refute it at one input. -/
def scanAllWrong : ChangeSpec := { name := "scanAll", fn := fun _ => fun
  | [d] => { results := [.lit (.bool false)], args := [d] }
  | _ => none }
def ScanAllWrongFalsely : Prop := scanAllRow.holds Tryz.pinned (OpenSpec.ofChange scanAllWrong)

/-- 'semispacelaw11.ScanDone': WHATEVER THE INPUT: true; the input reads as it did. -/
def scanDoneSpec : ChangeSpec := { name := "scanDone", fn := fun _ => fun
  | [d] => { results := [.lit (.bool true)], args := [d] }
  | _ => none }
def scanDoneRow : OpenClaim := { program := "ytfjkjbffdhoejaagreat", sum := "ee0da083bb7688130a46e0138fb26424c398cd416e4cdc25f9dfaf318576b500", func := "semispace/semispacelaw11.ScanDone", spec := "scanDone", unfollowed := true, recurses := true, apart := false }
def ScanDoneSaid : Prop := scanDoneRow.holds Tryz.pinned (OpenSpec.ofChange scanDoneSpec)

/-- ITS FALSE NEIGHBOUR: 'it returns false'. Refute it at one input. -/
def scanDoneWrong : ChangeSpec := { name := "scanDone", fn := fun _ => fun
  | [d] => { results := [.lit (.bool false)], args := [d] }
  | _ => none }
def ScanDoneWrongFalsely : Prop := scanDoneRow.holds Tryz.pinned (OpenSpec.ofChange scanDoneWrong)

/-- 'semispacelaw11.ScanOrder': WHATEVER THE INPUT: true; the input reads as it did. -/
def scanOrderSpec : ChangeSpec := { name := "scanOrder", fn := fun _ => fun
  | [d] => { results := [.lit (.bool true)], args := [d] }
  | _ => none }
def scanOrderRow : OpenClaim := { program := "ytfjkjbffdhoejaagreat", sum := "ee0da083bb7688130a46e0138fb26424c398cd416e4cdc25f9dfaf318576b500", func := "semispace/semispacelaw11.ScanOrder", spec := "scanOrder", unfollowed := true, recurses := true, apart := false }
def ScanOrderSaid : Prop := scanOrderRow.holds Tryz.pinned (OpenSpec.ofChange scanOrderSpec)

/-- ITS FALSE NEIGHBOUR: 'it returns false'. Refute it at one input. -/
def scanOrderWrong : ChangeSpec := { name := "scanOrder", fn := fun _ => fun
  | [d] => { results := [.lit (.bool false)], args := [d] }
  | _ => none }
def ScanOrderWrongFalsely : Prop := scanOrderRow.holds Tryz.pinned (OpenSpec.ofChange scanOrderWrong)

/- THE SECOND FORM. 'bulk': how many values and letters a reading holds, each counted each time it is reached (what is shared counts as often as it is met; a slice's spare places count too). A statement '..UptoSaid' is the law's where the arguments, and the package variables that the reading takes, are together of bulk at most 1048576: NARROWER than '..Said'. Prove '..Said' where nothing that the law and all that it calls make is longer than what came in: it says more and counts as full. Else prove '..UptoSaid'. A law counts once. -/
mutual
def uptoBulk {H : Type} : DataW H → Nat
  | .lit (.string bytes) => bytes.length + 1
  | .lit _ => 1
  | .nil => 1
  | .ptr d => uptoBulk d + 1
  | .slice elems spare => uptoBulkAll elems + uptoBulkAll spare + 1
  | .agg parts => uptoBulkAll parts + 1
  | .iface _ d => uptoBulk d + 1
  | .map entries => uptoBulkEntries entries + 1
  | .held _ => 1
def uptoBulkAll {H : Type} : List (DataW H) → Nat
  | [] => 0
  | d :: r => uptoBulk d + uptoBulkAll r
def uptoBulkEntries {H : Type} : List (Lit × DataW H) → Nat
  | [] => 0
  | x :: r => uptoBulkEntry x + uptoBulkEntries r
def uptoBulkEntry {H : Type} : Lit × DataW H → Nat
  | (.string bytes, d) => bytes.length + uptoBulk d + 1
  | (_, d) => uptoBulk d + 1
 end
def uptoSmall : (H : Type) → List (DataW H) → Bool := fun _ ds => decide (uptoBulkAll ds ≤ 1048576)
def OpenSpec.upto (s : _root_.Go.ChangeSpec) : _root_.Go.OpenSpec := { _root_.Go.OpenSpec.ofChange s with cond := some uptoSmall }

/-- 'semispacelaw10.EvacuateBegins', WHERE WHAT IT READS IS OF BULK AT MOST 1048576: true; the input reads as it did. -/
def evacuateBeginsUptoRow : OpenClaim := { program := "ytfjkjbffdhoejaagreat", sum := "ee0da083bb7688130a46e0138fb26424c398cd416e4cdc25f9dfaf318576b500", func := "semispace/semispacelaw10.EvacuateBegins", spec := "evacuateBegins", unfollowed := true, recurses := true, apart := false, narrowed := true }
def EvacuateBeginsUptoSaid : Prop := evacuateBeginsUptoRow.holds Tryz.pinned (OpenSpec.upto evacuateBeginsSpec)

/-- 'semispacelaw10.EvacuateForwards', WHERE WHAT IT READS IS OF BULK AT MOST 1048576: true; the input reads as it did. -/
def evacuateForwardsUptoRow : OpenClaim := { program := "ytfjkjbffdhoejaagreat", sum := "ee0da083bb7688130a46e0138fb26424c398cd416e4cdc25f9dfaf318576b500", func := "semispace/semispacelaw10.EvacuateForwards", spec := "evacuateForwards", unfollowed := true, recurses := true, apart := false, narrowed := true }
def EvacuateForwardsUptoSaid : Prop := evacuateForwardsUptoRow.holds Tryz.pinned (OpenSpec.upto evacuateForwardsSpec)

/-- 'semispacelaw10.EvacuateOnce', WHERE WHAT IT READS IS OF BULK AT MOST 1048576: true; the input reads as it did. -/
def evacuateOnceUptoRow : OpenClaim := { program := "ytfjkjbffdhoejaagreat", sum := "ee0da083bb7688130a46e0138fb26424c398cd416e4cdc25f9dfaf318576b500", func := "semispace/semispacelaw10.EvacuateOnce", spec := "evacuateOnce", unfollowed := true, recurses := true, apart := false, narrowed := true }
def EvacuateOnceUptoSaid : Prop := evacuateOnceUptoRow.holds Tryz.pinned (OpenSpec.upto evacuateOnceSpec)

/-- 'semispacelaw10.EvacuateCopies', WHERE WHAT IT READS IS OF BULK AT MOST 1048576: true; the input reads as it did. -/
def evacuateCopiesUptoRow : OpenClaim := { program := "ytfjkjbffdhoejaagreat", sum := "ee0da083bb7688130a46e0138fb26424c398cd416e4cdc25f9dfaf318576b500", func := "semispace/semispacelaw10.EvacuateCopies", spec := "evacuateCopies", unfollowed := true, recurses := true, apart := false, narrowed := true }
def EvacuateCopiesUptoSaid : Prop := evacuateCopiesUptoRow.holds Tryz.pinned (OpenSpec.upto evacuateCopiesSpec)

/-- 'semispacelaw11.ScanSteps', WHERE WHAT IT READS IS OF BULK AT MOST 1048576: true; the input reads as it did. -/
def scanStepsUptoRow : OpenClaim := { program := "ytfjkjbffdhoejaagreat", sum := "ee0da083bb7688130a46e0138fb26424c398cd416e4cdc25f9dfaf318576b500", func := "semispace/semispacelaw11.ScanSteps", spec := "scanSteps", unfollowed := true, recurses := true, apart := false, narrowed := true }
def ScanStepsUptoSaid : Prop := scanStepsUptoRow.holds Tryz.pinned (OpenSpec.upto scanStepsSpec)

/-- 'semispacelaw11.ScanAll', WHERE WHAT IT READS IS OF BULK AT MOST 1048576: true; the input reads as it did. -/
def scanAllUptoRow : OpenClaim := { program := "ytfjkjbffdhoejaagreat", sum := "ee0da083bb7688130a46e0138fb26424c398cd416e4cdc25f9dfaf318576b500", func := "semispace/semispacelaw11.ScanAll", spec := "scanAll", unfollowed := true, recurses := true, apart := false, narrowed := true }
def ScanAllUptoSaid : Prop := scanAllUptoRow.holds Tryz.pinned (OpenSpec.upto scanAllSpec)

/-- 'semispacelaw11.ScanDone', WHERE WHAT IT READS IS OF BULK AT MOST 1048576: true; the input reads as it did. -/
def scanDoneUptoRow : OpenClaim := { program := "ytfjkjbffdhoejaagreat", sum := "ee0da083bb7688130a46e0138fb26424c398cd416e4cdc25f9dfaf318576b500", func := "semispace/semispacelaw11.ScanDone", spec := "scanDone", unfollowed := true, recurses := true, apart := false, narrowed := true }
def ScanDoneUptoSaid : Prop := scanDoneUptoRow.holds Tryz.pinned (OpenSpec.upto scanDoneSpec)

/-- 'semispacelaw11.ScanOrder', WHERE WHAT IT READS IS OF BULK AT MOST 1048576: true; the input reads as it did. -/
def scanOrderUptoRow : OpenClaim := { program := "ytfjkjbffdhoejaagreat", sum := "ee0da083bb7688130a46e0138fb26424c398cd416e4cdc25f9dfaf318576b500", func := "semispace/semispacelaw11.ScanOrder", spec := "scanOrder", unfollowed := true, recurses := true, apart := false, narrowed := true }
def ScanOrderUptoSaid : Prop := scanOrderUptoRow.holds Tryz.pinned (OpenSpec.upto scanOrderSpec)

end Rows
end Go.Proofs.YtfjkjbffdhoejaaGreat
