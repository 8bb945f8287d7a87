/-
  No cell of these rows narrows 'for every input' (looked for: loops, veiled, ifaces, maps, wideKeys, modest, calm, conditions, laid).
  DERIVED. THE GIVEN ROWS OF THIS SEAT. 6 by the template 'for every input the law returns true; each argument reads behind the call as it read before'; 0 by the template 'total and deterministic' (their statements: YtckecbaepnmoaaaTotals.lean).
  GIVEN WITH THE SEED: the statements are not yours to turn. If you find one false, say at which input.
  Laid BY PROGRAM, IN A SANDBOX (cutbox-rows.mjs): the forced cells as the released guide's own fill.sh prints them over the translation 70ffccfbbacfd1ad… (all of the seat's roots in one cut). By AI agents, Wed Nov 11 2026. No macro, syntax, notation, axiom, sorry.
-/
import Derived.Test.YtckecbaepnmoaaaChecked
import GoSem.Claim
import GoSem.ClaimJoined
import GoSem.ClaimMapViews
import Derived.JoinedTies
import Derived.KernelRfl
namespace Go.Proofs.Ytckecbaepnmoaaa
/- THE CELL 'sum', in the pinned program and in every row, IS THE sha256 OF THE DUMP (.gsa) THAT YtckecbaepnmoaaaProg.lean LOADS. Nothing in Lean hashes anything: it is a label: what it is worth is what the hold of that sum in a sandbox is worth. -/
noncomputable def Try.pinned : Pinned := { name := "ytckecbaepnmoaaa", sum := "70ffccfbbacfd1addbbdcedf7ea0c8e79e2facef7ec4c3f0107e09f223ab1598", checked := Try.checked }
namespace Rows
def none {H : Type} : Left H := { results := [], args := [] }

/-- 'semispacelaw03.HeaderEncodes': WHATEVER THE INPUT: true; the input reads as it did. -/
def headerEncodesSpec : ChangeSpec := { name := "headerEncodes", fn := fun _ => fun
  | [d] => { results := [.lit (.bool true)], args := [d] }
  | _ => none }
def headerEncodesRow : OpenClaim := { program := "ytckecbaepnmoaaa", sum := "70ffccfbbacfd1addbbdcedf7ea0c8e79e2facef7ec4c3f0107e09f223ab1598", func := "semispace/semispacelaw03.HeaderEncodes", spec := "headerEncodes", unfollowed := true, recurses := true, apart := false }
def HeaderEncodesSaid : Prop := headerEncodesRow.holds Try.pinned (OpenSpec.ofChange headerEncodesSpec)

/-- ITS FALSE NEIGHBOUR: 'it returns false'. Refute it at one input. -/
def headerEncodesWrong : ChangeSpec := { name := "headerEncodes", fn := fun _ => fun
  | [d] => { results := [.lit (.bool false)], args := [d] }
  | _ => none }
def HeaderEncodesWrongFalsely : Prop := headerEncodesRow.holds Try.pinned (OpenSpec.ofChange headerEncodesWrong)

/-- 'semispacelaw03.HeaderDecodes': WHATEVER THE INPUT: true; the input reads as it did. -/
def headerDecodesSpec : ChangeSpec := { name := "headerDecodes", fn := fun _ => fun
  | [d] => { results := [.lit (.bool true)], args := [d] }
  | _ => none }
def headerDecodesRow : OpenClaim := { program := "ytckecbaepnmoaaa", sum := "70ffccfbbacfd1addbbdcedf7ea0c8e79e2facef7ec4c3f0107e09f223ab1598", func := "semispace/semispacelaw03.HeaderDecodes", spec := "headerDecodes", unfollowed := true, recurses := true, apart := false }
def HeaderDecodesSaid : Prop := headerDecodesRow.holds Try.pinned (OpenSpec.ofChange headerDecodesSpec)

/-- ITS FALSE NEIGHBOUR: 'it returns false'. Refute it at one input. -/
def headerDecodesWrong : ChangeSpec := { name := "headerDecodes", fn := fun _ => fun
  | [d] => { results := [.lit (.bool false)], args := [d] }
  | _ => none }
def HeaderDecodesWrongFalsely : Prop := headerDecodesRow.holds Try.pinned (OpenSpec.ofChange headerDecodesWrong)

/-- 'semispacelaw03.HeaderBack': WHATEVER THE INPUT: true; the input reads as it did. -/
def headerBackSpec : ChangeSpec := { name := "headerBack", fn := fun _ => fun
  | [d1, d2] => { results := [.lit (.bool true)], args := [d1, d2] }
  | _ => none }
def headerBackRow : OpenClaim := { program := "ytckecbaepnmoaaa", sum := "70ffccfbbacfd1addbbdcedf7ea0c8e79e2facef7ec4c3f0107e09f223ab1598", func := "semispace/semispacelaw03.HeaderBack", spec := "headerBack", unfollowed := true, recurses := true, apart := false }
def HeaderBackSaid : Prop := headerBackRow.holds Try.pinned (OpenSpec.ofChange headerBackSpec)

/-- ITS FALSE NEIGHBOUR: 'it returns false'. Refute it at one input. -/
def headerBackWrong : ChangeSpec := { name := "headerBack", fn := fun _ => fun
  | [d1, d2] => { results := [.lit (.bool false)], args := [d1, d2] }
  | _ => none }
def HeaderBackWrongFalsely : Prop := headerBackRow.holds Try.pinned (OpenSpec.ofChange headerBackWrong)

/-- 'semispacelaw03.HeaderForwards': WHATEVER THE INPUT: true; the input reads as it did. -/
def headerForwardsSpec : ChangeSpec := { name := "headerForwards", fn := fun _ => fun
  | [d1, d2] => { results := [.lit (.bool true)], args := [d1, d2] }
  | _ => none }
def headerForwardsRow : OpenClaim := { program := "ytckecbaepnmoaaa", sum := "70ffccfbbacfd1addbbdcedf7ea0c8e79e2facef7ec4c3f0107e09f223ab1598", func := "semispace/semispacelaw03.HeaderForwards", spec := "headerForwards", unfollowed := true, recurses := true, apart := false }
def HeaderForwardsSaid : Prop := headerForwardsRow.holds Try.pinned (OpenSpec.ofChange headerForwardsSpec)

/-- ITS FALSE NEIGHBOUR: 'it returns false'. Refute it at one input. -/
def headerForwardsWrong : ChangeSpec := { name := "headerForwards", fn := fun _ => fun
  | [d1, d2] => { results := [.lit (.bool false)], args := [d1, d2] }
  | _ => none }
def HeaderForwardsWrongFalsely : Prop := headerForwardsRow.holds Try.pinned (OpenSpec.ofChange headerForwardsWrong)

/-- 'semispacelaw03.HeaderApart': WHATEVER THE INPUT: true; the input reads as it did. -/
def headerApartSpec : ChangeSpec := { name := "headerApart", fn := fun _ => fun
  | [d] => { results := [.lit (.bool true)], args := [d] }
  | _ => none }
def headerApartRow : OpenClaim := { program := "ytckecbaepnmoaaa", sum := "70ffccfbbacfd1addbbdcedf7ea0c8e79e2facef7ec4c3f0107e09f223ab1598", func := "semispace/semispacelaw03.HeaderApart", spec := "headerApart", unfollowed := true, recurses := true, apart := false }
def HeaderApartSaid : Prop := headerApartRow.holds Try.pinned (OpenSpec.ofChange headerApartSpec)

/-- ITS FALSE NEIGHBOUR: 'it returns false'. Refute it at one input. -/
def headerApartWrong : ChangeSpec := { name := "headerApart", fn := fun _ => fun
  | [d] => { results := [.lit (.bool false)], args := [d] }
  | _ => none }
def HeaderApartWrongFalsely : Prop := headerApartRow.holds Try.pinned (OpenSpec.ofChange headerApartWrong)

/-- 'semispacelaw03.HeaderPointers': WHATEVER THE INPUT: true; the input reads as it did. -/
def headerPointersSpec : ChangeSpec := { name := "headerPointers", fn := fun _ => fun
  | [d1, d2] => { results := [.lit (.bool true)], args := [d1, d2] }
  | _ => none }
def headerPointersRow : OpenClaim := { program := "ytckecbaepnmoaaa", sum := "70ffccfbbacfd1addbbdcedf7ea0c8e79e2facef7ec4c3f0107e09f223ab1598", func := "semispace/semispacelaw03.HeaderPointers", spec := "headerPointers", unfollowed := true, recurses := true, apart := false }
def HeaderPointersSaid : Prop := headerPointersRow.holds Try.pinned (OpenSpec.ofChange headerPointersSpec)

/-- ITS FALSE NEIGHBOUR: 'it returns false'. Refute it at one input. -/
def headerPointersWrong : ChangeSpec := { name := "headerPointers", fn := fun _ => fun
  | [d1, d2] => { results := [.lit (.bool false)], args := [d1, d2] }
  | _ => none }
def HeaderPointersWrongFalsely : Prop := headerPointersRow.holds Try.pinned (OpenSpec.ofChange headerPointersWrong)

/- THE SECOND FORM. 'bulk': how many values and letters a reading holds, each counted each time it is reached (what is shared counts as often as it is met; a slice's spare places count too). A statement '..UptoSaid' is the law's where the arguments, and the package variables that the reading takes, are together of bulk at most 1048576: NARROWER than '..Said'. Prove '..Said' where nothing that the law and all that it calls make is longer than what came in: it says more and counts as full. Else prove '..UptoSaid'. A law counts once. -/
mutual
def uptoBulk {H : Type} : DataW H → Nat
  | .lit (.string bytes) => bytes.length + 1
  | .lit _ => 1
  | .nil => 1
  | .ptr d => uptoBulk d + 1
  | .slice elems spare => uptoBulkAll elems + uptoBulkAll spare + 1
  | .agg parts => uptoBulkAll parts + 1
  | .iface _ d => uptoBulk d + 1
  | .map entries => uptoBulkEntries entries + 1
  | .held _ => 1
def uptoBulkAll {H : Type} : List (DataW H) → Nat
  | [] => 0
  | d :: r => uptoBulk d + uptoBulkAll r
def uptoBulkEntries {H : Type} : List (Lit × DataW H) → Nat
  | [] => 0
  | x :: r => uptoBulkEntry x + uptoBulkEntries r
def uptoBulkEntry {H : Type} : Lit × DataW H → Nat
  | (.string bytes, d) => bytes.length + uptoBulk d + 1
  | (_, d) => uptoBulk d + 1
 end
def uptoSmall : (H : Type) → List (DataW H) → Bool := fun _ ds => decide (uptoBulkAll ds ≤ 1048576)
def OpenSpec.upto (s : _root_.Go.ChangeSpec) : _root_.Go.OpenSpec := { _root_.Go.OpenSpec.ofChange s with cond := some uptoSmall }

/-- 'semispacelaw03.HeaderEncodes', WHERE WHAT IT READS IS OF BULK AT MOST 1048576: true; the input reads as it did. -/
def headerEncodesUptoRow : OpenClaim := { program := "ytckecbaepnmoaaa", sum := "70ffccfbbacfd1addbbdcedf7ea0c8e79e2facef7ec4c3f0107e09f223ab1598", func := "semispace/semispacelaw03.HeaderEncodes", spec := "headerEncodes", unfollowed := true, recurses := true, apart := false, narrowed := true }
def HeaderEncodesUptoSaid : Prop := headerEncodesUptoRow.holds Try.pinned (OpenSpec.upto headerEncodesSpec)

/-- 'semispacelaw03.HeaderDecodes', WHERE WHAT IT READS IS OF BULK AT MOST 1048576: true; the input reads as it did. -/
def headerDecodesUptoRow : OpenClaim := { program := "ytckecbaepnmoaaa", sum := "70ffccfbbacfd1addbbdcedf7ea0c8e79e2facef7ec4c3f0107e09f223ab1598", func := "semispace/semispacelaw03.HeaderDecodes", spec := "headerDecodes", unfollowed := true, recurses := true, apart := false, narrowed := true }
def HeaderDecodesUptoSaid : Prop := headerDecodesUptoRow.holds Try.pinned (OpenSpec.upto headerDecodesSpec)

/-- 'semispacelaw03.HeaderBack', WHERE WHAT IT READS IS OF BULK AT MOST 1048576: true; the input reads as it did. -/
def headerBackUptoRow : OpenClaim := { program := "ytckecbaepnmoaaa", sum := "70ffccfbbacfd1addbbdcedf7ea0c8e79e2facef7ec4c3f0107e09f223ab1598", func := "semispace/semispacelaw03.HeaderBack", spec := "headerBack", unfollowed := true, recurses := true, apart := false, narrowed := true }
def HeaderBackUptoSaid : Prop := headerBackUptoRow.holds Try.pinned (OpenSpec.upto headerBackSpec)

/-- 'semispacelaw03.HeaderForwards', WHERE WHAT IT READS IS OF BULK AT MOST 1048576: true; the input reads as it did. -/
def headerForwardsUptoRow : OpenClaim := { program := "ytckecbaepnmoaaa", sum := "70ffccfbbacfd1addbbdcedf7ea0c8e79e2facef7ec4c3f0107e09f223ab1598", func := "semispace/semispacelaw03.HeaderForwards", spec := "headerForwards", unfollowed := true, recurses := true, apart := false, narrowed := true }
def HeaderForwardsUptoSaid : Prop := headerForwardsUptoRow.holds Try.pinned (OpenSpec.upto headerForwardsSpec)

/-- 'semispacelaw03.HeaderApart', WHERE WHAT IT READS IS OF BULK AT MOST 1048576: true; the input reads as it did. -/
def headerApartUptoRow : OpenClaim := { program := "ytckecbaepnmoaaa", sum := "70ffccfbbacfd1addbbdcedf7ea0c8e79e2facef7ec4c3f0107e09f223ab1598", func := "semispace/semispacelaw03.HeaderApart", spec := "headerApart", unfollowed := true, recurses := true, apart := false, narrowed := true }
def HeaderApartUptoSaid : Prop := headerApartUptoRow.holds Try.pinned (OpenSpec.upto headerApartSpec)

/-- 'semispacelaw03.HeaderPointers', WHERE WHAT IT READS IS OF BULK AT MOST 1048576: true; the input reads as it did. -/
def headerPointersUptoRow : OpenClaim := { program := "ytckecbaepnmoaaa", sum := "70ffccfbbacfd1addbbdcedf7ea0c8e79e2facef7ec4c3f0107e09f223ab1598", func := "semispace/semispacelaw03.HeaderPointers", spec := "headerPointers", unfollowed := true, recurses := true, apart := false, narrowed := true }
def HeaderPointersUptoSaid : Prop := headerPointersUptoRow.holds Try.pinned (OpenSpec.upto headerPointersSpec)

end Rows
end Go.Proofs.Ytckecbaepnmoaaa
