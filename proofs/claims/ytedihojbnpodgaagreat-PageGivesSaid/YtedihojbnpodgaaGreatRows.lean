/-
  No cell of these rows narrows 'for every input' (looked for: loops, veiled, ifaces, maps, wideKeys, modest, calm, conditions, laid).
  DERIVED. THE GIVEN ROWS OF THIS SEAT. 6 by the template 'for every input the law returns true; each argument reads behind the call as it read before'; 0 by the template 'total and deterministic' (their statements: YtedihojbnpodgaaGreatTotals.lean).
  GIVEN WITH THE SEED: the statements are not yours to turn. If you find one false, say at which input.
  Laid BY PROGRAM, IN A SANDBOX (cutbox-rows.mjs): the forced cells as the released guide's own fill.sh prints them over the translation a4b5afda329654f2… (all of the seat's roots in one cut). By AI agents, Wed Nov 11 2026. No macro, syntax, notation, axiom, sorry.
-/
import Derived.Test.YtedihojbnpodgaaGreatChecked
import GoSem.Claim
import GoSem.ClaimJoined
import GoSem.ClaimMapViews
import Derived.JoinedTies
import Derived.KernelRfl
namespace Go.Proofs.YtedihojbnpodgaaGreat
/- THE CELL 'sum', in the pinned program and in every row, IS THE sha256 OF THE DUMP (.gsa) THAT YtedihojbnpodgaaGreatProg.lean LOADS. Nothing in Lean hashes anything: it is a label: what it is worth is what the hold of that sum in a sandbox is worth. -/
noncomputable def Tryz.pinned : Pinned := { name := "ytedihojbnpodgaagreat", sum := "a4b5afda329654f2ef547f379bfd69161057e5aa22faf6f7a5445dfcfa8aeec1", checked := Tryz.checked }
namespace Rows
def none {H : Type} : Left H := { results := [], args := [] }

/-- 'semispacelaw04.PageProper': WHATEVER THE INPUT: true; the input reads as it did. -/
def pageProperSpec : ChangeSpec := { name := "pageProper", fn := fun _ => fun
  | [d1, d2, d3] => { results := [.lit (.bool true)], args := [d1, d2, d3] }
  | _ => none }
def pageProperRow : OpenClaim := { program := "ytedihojbnpodgaagreat", sum := "a4b5afda329654f2ef547f379bfd69161057e5aa22faf6f7a5445dfcfa8aeec1", func := "semispace/semispacelaw04.PageProper", spec := "pageProper", unfollowed := true, recurses := true, apart := false }
def PageProperSaid : Prop := pageProperRow.holds Tryz.pinned (OpenSpec.ofChange pageProperSpec)

/-- ITS FALSE NEIGHBOUR: 'it returns false'. Refute it at one input. -/
def pageProperWrong : ChangeSpec := { name := "pageProper", fn := fun _ => fun
  | [d1, d2, d3] => { results := [.lit (.bool false)], args := [d1, d2, d3] }
  | _ => none }
def PageProperWrongFalsely : Prop := pageProperRow.holds Tryz.pinned (OpenSpec.ofChange pageProperWrong)

/-- 'semispacelaw04.PageGives': WHATEVER THE INPUT: true; the input reads as it did. -/
def pageGivesSpec : ChangeSpec := { name := "pageGives", fn := fun _ => fun
  | [d1, d2, d3] => { results := [.lit (.bool true)], args := [d1, d2, d3] }
  | _ => none }
def pageGivesRow : OpenClaim := { program := "ytedihojbnpodgaagreat", sum := "a4b5afda329654f2ef547f379bfd69161057e5aa22faf6f7a5445dfcfa8aeec1", func := "semispace/semispacelaw04.PageGives", spec := "pageGives", unfollowed := true, recurses := true, apart := false }
def PageGivesSaid : Prop := pageGivesRow.holds Tryz.pinned (OpenSpec.ofChange pageGivesSpec)

/-- ITS FALSE NEIGHBOUR: 'it returns false'. Refute it at one input. -/
def pageGivesWrong : ChangeSpec := { name := "pageGives", fn := fun _ => fun
  | [d1, d2, d3] => { results := [.lit (.bool false)], args := [d1, d2, d3] }
  | _ => none }
def PageGivesWrongFalsely : Prop := pageGivesRow.holds Tryz.pinned (OpenSpec.ofChange pageGivesWrong)

/-- 'semispacelaw05.ObjectGets': WHATEVER THE INPUT: true; the input reads as it did. -/
def objectGetsSpec : ChangeSpec := { name := "objectGets", fn := fun _ => fun
  | [d1, d2, d3, d4] => { results := [.lit (.bool true)], args := [d1, d2, d3, d4] }
  | _ => none }
def objectGetsRow : OpenClaim := { program := "ytedihojbnpodgaagreat", sum := "a4b5afda329654f2ef547f379bfd69161057e5aa22faf6f7a5445dfcfa8aeec1", func := "semispace/semispacelaw05.ObjectGets", spec := "objectGets", unfollowed := true, recurses := true, apart := false }
def ObjectGetsSaid : Prop := objectGetsRow.holds Tryz.pinned (OpenSpec.ofChange objectGetsSpec)

/-- ITS FALSE NEIGHBOUR: 'it returns false'. Refute it at one input. -/
def objectGetsWrong : ChangeSpec := { name := "objectGets", fn := fun _ => fun
  | [d1, d2, d3, d4] => { results := [.lit (.bool false)], args := [d1, d2, d3, d4] }
  | _ => none }
def ObjectGetsWrongFalsely : Prop := objectGetsRow.holds Tryz.pinned (OpenSpec.ofChange objectGetsWrong)

/-- 'semispacelaw05.ObjectFields': WHATEVER THE INPUT: true; the input reads as it did. -/
def objectFieldsSpec : ChangeSpec := { name := "objectFields", fn := fun _ => fun
  | [d1, d2, d3, d4, d5] => { results := [.lit (.bool true)], args := [d1, d2, d3, d4, d5] }
  | _ => none }
def objectFieldsRow : OpenClaim := { program := "ytedihojbnpodgaagreat", sum := "a4b5afda329654f2ef547f379bfd69161057e5aa22faf6f7a5445dfcfa8aeec1", func := "semispace/semispacelaw05.ObjectFields", spec := "objectFields", unfollowed := true, recurses := true, apart := false }
def ObjectFieldsSaid : Prop := objectFieldsRow.holds Tryz.pinned (OpenSpec.ofChange objectFieldsSpec)

/-- ITS FALSE NEIGHBOUR: 'it returns false'. Refute it at one input. -/
def objectFieldsWrong : ChangeSpec := { name := "objectFields", fn := fun _ => fun
  | [d1, d2, d3, d4, d5] => { results := [.lit (.bool false)], args := [d1, d2, d3, d4, d5] }
  | _ => none }
def ObjectFieldsWrongFalsely : Prop := objectFieldsRow.holds Tryz.pinned (OpenSpec.ofChange objectFieldsWrong)

/-- 'semispacelaw05.ObjectSets': WHATEVER THE INPUT: true; the input reads as it did. -/
def objectSetsSpec : ChangeSpec := { name := "objectSets", fn := fun _ => fun
  | [d1, d2, d3, d4, d5, d6] => { results := [.lit (.bool true)], args := [d1, d2, d3, d4, d5, d6] }
  | _ => none }
def objectSetsRow : OpenClaim := { program := "ytedihojbnpodgaagreat", sum := "a4b5afda329654f2ef547f379bfd69161057e5aa22faf6f7a5445dfcfa8aeec1", func := "semispace/semispacelaw05.ObjectSets", spec := "objectSets", unfollowed := true, recurses := true, apart := false }
def ObjectSetsSaid : Prop := objectSetsRow.holds Tryz.pinned (OpenSpec.ofChange objectSetsSpec)

/-- ITS FALSE NEIGHBOUR: 'it returns false'. Refute it at one input. -/
def objectSetsWrong : ChangeSpec := { name := "objectSets", fn := fun _ => fun
  | [d1, d2, d3, d4, d5, d6] => { results := [.lit (.bool false)], args := [d1, d2, d3, d4, d5, d6] }
  | _ => none }
def ObjectSetsWrongFalsely : Prop := objectSetsRow.holds Tryz.pinned (OpenSpec.ofChange objectSetsWrong)

/-- 'semispacelaw05.ObjectInits': WHATEVER THE INPUT: true; the input reads as it did. -/
def objectInitsSpec : ChangeSpec := { name := "objectInits", fn := fun _ => fun
  | [d1, d2, d3, d4, d5] => { results := [.lit (.bool true)], args := [d1, d2, d3, d4, d5] }
  | _ => none }
def objectInitsRow : OpenClaim := { program := "ytedihojbnpodgaagreat", sum := "a4b5afda329654f2ef547f379bfd69161057e5aa22faf6f7a5445dfcfa8aeec1", func := "semispace/semispacelaw05.ObjectInits", spec := "objectInits", unfollowed := true, recurses := true, apart := false }
def ObjectInitsSaid : Prop := objectInitsRow.holds Tryz.pinned (OpenSpec.ofChange objectInitsSpec)

/-- ITS FALSE NEIGHBOUR: 'it returns false'. Refute it at one input. -/
def objectInitsWrong : ChangeSpec := { name := "objectInits", fn := fun _ => fun
  | [d1, d2, d3, d4, d5] => { results := [.lit (.bool false)], args := [d1, d2, d3, d4, d5] }
  | _ => none }
def ObjectInitsWrongFalsely : Prop := objectInitsRow.holds Tryz.pinned (OpenSpec.ofChange objectInitsWrong)

/- THE SECOND FORM. 'bulk': how many values and letters a reading holds, each counted each time it is reached (what is shared counts as often as it is met; a slice's spare places count too). A statement '..UptoSaid' is the law's where the arguments, and the package variables that the reading takes, are together of bulk at most 1048576: NARROWER than '..Said'. Prove '..Said' where nothing that the law and all that it calls make is longer than what came in: it says more and counts as full. Else prove '..UptoSaid'. A law counts once. -/
mutual
def uptoBulk {H : Type} : DataW H → Nat
  | .lit (.string bytes) => bytes.length + 1
  | .lit _ => 1
  | .nil => 1
  | .ptr d => uptoBulk d + 1
  | .slice elems spare => uptoBulkAll elems + uptoBulkAll spare + 1
  | .agg parts => uptoBulkAll parts + 1
  | .iface _ d => uptoBulk d + 1
  | .map entries => uptoBulkEntries entries + 1
  | .held _ => 1
def uptoBulkAll {H : Type} : List (DataW H) → Nat
  | [] => 0
  | d :: r => uptoBulk d + uptoBulkAll r
def uptoBulkEntries {H : Type} : List (Lit × DataW H) → Nat
  | [] => 0
  | x :: r => uptoBulkEntry x + uptoBulkEntries r
def uptoBulkEntry {H : Type} : Lit × DataW H → Nat
  | (.string bytes, d) => bytes.length + uptoBulk d + 1
  | (_, d) => uptoBulk d + 1
 end
def uptoSmall : (H : Type) → List (DataW H) → Bool := fun _ ds => decide (uptoBulkAll ds ≤ 1048576)
def OpenSpec.upto (s : _root_.Go.ChangeSpec) : _root_.Go.OpenSpec := { _root_.Go.OpenSpec.ofChange s with cond := some uptoSmall }

/-- 'semispacelaw04.PageProper', WHERE WHAT IT READS IS OF BULK AT MOST 1048576: true; the input reads as it did. -/
def pageProperUptoRow : OpenClaim := { program := "ytedihojbnpodgaagreat", sum := "a4b5afda329654f2ef547f379bfd69161057e5aa22faf6f7a5445dfcfa8aeec1", func := "semispace/semispacelaw04.PageProper", spec := "pageProper", unfollowed := true, recurses := true, apart := false, narrowed := true }
def PageProperUptoSaid : Prop := pageProperUptoRow.holds Tryz.pinned (OpenSpec.upto pageProperSpec)

/-- 'semispacelaw04.PageGives', WHERE WHAT IT READS IS OF BULK AT MOST 1048576: true; the input reads as it did. -/
def pageGivesUptoRow : OpenClaim := { program := "ytedihojbnpodgaagreat", sum := "a4b5afda329654f2ef547f379bfd69161057e5aa22faf6f7a5445dfcfa8aeec1", func := "semispace/semispacelaw04.PageGives", spec := "pageGives", unfollowed := true, recurses := true, apart := false, narrowed := true }
def PageGivesUptoSaid : Prop := pageGivesUptoRow.holds Tryz.pinned (OpenSpec.upto pageGivesSpec)

/-- 'semispacelaw05.ObjectGets', WHERE WHAT IT READS IS OF BULK AT MOST 1048576: true; the input reads as it did. -/
def objectGetsUptoRow : OpenClaim := { program := "ytedihojbnpodgaagreat", sum := "a4b5afda329654f2ef547f379bfd69161057e5aa22faf6f7a5445dfcfa8aeec1", func := "semispace/semispacelaw05.ObjectGets", spec := "objectGets", unfollowed := true, recurses := true, apart := false, narrowed := true }
def ObjectGetsUptoSaid : Prop := objectGetsUptoRow.holds Tryz.pinned (OpenSpec.upto objectGetsSpec)

/-- 'semispacelaw05.ObjectFields', WHERE WHAT IT READS IS OF BULK AT MOST 1048576: true; the input reads as it did. -/
def objectFieldsUptoRow : OpenClaim := { program := "ytedihojbnpodgaagreat", sum := "a4b5afda329654f2ef547f379bfd69161057e5aa22faf6f7a5445dfcfa8aeec1", func := "semispace/semispacelaw05.ObjectFields", spec := "objectFields", unfollowed := true, recurses := true, apart := false, narrowed := true }
def ObjectFieldsUptoSaid : Prop := objectFieldsUptoRow.holds Tryz.pinned (OpenSpec.upto objectFieldsSpec)

/-- 'semispacelaw05.ObjectSets', WHERE WHAT IT READS IS OF BULK AT MOST 1048576: true; the input reads as it did. -/
def objectSetsUptoRow : OpenClaim := { program := "ytedihojbnpodgaagreat", sum := "a4b5afda329654f2ef547f379bfd69161057e5aa22faf6f7a5445dfcfa8aeec1", func := "semispace/semispacelaw05.ObjectSets", spec := "objectSets", unfollowed := true, recurses := true, apart := false, narrowed := true }
def ObjectSetsUptoSaid : Prop := objectSetsUptoRow.holds Tryz.pinned (OpenSpec.upto objectSetsSpec)

/-- 'semispacelaw05.ObjectInits', WHERE WHAT IT READS IS OF BULK AT MOST 1048576: true; the input reads as it did. -/
def objectInitsUptoRow : OpenClaim := { program := "ytedihojbnpodgaagreat", sum := "a4b5afda329654f2ef547f379bfd69161057e5aa22faf6f7a5445dfcfa8aeec1", func := "semispace/semispacelaw05.ObjectInits", spec := "objectInits", unfollowed := true, recurses := true, apart := false, narrowed := true }
def ObjectInitsUptoSaid : Prop := objectInitsUptoRow.holds Tryz.pinned (OpenSpec.upto objectInitsSpec)

end Rows
end Go.Proofs.YtedihojbnpodgaaGreat
