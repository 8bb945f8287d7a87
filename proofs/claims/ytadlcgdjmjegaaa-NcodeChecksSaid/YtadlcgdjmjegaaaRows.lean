/-
  No cell of these rows narrows 'for every input' (looked for: loops, veiled, ifaces, maps, wideKeys, modest, calm, conditions, laid).
  DERIVED. THE GIVEN ROWS OF THIS SEAT. 6 by the template 'for every input the law returns true; each argument reads behind the call as it read before'; 0 by the template 'total and deterministic' (their statements: YtadlcgdjmjegaaaTotals.lean).
  GIVEN WITH THE SEED: the statements are not yours to turn. If you find one false, say at which input.
  Laid BY PROGRAM, IN A SANDBOX (cutbox-rows.mjs): the forced cells as the released guide's own fill.sh prints them over the translation 77b261d1b7b7c89a… (all of the seat's roots in one cut). By AI agents, Wed Nov 11 2026. No macro, syntax, notation, axiom, sorry.
-/
import Derived.Test.YtadlcgdjmjegaaaChecked
import GoSem.Claim
import GoSem.ClaimJoined
import GoSem.ClaimMapViews
import Derived.JoinedTies
import Derived.KernelRfl
namespace Go.Proofs.Ytadlcgdjmjegaaa
/- THE CELL 'sum', in the pinned program and in every row, IS THE sha256 OF THE DUMP (.gsa) THAT YtadlcgdjmjegaaaProg.lean LOADS. Nothing in Lean hashes anything: it is a label: what it is worth is what the hold of that sum in a sandbox is worth. -/
noncomputable def Try.pinned : Pinned := { name := "ytadlcgdjmjegaaa", sum := "77b261d1b7b7c89aa4831f4a2d2fa2378ed8cf8ad8d7112da99cc85a4473d036", checked := Try.checked }
namespace Rows
def none {H : Type} : Left H := { results := [], args := [] }

/-- 'semispacelaw22.NcodeArgs': WHATEVER THE INPUT: true; the input reads as it did. -/
def ncodeArgsSpec : ChangeSpec := { name := "ncodeArgs", fn := fun _ => fun
  | [d] => { results := [.lit (.bool true)], args := [d] }
  | _ => none }
def ncodeArgsRow : OpenClaim := { program := "ytadlcgdjmjegaaa", sum := "77b261d1b7b7c89aa4831f4a2d2fa2378ed8cf8ad8d7112da99cc85a4473d036", func := "semispace/semispacelaw22.NcodeArgs", spec := "ncodeArgs", unfollowed := true, recurses := true, apart := false }
def NcodeArgsSaid : Prop := ncodeArgsRow.holds Try.pinned (OpenSpec.ofChange ncodeArgsSpec)

/-- ITS FALSE NEIGHBOUR: 'it returns false'. Refute it at one input. -/
def ncodeArgsWrong : ChangeSpec := { name := "ncodeArgs", fn := fun _ => fun
  | [d] => { results := [.lit (.bool false)], args := [d] }
  | _ => none }
def NcodeArgsWrongFalsely : Prop := ncodeArgsRow.holds Try.pinned (OpenSpec.ofChange ncodeArgsWrong)

/-- 'semispacelaw22.NcodeWords': WHATEVER THE INPUT: true; the input reads as it did. -/
def ncodeWordsSpec : ChangeSpec := { name := "ncodeWords", fn := fun _ => fun
  | [d1, d2, d3] => { results := [.lit (.bool true)], args := [d1, d2, d3] }
  | _ => none }
def ncodeWordsRow : OpenClaim := { program := "ytadlcgdjmjegaaa", sum := "77b261d1b7b7c89aa4831f4a2d2fa2378ed8cf8ad8d7112da99cc85a4473d036", func := "semispace/semispacelaw22.NcodeWords", spec := "ncodeWords", unfollowed := true, recurses := true, apart := false }
def NcodeWordsSaid : Prop := ncodeWordsRow.holds Try.pinned (OpenSpec.ofChange ncodeWordsSpec)

/-- ITS FALSE NEIGHBOUR: 'it returns false'. Refute it at one input. -/
def ncodeWordsWrong : ChangeSpec := { name := "ncodeWords", fn := fun _ => fun
  | [d1, d2, d3] => { results := [.lit (.bool false)], args := [d1, d2, d3] }
  | _ => none }
def NcodeWordsWrongFalsely : Prop := ncodeWordsRow.holds Try.pinned (OpenSpec.ofChange ncodeWordsWrong)

/-- 'semispacelaw22.NcodeBack': WHATEVER THE INPUT: true; the input reads as it did. -/
def ncodeBackSpec : ChangeSpec := { name := "ncodeBack", fn := fun _ => fun
  | [d1, d2, d3] => { results := [.lit (.bool true)], args := [d1, d2, d3] }
  | _ => none }
def ncodeBackRow : OpenClaim := { program := "ytadlcgdjmjegaaa", sum := "77b261d1b7b7c89aa4831f4a2d2fa2378ed8cf8ad8d7112da99cc85a4473d036", func := "semispace/semispacelaw22.NcodeBack", spec := "ncodeBack", unfollowed := true, recurses := true, apart := false }
def NcodeBackSaid : Prop := ncodeBackRow.holds Try.pinned (OpenSpec.ofChange ncodeBackSpec)

/-- ITS FALSE NEIGHBOUR: 'it returns false'. Refute it at one input. -/
def ncodeBackWrong : ChangeSpec := { name := "ncodeBack", fn := fun _ => fun
  | [d1, d2, d3] => { results := [.lit (.bool false)], args := [d1, d2, d3] }
  | _ => none }
def NcodeBackWrongFalsely : Prop := ncodeBackRow.holds Try.pinned (OpenSpec.ofChange ncodeBackWrong)

/-- 'semispacelaw22.NcodeChecks': WHATEVER THE INPUT: true; the input reads as it did. -/
def ncodeChecksSpec : ChangeSpec := { name := "ncodeChecks", fn := fun _ => fun
  | [d1, d2, d3, d4] => { results := [.lit (.bool true)], args := [d1, d2, d3, d4] }
  | _ => none }
def ncodeChecksRow : OpenClaim := { program := "ytadlcgdjmjegaaa", sum := "77b261d1b7b7c89aa4831f4a2d2fa2378ed8cf8ad8d7112da99cc85a4473d036", func := "semispace/semispacelaw22.NcodeChecks", spec := "ncodeChecks", unfollowed := true, recurses := true, apart := false }
def NcodeChecksSaid : Prop := ncodeChecksRow.holds Try.pinned (OpenSpec.ofChange ncodeChecksSpec)

/-- ITS FALSE NEIGHBOUR: 'it returns false'. Refute it at one input. -/
def ncodeChecksWrong : ChangeSpec := { name := "ncodeChecks", fn := fun _ => fun
  | [d1, d2, d3, d4] => { results := [.lit (.bool false)], args := [d1, d2, d3, d4] }
  | _ => none }
def NcodeChecksWrongFalsely : Prop := ncodeChecksRow.holds Try.pinned (OpenSpec.ofChange ncodeChecksWrong)

/-- 'semispacelaw22.NcodeSafe': WHATEVER THE INPUT: true; the input reads as it did. -/
def ncodeSafeSpec : ChangeSpec := { name := "ncodeSafe", fn := fun _ => fun
  | [d1, d2, d3] => { results := [.lit (.bool true)], args := [d1, d2, d3] }
  | _ => none }
def ncodeSafeRow : OpenClaim := { program := "ytadlcgdjmjegaaa", sum := "77b261d1b7b7c89aa4831f4a2d2fa2378ed8cf8ad8d7112da99cc85a4473d036", func := "semispace/semispacelaw22.NcodeSafe", spec := "ncodeSafe", unfollowed := true, recurses := true, apart := false }
def NcodeSafeSaid : Prop := ncodeSafeRow.holds Try.pinned (OpenSpec.ofChange ncodeSafeSpec)

/-- ITS FALSE NEIGHBOUR: 'it returns false'. Refute it at one input. -/
def ncodeSafeWrong : ChangeSpec := { name := "ncodeSafe", fn := fun _ => fun
  | [d1, d2, d3] => { results := [.lit (.bool false)], args := [d1, d2, d3] }
  | _ => none }
def NcodeSafeWrongFalsely : Prop := ncodeSafeRow.holds Try.pinned (OpenSpec.ofChange ncodeSafeWrong)

/-- 'semispacelaw22.NcodeWordsSafe': WHATEVER THE INPUT: true; the input reads as it did. -/
def ncodeWordsSafeSpec : ChangeSpec := { name := "ncodeWordsSafe", fn := fun _ => fun
  | [d] => { results := [.lit (.bool true)], args := [d] }
  | _ => none }
def ncodeWordsSafeRow : OpenClaim := { program := "ytadlcgdjmjegaaa", sum := "77b261d1b7b7c89aa4831f4a2d2fa2378ed8cf8ad8d7112da99cc85a4473d036", func := "semispace/semispacelaw22.NcodeWordsSafe", spec := "ncodeWordsSafe", unfollowed := true, recurses := true, apart := false }
def NcodeWordsSafeSaid : Prop := ncodeWordsSafeRow.holds Try.pinned (OpenSpec.ofChange ncodeWordsSafeSpec)

/-- ITS FALSE NEIGHBOUR: 'it returns false'. Refute it at one input. -/
def ncodeWordsSafeWrong : ChangeSpec := { name := "ncodeWordsSafe", fn := fun _ => fun
  | [d] => { results := [.lit (.bool false)], args := [d] }
  | _ => none }
def NcodeWordsSafeWrongFalsely : Prop := ncodeWordsSafeRow.holds Try.pinned (OpenSpec.ofChange ncodeWordsSafeWrong)

/- THE SECOND FORM. 'bulk': how many values and letters a reading holds, each counted each time it is reached (what is shared counts as often as it is met; a slice's spare places count too). A statement '..UptoSaid' is the law's where the arguments, and the package variables that the reading takes, are together of bulk at most 1048576: NARROWER than '..Said'. Prove '..Said' where nothing that the law and all that it calls make is longer than what came in: it says more and counts as full. Else prove '..UptoSaid'. A law counts once. -/
mutual
def uptoBulk {H : Type} : DataW H → Nat
  | .lit (.string bytes) => bytes.length + 1
  | .lit _ => 1
  | .nil => 1
  | .ptr d => uptoBulk d + 1
  | .slice elems spare => uptoBulkAll elems + uptoBulkAll spare + 1
  | .agg parts => uptoBulkAll parts + 1
  | .iface _ d => uptoBulk d + 1
  | .map entries => uptoBulkEntries entries + 1
  | .held _ => 1
def uptoBulkAll {H : Type} : List (DataW H) → Nat
  | [] => 0
  | d :: r => uptoBulk d + uptoBulkAll r
def uptoBulkEntries {H : Type} : List (Lit × DataW H) → Nat
  | [] => 0
  | x :: r => uptoBulkEntry x + uptoBulkEntries r
def uptoBulkEntry {H : Type} : Lit × DataW H → Nat
  | (.string bytes, d) => bytes.length + uptoBulk d + 1
  | (_, d) => uptoBulk d + 1
 end
def uptoSmall : (H : Type) → List (DataW H) → Bool := fun _ ds => decide (uptoBulkAll ds ≤ 1048576)
def OpenSpec.upto (s : _root_.Go.ChangeSpec) : _root_.Go.OpenSpec := { _root_.Go.OpenSpec.ofChange s with cond := some uptoSmall }

/-- 'semispacelaw22.NcodeArgs', WHERE WHAT IT READS IS OF BULK AT MOST 1048576: true; the input reads as it did. -/
def ncodeArgsUptoRow : OpenClaim := { program := "ytadlcgdjmjegaaa", sum := "77b261d1b7b7c89aa4831f4a2d2fa2378ed8cf8ad8d7112da99cc85a4473d036", func := "semispace/semispacelaw22.NcodeArgs", spec := "ncodeArgs", unfollowed := true, recurses := true, apart := false, narrowed := true }
def NcodeArgsUptoSaid : Prop := ncodeArgsUptoRow.holds Try.pinned (OpenSpec.upto ncodeArgsSpec)

/-- 'semispacelaw22.NcodeWords', WHERE WHAT IT READS IS OF BULK AT MOST 1048576: true; the input reads as it did. -/
def ncodeWordsUptoRow : OpenClaim := { program := "ytadlcgdjmjegaaa", sum := "77b261d1b7b7c89aa4831f4a2d2fa2378ed8cf8ad8d7112da99cc85a4473d036", func := "semispace/semispacelaw22.NcodeWords", spec := "ncodeWords", unfollowed := true, recurses := true, apart := false, narrowed := true }
def NcodeWordsUptoSaid : Prop := ncodeWordsUptoRow.holds Try.pinned (OpenSpec.upto ncodeWordsSpec)

/-- 'semispacelaw22.NcodeBack', WHERE WHAT IT READS IS OF BULK AT MOST 1048576: true; the input reads as it did. -/
def ncodeBackUptoRow : OpenClaim := { program := "ytadlcgdjmjegaaa", sum := "77b261d1b7b7c89aa4831f4a2d2fa2378ed8cf8ad8d7112da99cc85a4473d036", func := "semispace/semispacelaw22.NcodeBack", spec := "ncodeBack", unfollowed := true, recurses := true, apart := false, narrowed := true }
def NcodeBackUptoSaid : Prop := ncodeBackUptoRow.holds Try.pinned (OpenSpec.upto ncodeBackSpec)

/-- 'semispacelaw22.NcodeChecks', WHERE WHAT IT READS IS OF BULK AT MOST 1048576: true; the input reads as it did. -/
def ncodeChecksUptoRow : OpenClaim := { program := "ytadlcgdjmjegaaa", sum := "77b261d1b7b7c89aa4831f4a2d2fa2378ed8cf8ad8d7112da99cc85a4473d036", func := "semispace/semispacelaw22.NcodeChecks", spec := "ncodeChecks", unfollowed := true, recurses := true, apart := false, narrowed := true }
def NcodeChecksUptoSaid : Prop := ncodeChecksUptoRow.holds Try.pinned (OpenSpec.upto ncodeChecksSpec)

/-- 'semispacelaw22.NcodeSafe', WHERE WHAT IT READS IS OF BULK AT MOST 1048576: true; the input reads as it did. -/
def ncodeSafeUptoRow : OpenClaim := { program := "ytadlcgdjmjegaaa", sum := "77b261d1b7b7c89aa4831f4a2d2fa2378ed8cf8ad8d7112da99cc85a4473d036", func := "semispace/semispacelaw22.NcodeSafe", spec := "ncodeSafe", unfollowed := true, recurses := true, apart := false, narrowed := true }
def NcodeSafeUptoSaid : Prop := ncodeSafeUptoRow.holds Try.pinned (OpenSpec.upto ncodeSafeSpec)

/-- 'semispacelaw22.NcodeWordsSafe', WHERE WHAT IT READS IS OF BULK AT MOST 1048576: true; the input reads as it did. -/
def ncodeWordsSafeUptoRow : OpenClaim := { program := "ytadlcgdjmjegaaa", sum := "77b261d1b7b7c89aa4831f4a2d2fa2378ed8cf8ad8d7112da99cc85a4473d036", func := "semispace/semispacelaw22.NcodeWordsSafe", spec := "ncodeWordsSafe", unfollowed := true, recurses := true, apart := false, narrowed := true }
def NcodeWordsSafeUptoSaid : Prop := ncodeWordsSafeUptoRow.holds Try.pinned (OpenSpec.upto ncodeWordsSafeSpec)

end Rows
end Go.Proofs.Ytadlcgdjmjegaaa
