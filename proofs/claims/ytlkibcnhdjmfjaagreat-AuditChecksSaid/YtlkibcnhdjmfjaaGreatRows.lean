/-
  No cell of these rows narrows 'for every input' (looked for: loops, veiled, ifaces, maps, wideKeys, modest, calm, conditions, laid).
  DERIVED. THE GIVEN ROWS OF THIS SEAT. 10 by the template 'for every input the law returns true; each argument reads behind the call as it read before'; 0 by the template 'total and deterministic' (their statements: YtlkibcnhdjmfjaaGreatTotals.lean).
  GIVEN WITH THE SEED: the statements are not yours to turn. If you find one false, say at which input.
  Laid BY PROGRAM, IN A SANDBOX (cutbox-rows.mjs): the forced cells as the released guide's own fill.sh prints them over the translation 962e67dd9a45779f… (all of the seat's roots in one cut). By AI agents, Wed Nov 11 2026. No macro, syntax, notation, axiom, sorry.
-/
import Derived.Test.YtlkibcnhdjmfjaaGreatChecked
import GoSem.Claim
import GoSem.ClaimJoined
import GoSem.ClaimMapViews
import Derived.JoinedTies
import Derived.KernelRfl
namespace Go.Proofs.YtlkibcnhdjmfjaaGreat
/- THE CELL 'sum', in the pinned program and in every row, IS THE sha256 OF THE DUMP (.gsa) THAT YtlkibcnhdjmfjaaGreatProg.lean LOADS. Nothing in Lean hashes anything: it is a label: what it is worth is what the hold of that sum in a sandbox is worth. -/
noncomputable def Tryz.pinned : Pinned := { name := "ytlkibcnhdjmfjaagreat", sum := "962e67dd9a45779f71e1cd521a96df3b4a3f00fe5767851858daae6a46ef9406", checked := Tryz.checked }
namespace Rows
def none {H : Type} : Left H := { results := [], args := [] }

/-- 'semispacelaw06.WalkPages': WHATEVER THE INPUT: true; the input reads as it did. -/
def walkPagesSpec : ChangeSpec := { name := "walkPages", fn := fun _ => fun
  | [d1, d2, d3, d4] => { results := [.lit (.bool true)], args := [d1, d2, d3, d4] }
  | _ => none }
def walkPagesRow : OpenClaim := { program := "ytlkibcnhdjmfjaagreat", sum := "962e67dd9a45779f71e1cd521a96df3b4a3f00fe5767851858daae6a46ef9406", func := "semispace/semispacelaw06.WalkPages", spec := "walkPages", unfollowed := true, recurses := true, apart := false }
def WalkPagesSaid : Prop := walkPagesRow.holds Tryz.pinned (OpenSpec.ofChange walkPagesSpec)

/-- ITS FALSE NEIGHBOUR: 'it returns false'. Refute it at one input. -/
def walkPagesWrong : ChangeSpec := { name := "walkPages", fn := fun _ => fun
  | [d1, d2, d3, d4] => { results := [.lit (.bool false)], args := [d1, d2, d3, d4] }
  | _ => none }
def WalkPagesWrongFalsely : Prop := walkPagesRow.holds Tryz.pinned (OpenSpec.ofChange walkPagesWrong)

/-- 'semispacelaw06.WalkObjects': WHATEVER THE INPUT: true; the input reads as it did. -/
def walkObjectsSpec : ChangeSpec := { name := "walkObjects", fn := fun _ => fun
  | [d1, d2, d3, d4] => { results := [.lit (.bool true)], args := [d1, d2, d3, d4] }
  | _ => none }
def walkObjectsRow : OpenClaim := { program := "ytlkibcnhdjmfjaagreat", sum := "962e67dd9a45779f71e1cd521a96df3b4a3f00fe5767851858daae6a46ef9406", func := "semispace/semispacelaw06.WalkObjects", spec := "walkObjects", unfollowed := true, recurses := true, apart := false }
def WalkObjectsSaid : Prop := walkObjectsRow.holds Tryz.pinned (OpenSpec.ofChange walkObjectsSpec)

/-- ITS FALSE NEIGHBOUR: 'it returns false'. Refute it at one input. -/
def walkObjectsWrong : ChangeSpec := { name := "walkObjects", fn := fun _ => fun
  | [d1, d2, d3, d4] => { results := [.lit (.bool false)], args := [d1, d2, d3, d4] }
  | _ => none }
def WalkObjectsWrongFalsely : Prop := walkObjectsRow.holds Tryz.pinned (OpenSpec.ofChange walkObjectsWrong)

/-- 'semispacelaw06.WalkCounts': WHATEVER THE INPUT: true; the input reads as it did. -/
def walkCountsSpec : ChangeSpec := { name := "walkCounts", fn := fun _ => fun
  | [d1, d2, d3] => { results := [.lit (.bool true)], args := [d1, d2, d3] }
  | _ => none }
def walkCountsRow : OpenClaim := { program := "ytlkibcnhdjmfjaagreat", sum := "962e67dd9a45779f71e1cd521a96df3b4a3f00fe5767851858daae6a46ef9406", func := "semispace/semispacelaw06.WalkCounts", spec := "walkCounts", unfollowed := true, recurses := true, apart := false }
def WalkCountsSaid : Prop := walkCountsRow.holds Tryz.pinned (OpenSpec.ofChange walkCountsSpec)

/-- ITS FALSE NEIGHBOUR: 'it returns false'. Refute it at one input. -/
def walkCountsWrong : ChangeSpec := { name := "walkCounts", fn := fun _ => fun
  | [d1, d2, d3] => { results := [.lit (.bool false)], args := [d1, d2, d3] }
  | _ => none }
def WalkCountsWrongFalsely : Prop := walkCountsRow.holds Tryz.pinned (OpenSpec.ofChange walkCountsWrong)

/-- 'semispacelaw06.WalkFills': WHATEVER THE INPUT: true; the input reads as it did. -/
def walkFillsSpec : ChangeSpec := { name := "walkFills", fn := fun _ => fun
  | [d1, d2, d3, d4, d5] => { results := [.lit (.bool true)], args := [d1, d2, d3, d4, d5] }
  | _ => none }
def walkFillsRow : OpenClaim := { program := "ytlkibcnhdjmfjaagreat", sum := "962e67dd9a45779f71e1cd521a96df3b4a3f00fe5767851858daae6a46ef9406", func := "semispace/semispacelaw06.WalkFills", spec := "walkFills", unfollowed := true, recurses := true, apart := false }
def WalkFillsSaid : Prop := walkFillsRow.holds Tryz.pinned (OpenSpec.ofChange walkFillsSpec)

/-- ITS FALSE NEIGHBOUR: 'it returns false'. Refute it at one input. -/
def walkFillsWrong : ChangeSpec := { name := "walkFills", fn := fun _ => fun
  | [d1, d2, d3, d4, d5] => { results := [.lit (.bool false)], args := [d1, d2, d3, d4, d5] }
  | _ => none }
def WalkFillsWrongFalsely : Prop := walkFillsRow.holds Tryz.pinned (OpenSpec.ofChange walkFillsWrong)

/-- 'semispacelaw06.WalkCovers': WHATEVER THE INPUT: true; the input reads as it did. -/
def walkCoversSpec : ChangeSpec := { name := "walkCovers", fn := fun _ => fun
  | [d] => { results := [.lit (.bool true)], args := [d] }
  | _ => none }
def walkCoversRow : OpenClaim := { program := "ytlkibcnhdjmfjaagreat", sum := "962e67dd9a45779f71e1cd521a96df3b4a3f00fe5767851858daae6a46ef9406", func := "semispace/semispacelaw06.WalkCovers", spec := "walkCovers", unfollowed := true, recurses := true, apart := false }
def WalkCoversSaid : Prop := walkCoversRow.holds Tryz.pinned (OpenSpec.ofChange walkCoversSpec)

/-- ITS FALSE NEIGHBOUR: 'it returns false'. Refute it at one input. -/
def walkCoversWrong : ChangeSpec := { name := "walkCovers", fn := fun _ => fun
  | [d] => { results := [.lit (.bool false)], args := [d] }
  | _ => none }
def WalkCoversWrongFalsely : Prop := walkCoversRow.holds Tryz.pinned (OpenSpec.ofChange walkCoversWrong)

/-- 'semispacelaw06.WalkJoins': WHATEVER THE INPUT: true; the input reads as it did. -/
def walkJoinsSpec : ChangeSpec := { name := "walkJoins", fn := fun _ => fun
  | [d1, d2] => { results := [.lit (.bool true)], args := [d1, d2] }
  | _ => none }
def walkJoinsRow : OpenClaim := { program := "ytlkibcnhdjmfjaagreat", sum := "962e67dd9a45779f71e1cd521a96df3b4a3f00fe5767851858daae6a46ef9406", func := "semispace/semispacelaw06.WalkJoins", spec := "walkJoins", unfollowed := true, recurses := true, apart := false }
def WalkJoinsSaid : Prop := walkJoinsRow.holds Tryz.pinned (OpenSpec.ofChange walkJoinsSpec)

/-- ITS FALSE NEIGHBOUR: 'it returns false'. Refute it at one input. -/
def walkJoinsWrong : ChangeSpec := { name := "walkJoins", fn := fun _ => fun
  | [d1, d2] => { results := [.lit (.bool false)], args := [d1, d2] }
  | _ => none }
def WalkJoinsWrongFalsely : Prop := walkJoinsRow.holds Tryz.pinned (OpenSpec.ofChange walkJoinsWrong)

/-- 'semispacelaw09.AuditChecks': WHATEVER THE INPUT: true; the input reads as it did. -/
def auditChecksSpec : ChangeSpec := { name := "auditChecks", fn := fun _ => fun
  | [d1, d2, d3] => { results := [.lit (.bool true)], args := [d1, d2, d3] }
  | _ => none }
def auditChecksRow : OpenClaim := { program := "ytlkibcnhdjmfjaagreat", sum := "962e67dd9a45779f71e1cd521a96df3b4a3f00fe5767851858daae6a46ef9406", func := "semispace/semispacelaw09.AuditChecks", spec := "auditChecks", unfollowed := true, recurses := true, apart := false }
def AuditChecksSaid : Prop := auditChecksRow.holds Tryz.pinned (OpenSpec.ofChange auditChecksSpec)

/-- ITS FALSE NEIGHBOUR: 'it returns false'. Refute it at one input. -/
def auditChecksWrong : ChangeSpec := { name := "auditChecks", fn := fun _ => fun
  | [d1, d2, d3] => { results := [.lit (.bool false)], args := [d1, d2, d3] }
  | _ => none }
def AuditChecksWrongFalsely : Prop := auditChecksRow.holds Tryz.pinned (OpenSpec.ofChange auditChecksWrong)

/-- 'semispacelaw09.AuditMade': WHATEVER THE INPUT: true; the input reads as it did. -/
def auditMadeSpec : ChangeSpec := { name := "auditMade", fn := fun _ => fun
  | [d] => { results := [.lit (.bool true)], args := [d] }
  | _ => none }
def auditMadeRow : OpenClaim := { program := "ytlkibcnhdjmfjaagreat", sum := "962e67dd9a45779f71e1cd521a96df3b4a3f00fe5767851858daae6a46ef9406", func := "semispace/semispacelaw09.AuditMade", spec := "auditMade", unfollowed := true, recurses := true, apart := false }
def AuditMadeSaid : Prop := auditMadeRow.holds Tryz.pinned (OpenSpec.ofChange auditMadeSpec)

/-- ITS FALSE NEIGHBOUR: 'it returns false'. Refute it at one input. -/
def auditMadeWrong : ChangeSpec := { name := "auditMade", fn := fun _ => fun
  | [d] => { results := [.lit (.bool false)], args := [d] }
  | _ => none }
def AuditMadeWrongFalsely : Prop := auditMadeRow.holds Tryz.pinned (OpenSpec.ofChange auditMadeWrong)

/-- 'semispacelaw09.AuditRefers': WHATEVER THE INPUT: true; the input reads as it did. -/
def auditRefersSpec : ChangeSpec := { name := "auditRefers", fn := fun _ => fun
  | [d1, d2, d3, d4] => { results := [.lit (.bool true)], args := [d1, d2, d3, d4] }
  | _ => none }
def auditRefersRow : OpenClaim := { program := "ytlkibcnhdjmfjaagreat", sum := "962e67dd9a45779f71e1cd521a96df3b4a3f00fe5767851858daae6a46ef9406", func := "semispace/semispacelaw09.AuditRefers", spec := "auditRefers", unfollowed := true, recurses := true, apart := false }
def AuditRefersSaid : Prop := auditRefersRow.holds Tryz.pinned (OpenSpec.ofChange auditRefersSpec)

/-- ITS FALSE NEIGHBOUR: 'it returns false'. Refute it at one input. -/
def auditRefersWrong : ChangeSpec := { name := "auditRefers", fn := fun _ => fun
  | [d1, d2, d3, d4] => { results := [.lit (.bool false)], args := [d1, d2, d3, d4] }
  | _ => none }
def AuditRefersWrongFalsely : Prop := auditRefersRow.holds Tryz.pinned (OpenSpec.ofChange auditRefersWrong)

/-- 'semispacelaw09.AuditDirt': WHATEVER THE INPUT: true; the input reads as it did. -/
def auditDirtSpec : ChangeSpec := { name := "auditDirt", fn := fun _ => fun
  | [d1, d2, d3, d4] => { results := [.lit (.bool true)], args := [d1, d2, d3, d4] }
  | _ => none }
def auditDirtRow : OpenClaim := { program := "ytlkibcnhdjmfjaagreat", sum := "962e67dd9a45779f71e1cd521a96df3b4a3f00fe5767851858daae6a46ef9406", func := "semispace/semispacelaw09.AuditDirt", spec := "auditDirt", unfollowed := true, recurses := true, apart := false }
def AuditDirtSaid : Prop := auditDirtRow.holds Tryz.pinned (OpenSpec.ofChange auditDirtSpec)

/-- ITS FALSE NEIGHBOUR: 'it returns false'. Refute it at one input. -/
def auditDirtWrong : ChangeSpec := { name := "auditDirt", fn := fun _ => fun
  | [d1, d2, d3, d4] => { results := [.lit (.bool false)], args := [d1, d2, d3, d4] }
  | _ => none }
def AuditDirtWrongFalsely : Prop := auditDirtRow.holds Tryz.pinned (OpenSpec.ofChange auditDirtWrong)

/- THE SECOND FORM. 'bulk': how many values and letters a reading holds, each counted each time it is reached (what is shared counts as often as it is met; a slice's spare places count too). A statement '..UptoSaid' is the law's where the arguments, and the package variables that the reading takes, are together of bulk at most 1048576: NARROWER than '..Said'. Prove '..Said' where nothing that the law and all that it calls make is longer than what came in: it says more and counts as full. Else prove '..UptoSaid'. A law counts once. -/
mutual
def uptoBulk {H : Type} : DataW H → Nat
  | .lit (.string bytes) => bytes.length + 1
  | .lit _ => 1
  | .nil => 1
  | .ptr d => uptoBulk d + 1
  | .slice elems spare => uptoBulkAll elems + uptoBulkAll spare + 1
  | .agg parts => uptoBulkAll parts + 1
  | .iface _ d => uptoBulk d + 1
  | .map entries => uptoBulkEntries entries + 1
  | .held _ => 1
def uptoBulkAll {H : Type} : List (DataW H) → Nat
  | [] => 0
  | d :: r => uptoBulk d + uptoBulkAll r
def uptoBulkEntries {H : Type} : List (Lit × DataW H) → Nat
  | [] => 0
  | x :: r => uptoBulkEntry x + uptoBulkEntries r
def uptoBulkEntry {H : Type} : Lit × DataW H → Nat
  | (.string bytes, d) => bytes.length + uptoBulk d + 1
  | (_, d) => uptoBulk d + 1
 end
def uptoSmall : (H : Type) → List (DataW H) → Bool := fun _ ds => decide (uptoBulkAll ds ≤ 1048576)
def OpenSpec.upto (s : _root_.Go.ChangeSpec) : _root_.Go.OpenSpec := { _root_.Go.OpenSpec.ofChange s with cond := some uptoSmall }

/-- 'semispacelaw06.WalkPages', WHERE WHAT IT READS IS OF BULK AT MOST 1048576: true; the input reads as it did. -/
def walkPagesUptoRow : OpenClaim := { program := "ytlkibcnhdjmfjaagreat", sum := "962e67dd9a45779f71e1cd521a96df3b4a3f00fe5767851858daae6a46ef9406", func := "semispace/semispacelaw06.WalkPages", spec := "walkPages", unfollowed := true, recurses := true, apart := false, narrowed := true }
def WalkPagesUptoSaid : Prop := walkPagesUptoRow.holds Tryz.pinned (OpenSpec.upto walkPagesSpec)

/-- 'semispacelaw06.WalkObjects', WHERE WHAT IT READS IS OF BULK AT MOST 1048576: true; the input reads as it did. -/
def walkObjectsUptoRow : OpenClaim := { program := "ytlkibcnhdjmfjaagreat", sum := "962e67dd9a45779f71e1cd521a96df3b4a3f00fe5767851858daae6a46ef9406", func := "semispace/semispacelaw06.WalkObjects", spec := "walkObjects", unfollowed := true, recurses := true, apart := false, narrowed := true }
def WalkObjectsUptoSaid : Prop := walkObjectsUptoRow.holds Tryz.pinned (OpenSpec.upto walkObjectsSpec)

/-- 'semispacelaw06.WalkCounts', WHERE WHAT IT READS IS OF BULK AT MOST 1048576: true; the input reads as it did. -/
def walkCountsUptoRow : OpenClaim := { program := "ytlkibcnhdjmfjaagreat", sum := "962e67dd9a45779f71e1cd521a96df3b4a3f00fe5767851858daae6a46ef9406", func := "semispace/semispacelaw06.WalkCounts", spec := "walkCounts", unfollowed := true, recurses := true, apart := false, narrowed := true }
def WalkCountsUptoSaid : Prop := walkCountsUptoRow.holds Tryz.pinned (OpenSpec.upto walkCountsSpec)

/-- 'semispacelaw06.WalkFills', WHERE WHAT IT READS IS OF BULK AT MOST 1048576: true; the input reads as it did. -/
def walkFillsUptoRow : OpenClaim := { program := "ytlkibcnhdjmfjaagreat", sum := "962e67dd9a45779f71e1cd521a96df3b4a3f00fe5767851858daae6a46ef9406", func := "semispace/semispacelaw06.WalkFills", spec := "walkFills", unfollowed := true, recurses := true, apart := false, narrowed := true }
def WalkFillsUptoSaid : Prop := walkFillsUptoRow.holds Tryz.pinned (OpenSpec.upto walkFillsSpec)

/-- 'semispacelaw06.WalkCovers', WHERE WHAT IT READS IS OF BULK AT MOST 1048576: true; the input reads as it did. -/
def walkCoversUptoRow : OpenClaim := { program := "ytlkibcnhdjmfjaagreat", sum := "962e67dd9a45779f71e1cd521a96df3b4a3f00fe5767851858daae6a46ef9406", func := "semispace/semispacelaw06.WalkCovers", spec := "walkCovers", unfollowed := true, recurses := true, apart := false, narrowed := true }
def WalkCoversUptoSaid : Prop := walkCoversUptoRow.holds Tryz.pinned (OpenSpec.upto walkCoversSpec)

/-- 'semispacelaw06.WalkJoins', WHERE WHAT IT READS IS OF BULK AT MOST 1048576: true; the input reads as it did. -/
def walkJoinsUptoRow : OpenClaim := { program := "ytlkibcnhdjmfjaagreat", sum := "962e67dd9a45779f71e1cd521a96df3b4a3f00fe5767851858daae6a46ef9406", func := "semispace/semispacelaw06.WalkJoins", spec := "walkJoins", unfollowed := true, recurses := true, apart := false, narrowed := true }
def WalkJoinsUptoSaid : Prop := walkJoinsUptoRow.holds Tryz.pinned (OpenSpec.upto walkJoinsSpec)

/-- 'semispacelaw09.AuditChecks', WHERE WHAT IT READS IS OF BULK AT MOST 1048576: true; the input reads as it did. -/
def auditChecksUptoRow : OpenClaim := { program := "ytlkibcnhdjmfjaagreat", sum := "962e67dd9a45779f71e1cd521a96df3b4a3f00fe5767851858daae6a46ef9406", func := "semispace/semispacelaw09.AuditChecks", spec := "auditChecks", unfollowed := true, recurses := true, apart := false, narrowed := true }
def AuditChecksUptoSaid : Prop := auditChecksUptoRow.holds Tryz.pinned (OpenSpec.upto auditChecksSpec)

/-- 'semispacelaw09.AuditMade', WHERE WHAT IT READS IS OF BULK AT MOST 1048576: true; the input reads as it did. -/
def auditMadeUptoRow : OpenClaim := { program := "ytlkibcnhdjmfjaagreat", sum := "962e67dd9a45779f71e1cd521a96df3b4a3f00fe5767851858daae6a46ef9406", func := "semispace/semispacelaw09.AuditMade", spec := "auditMade", unfollowed := true, recurses := true, apart := false, narrowed := true }
def AuditMadeUptoSaid : Prop := auditMadeUptoRow.holds Tryz.pinned (OpenSpec.upto auditMadeSpec)

/-- 'semispacelaw09.AuditRefers', WHERE WHAT IT READS IS OF BULK AT MOST 1048576: true; the input reads as it did. -/
def auditRefersUptoRow : OpenClaim := { program := "ytlkibcnhdjmfjaagreat", sum := "962e67dd9a45779f71e1cd521a96df3b4a3f00fe5767851858daae6a46ef9406", func := "semispace/semispacelaw09.AuditRefers", spec := "auditRefers", unfollowed := true, recurses := true, apart := false, narrowed := true }
def AuditRefersUptoSaid : Prop := auditRefersUptoRow.holds Tryz.pinned (OpenSpec.upto auditRefersSpec)

/-- 'semispacelaw09.AuditDirt', WHERE WHAT IT READS IS OF BULK AT MOST 1048576: true; the input reads as it did. -/
def auditDirtUptoRow : OpenClaim := { program := "ytlkibcnhdjmfjaagreat", sum := "962e67dd9a45779f71e1cd521a96df3b4a3f00fe5767851858daae6a46ef9406", func := "semispace/semispacelaw09.AuditDirt", spec := "auditDirt", unfollowed := true, recurses := true, apart := false, narrowed := true }
def AuditDirtUptoSaid : Prop := auditDirtUptoRow.holds Tryz.pinned (OpenSpec.upto auditDirtSpec)

end Rows
end Go.Proofs.YtlkibcnhdjmfjaaGreat
