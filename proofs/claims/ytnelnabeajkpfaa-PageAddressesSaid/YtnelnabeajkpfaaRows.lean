/-
  No cell of these rows narrows 'for every input' (looked for: loops, veiled, ifaces, maps, wideKeys, modest, calm, conditions, laid).
  DERIVED. THE GIVEN ROWS OF THIS SEAT. 4 by the template 'for every input the law returns true; each argument reads behind the call as it read before'; 0 by the template 'total and deterministic' (their statements: YtnelnabeajkpfaaTotals.lean).
  GIVEN WITH THE SEED: the statements are not yours to turn. If you find one false, say at which input.
  Laid BY PROGRAM, IN A SANDBOX (cutbox-rows.mjs): the forced cells as the released guide's own fill.sh prints them over the translation b224f8b7fecb1c3e… (all of the seat's roots in one cut). By AI agents, Wed Nov 11 2026. No macro, syntax, notation, axiom, sorry.
-/
import Derived.Test.YtnelnabeajkpfaaChecked
import GoSem.Claim
import GoSem.ClaimJoined
import GoSem.ClaimMapViews
import Derived.JoinedTies
import Derived.KernelRfl
namespace Go.Proofs.Ytnelnabeajkpfaa
/- THE CELL 'sum', in the pinned program and in every row, IS THE sha256 OF THE DUMP (.gsa) THAT YtnelnabeajkpfaaProg.lean LOADS. Nothing in Lean hashes anything: it is a label: what it is worth is what the hold of that sum in a sandbox is worth. -/
noncomputable def Try.pinned : Pinned := { name := "ytnelnabeajkpfaa", sum := "b224f8b7fecb1c3e418b3e6c7dafdf7054967a2d2fe43be55cdd60e6843e6e77", checked := Try.checked }
namespace Rows
def none {H : Type} : Left H := { results := [], args := [] }

/-- 'semispacelaw04.PageConfs': WHATEVER THE INPUT: true; the input reads as it did. -/
def pageConfsSpec : ChangeSpec := { name := "pageConfs", fn := fun _ => fun
  | [d1, d2] => { results := [.lit (.bool true)], args := [d1, d2] }
  | _ => none }
def pageConfsRow : OpenClaim := { program := "ytnelnabeajkpfaa", sum := "b224f8b7fecb1c3e418b3e6c7dafdf7054967a2d2fe43be55cdd60e6843e6e77", func := "semispace/semispacelaw04.PageConfs", spec := "pageConfs", unfollowed := true, recurses := true, apart := false }
def PageConfsSaid : Prop := pageConfsRow.holds Try.pinned (OpenSpec.ofChange pageConfsSpec)

/-- ITS FALSE NEIGHBOUR: 'it returns false'. Refute it at one input. -/
def pageConfsWrong : ChangeSpec := { name := "pageConfs", fn := fun _ => fun
  | [d1, d2] => { results := [.lit (.bool false)], args := [d1, d2] }
  | _ => none }
def PageConfsWrongFalsely : Prop := pageConfsRow.holds Try.pinned (OpenSpec.ofChange pageConfsWrong)

/-- 'semispacelaw04.PageAddresses': WHATEVER THE INPUT: true; the input reads as it did. -/
def pageAddressesSpec : ChangeSpec := { name := "pageAddresses", fn := fun _ => fun
  | [d1, d2, d3, d4] => { results := [.lit (.bool true)], args := [d1, d2, d3, d4] }
  | _ => none }
def pageAddressesRow : OpenClaim := { program := "ytnelnabeajkpfaa", sum := "b224f8b7fecb1c3e418b3e6c7dafdf7054967a2d2fe43be55cdd60e6843e6e77", func := "semispace/semispacelaw04.PageAddresses", spec := "pageAddresses", unfollowed := true, recurses := true, apart := false }
def PageAddressesSaid : Prop := pageAddressesRow.holds Try.pinned (OpenSpec.ofChange pageAddressesSpec)

/-- ITS FALSE NEIGHBOUR: 'it returns false'. Refute it at one input. -/
def pageAddressesWrong : ChangeSpec := { name := "pageAddresses", fn := fun _ => fun
  | [d1, d2, d3, d4] => { results := [.lit (.bool false)], args := [d1, d2, d3, d4] }
  | _ => none }
def PageAddressesWrongFalsely : Prop := pageAddressesRow.holds Try.pinned (OpenSpec.ofChange pageAddressesWrong)

/-- 'semispacelaw04.PageNew': WHATEVER THE INPUT: true; the input reads as it did. -/
def pageNewSpec : ChangeSpec := { name := "pageNew", fn := fun _ => fun
  | [d] => { results := [.lit (.bool true)], args := [d] }
  | _ => none }
def pageNewRow : OpenClaim := { program := "ytnelnabeajkpfaa", sum := "b224f8b7fecb1c3e418b3e6c7dafdf7054967a2d2fe43be55cdd60e6843e6e77", func := "semispace/semispacelaw04.PageNew", spec := "pageNew", unfollowed := true, recurses := true, apart := false }
def PageNewSaid : Prop := pageNewRow.holds Try.pinned (OpenSpec.ofChange pageNewSpec)

/-- ITS FALSE NEIGHBOUR: 'it returns false'. Refute it at one input. -/
def pageNewWrong : ChangeSpec := { name := "pageNew", fn := fun _ => fun
  | [d] => { results := [.lit (.bool false)], args := [d] }
  | _ => none }
def PageNewWrongFalsely : Prop := pageNewRow.holds Try.pinned (OpenSpec.ofChange pageNewWrong)

/-- 'semispacelaw04.PageRuns': WHATEVER THE INPUT: true; the input reads as it did. -/
def pageRunsSpec : ChangeSpec := { name := "pageRuns", fn := fun _ => fun
  | [d1, d2] => { results := [.lit (.bool true)], args := [d1, d2] }
  | _ => none }
def pageRunsRow : OpenClaim := { program := "ytnelnabeajkpfaa", sum := "b224f8b7fecb1c3e418b3e6c7dafdf7054967a2d2fe43be55cdd60e6843e6e77", func := "semispace/semispacelaw04.PageRuns", spec := "pageRuns", unfollowed := true, recurses := true, apart := false }
def PageRunsSaid : Prop := pageRunsRow.holds Try.pinned (OpenSpec.ofChange pageRunsSpec)

/-- ITS FALSE NEIGHBOUR: 'it returns false'. Refute it at one input. -/
def pageRunsWrong : ChangeSpec := { name := "pageRuns", fn := fun _ => fun
  | [d1, d2] => { results := [.lit (.bool false)], args := [d1, d2] }
  | _ => none }
def PageRunsWrongFalsely : Prop := pageRunsRow.holds Try.pinned (OpenSpec.ofChange pageRunsWrong)

/- THE SECOND FORM. 'bulk': how many values and letters a reading holds, each counted each time it is reached (what is shared counts as often as it is met; a slice's spare places count too). A statement '..UptoSaid' is the law's where the arguments, and the package variables that the reading takes, are together of bulk at most 1048576: NARROWER than '..Said'. Prove '..Said' where nothing that the law and all that it calls make is longer than what came in: it says more and counts as full. Else prove '..UptoSaid'. A law counts once. -/
mutual
def uptoBulk {H : Type} : DataW H → Nat
  | .lit (.string bytes) => bytes.length + 1
  | .lit _ => 1
  | .nil => 1
  | .ptr d => uptoBulk d + 1
  | .slice elems spare => uptoBulkAll elems + uptoBulkAll spare + 1
  | .agg parts => uptoBulkAll parts + 1
  | .iface _ d => uptoBulk d + 1
  | .map entries => uptoBulkEntries entries + 1
  | .held _ => 1
def uptoBulkAll {H : Type} : List (DataW H) → Nat
  | [] => 0
  | d :: r => uptoBulk d + uptoBulkAll r
def uptoBulkEntries {H : Type} : List (Lit × DataW H) → Nat
  | [] => 0
  | x :: r => uptoBulkEntry x + uptoBulkEntries r
def uptoBulkEntry {H : Type} : Lit × DataW H → Nat
  | (.string bytes, d) => bytes.length + uptoBulk d + 1
  | (_, d) => uptoBulk d + 1
 end
def uptoSmall : (H : Type) → List (DataW H) → Bool := fun _ ds => decide (uptoBulkAll ds ≤ 1048576)
def OpenSpec.upto (s : _root_.Go.ChangeSpec) : _root_.Go.OpenSpec := { _root_.Go.OpenSpec.ofChange s with cond := some uptoSmall }

/-- 'semispacelaw04.PageConfs', WHERE WHAT IT READS IS OF BULK AT MOST 1048576: true; the input reads as it did. -/
def pageConfsUptoRow : OpenClaim := { program := "ytnelnabeajkpfaa", sum := "b224f8b7fecb1c3e418b3e6c7dafdf7054967a2d2fe43be55cdd60e6843e6e77", func := "semispace/semispacelaw04.PageConfs", spec := "pageConfs", unfollowed := true, recurses := true, apart := false, narrowed := true }
def PageConfsUptoSaid : Prop := pageConfsUptoRow.holds Try.pinned (OpenSpec.upto pageConfsSpec)

/-- 'semispacelaw04.PageAddresses', WHERE WHAT IT READS IS OF BULK AT MOST 1048576: true; the input reads as it did. -/
def pageAddressesUptoRow : OpenClaim := { program := "ytnelnabeajkpfaa", sum := "b224f8b7fecb1c3e418b3e6c7dafdf7054967a2d2fe43be55cdd60e6843e6e77", func := "semispace/semispacelaw04.PageAddresses", spec := "pageAddresses", unfollowed := true, recurses := true, apart := false, narrowed := true }
def PageAddressesUptoSaid : Prop := pageAddressesUptoRow.holds Try.pinned (OpenSpec.upto pageAddressesSpec)

/-- 'semispacelaw04.PageNew', WHERE WHAT IT READS IS OF BULK AT MOST 1048576: true; the input reads as it did. -/
def pageNewUptoRow : OpenClaim := { program := "ytnelnabeajkpfaa", sum := "b224f8b7fecb1c3e418b3e6c7dafdf7054967a2d2fe43be55cdd60e6843e6e77", func := "semispace/semispacelaw04.PageNew", spec := "pageNew", unfollowed := true, recurses := true, apart := false, narrowed := true }
def PageNewUptoSaid : Prop := pageNewUptoRow.holds Try.pinned (OpenSpec.upto pageNewSpec)

/-- 'semispacelaw04.PageRuns', WHERE WHAT IT READS IS OF BULK AT MOST 1048576: true; the input reads as it did. -/
def pageRunsUptoRow : OpenClaim := { program := "ytnelnabeajkpfaa", sum := "b224f8b7fecb1c3e418b3e6c7dafdf7054967a2d2fe43be55cdd60e6843e6e77", func := "semispace/semispacelaw04.PageRuns", spec := "pageRuns", unfollowed := true, recurses := true, apart := false, narrowed := true }
def PageRunsUptoSaid : Prop := pageRunsUptoRow.holds Try.pinned (OpenSpec.upto pageRunsSpec)

end Rows
end Go.Proofs.Ytnelnabeajkpfaa
