/-
  No cell of these rows narrows 'for every input' (looked for: loops, veiled, ifaces, maps, wideKeys, modest, calm, conditions, laid).
  DERIVED. THE GIVEN ROWS OF THIS SEAT. 5 by the template 'for every input the law returns true; each argument reads behind the call as it read before'; 0 by the template 'total and deterministic' (their statements: YtapfbnhcndifhaaTotals.lean).
  GIVEN WITH THE SEED: the statements are not yours to turn. If you find one false, say at which input.
  Laid BY PROGRAM, IN A SANDBOX (cutbox-rows.mjs): the forced cells as the released guide's own fill.sh prints them over the translation 6d723f16151b37ff… (all of the seat's roots in one cut). By AI agents, Wed Nov 11 2026. No macro, syntax, notation, axiom, sorry.
-/
import Derived.Test.YtapfbnhcndifhaaChecked
import GoSem.Claim
import GoSem.ClaimJoined
import GoSem.ClaimMapViews
import Derived.JoinedTies
import Derived.KernelRfl
namespace Go.Proofs.Ytapfbnhcndifhaa
/- THE CELL 'sum', in the pinned program and in every row, IS THE sha256 OF THE DUMP (.gsa) THAT YtapfbnhcndifhaaProg.lean LOADS. Nothing in Lean hashes anything: it is a label: what it is worth is what the hold of that sum in a sandbox is worth. -/
noncomputable def Try.pinned : Pinned := { name := "ytapfbnhcndifhaa", sum := "6d723f16151b37ff96861f3ce5e97f6b895742c8154e75ec299b7e0b5d642188", checked := Try.checked }
namespace Rows
def none {H : Type} : Left H := { results := [], args := [] }

/-- 'semispacelaw14.ScopeNests': WHATEVER THE INPUT: true; the input reads as it did. -/
def scopeNestsSpec : ChangeSpec := { name := "scopeNests", fn := fun _ => fun
  | [d1, d2, d3] => { results := [.lit (.bool true)], args := [d1, d2, d3] }
  | _ => none }
def scopeNestsRow : OpenClaim := { program := "ytapfbnhcndifhaa", sum := "6d723f16151b37ff96861f3ce5e97f6b895742c8154e75ec299b7e0b5d642188", func := "semispace/semispacelaw14.ScopeNests", spec := "scopeNests", unfollowed := true, recurses := true, apart := false }
def ScopeNestsSaid : Prop := scopeNestsRow.holds Try.pinned (OpenSpec.ofChange scopeNestsSpec)

/-- ITS FALSE NEIGHBOUR: 'it returns false'. Refute it at one input. -/
def scopeNestsWrong : ChangeSpec := { name := "scopeNests", fn := fun _ => fun
  | [d1, d2, d3] => { results := [.lit (.bool false)], args := [d1, d2, d3] }
  | _ => none }
def ScopeNestsWrongFalsely : Prop := scopeNestsRow.holds Try.pinned (OpenSpec.ofChange scopeNestsWrong)

/-- 'semispacelaw15.SlotsValid': WHATEVER THE INPUT: true; the input reads as it did. -/
def slotsValidSpec : ChangeSpec := { name := "slotsValid", fn := fun _ => fun
  | [d] => { results := [.lit (.bool true)], args := [d] }
  | _ => none }
def slotsValidRow : OpenClaim := { program := "ytapfbnhcndifhaa", sum := "6d723f16151b37ff96861f3ce5e97f6b895742c8154e75ec299b7e0b5d642188", func := "semispace/semispacelaw15.SlotsValid", spec := "slotsValid", unfollowed := true, recurses := true, apart := false }
def SlotsValidSaid : Prop := slotsValidRow.holds Try.pinned (OpenSpec.ofChange slotsValidSpec)

/-- ITS FALSE NEIGHBOUR: 'it returns false'. Refute it at one input. -/
def slotsValidWrong : ChangeSpec := { name := "slotsValid", fn := fun _ => fun
  | [d] => { results := [.lit (.bool false)], args := [d] }
  | _ => none }
def SlotsValidWrongFalsely : Prop := slotsValidRow.holds Try.pinned (OpenSpec.ofChange slotsValidWrong)

/-- 'semispacelaw15.SlotsCalls': WHATEVER THE INPUT: true; the input reads as it did. -/
def slotsCallsSpec : ChangeSpec := { name := "slotsCalls", fn := fun _ => fun
  | [d1, d2, d3, d4, d5] => { results := [.lit (.bool true)], args := [d1, d2, d3, d4, d5] }
  | _ => none }
def slotsCallsRow : OpenClaim := { program := "ytapfbnhcndifhaa", sum := "6d723f16151b37ff96861f3ce5e97f6b895742c8154e75ec299b7e0b5d642188", func := "semispace/semispacelaw15.SlotsCalls", spec := "slotsCalls", unfollowed := true, recurses := true, apart := false }
def SlotsCallsSaid : Prop := slotsCallsRow.holds Try.pinned (OpenSpec.ofChange slotsCallsSpec)

/-- ITS FALSE NEIGHBOUR: 'it returns false'. Refute it at one input. -/
def slotsCallsWrong : ChangeSpec := { name := "slotsCalls", fn := fun _ => fun
  | [d1, d2, d3, d4, d5] => { results := [.lit (.bool false)], args := [d1, d2, d3, d4, d5] }
  | _ => none }
def SlotsCallsWrongFalsely : Prop := slotsCallsRow.holds Try.pinned (OpenSpec.ofChange slotsCallsWrong)

/-- 'semispacelaw15.SlotsLife': WHATEVER THE INPUT: true; the input reads as it did. -/
def slotsLifeSpec : ChangeSpec := { name := "slotsLife", fn := fun _ => fun
  | [d] => { results := [.lit (.bool true)], args := [d] }
  | _ => none }
def slotsLifeRow : OpenClaim := { program := "ytapfbnhcndifhaa", sum := "6d723f16151b37ff96861f3ce5e97f6b895742c8154e75ec299b7e0b5d642188", func := "semispace/semispacelaw15.SlotsLife", spec := "slotsLife", apart := false }
def SlotsLifeSaid : Prop := slotsLifeRow.holds Try.pinned (OpenSpec.ofChange slotsLifeSpec)

/-- ITS FALSE NEIGHBOUR: 'it returns false'. Refute it at one input. -/
def slotsLifeWrong : ChangeSpec := { name := "slotsLife", fn := fun _ => fun
  | [d] => { results := [.lit (.bool false)], args := [d] }
  | _ => none }
def SlotsLifeWrongFalsely : Prop := slotsLifeRow.holds Try.pinned (OpenSpec.ofChange slotsLifeWrong)

/-- 'semispacelaw15.SlotsFull': WHATEVER THE INPUT: true; the input reads as it did. -/
def slotsFullSpec : ChangeSpec := { name := "slotsFull", fn := fun _ => fun
  | [d] => { results := [.lit (.bool true)], args := [d] }
  | _ => none }
def slotsFullRow : OpenClaim := { program := "ytapfbnhcndifhaa", sum := "6d723f16151b37ff96861f3ce5e97f6b895742c8154e75ec299b7e0b5d642188", func := "semispace/semispacelaw15.SlotsFull", spec := "slotsFull", apart := false }
def SlotsFullSaid : Prop := slotsFullRow.holds Try.pinned (OpenSpec.ofChange slotsFullSpec)

/-- ITS FALSE NEIGHBOUR: 'it returns false'. Refute it at one input. -/
def slotsFullWrong : ChangeSpec := { name := "slotsFull", fn := fun _ => fun
  | [d] => { results := [.lit (.bool false)], args := [d] }
  | _ => none }
def SlotsFullWrongFalsely : Prop := slotsFullRow.holds Try.pinned (OpenSpec.ofChange slotsFullWrong)

/- THE SECOND FORM. 'bulk': how many values and letters a reading holds, each counted each time it is reached (what is shared counts as often as it is met; a slice's spare places count too). A statement '..UptoSaid' is the law's where the arguments, and the package variables that the reading takes, are together of bulk at most 1048576: NARROWER than '..Said'. Prove '..Said' where nothing that the law and all that it calls make is longer than what came in: it says more and counts as full. Else prove '..UptoSaid'. A law counts once. -/
mutual
def uptoBulk {H : Type} : DataW H → Nat
  | .lit (.string bytes) => bytes.length + 1
  | .lit _ => 1
  | .nil => 1
  | .ptr d => uptoBulk d + 1
  | .slice elems spare => uptoBulkAll elems + uptoBulkAll spare + 1
  | .agg parts => uptoBulkAll parts + 1
  | .iface _ d => uptoBulk d + 1
  | .map entries => uptoBulkEntries entries + 1
  | .held _ => 1
def uptoBulkAll {H : Type} : List (DataW H) → Nat
  | [] => 0
  | d :: r => uptoBulk d + uptoBulkAll r
def uptoBulkEntries {H : Type} : List (Lit × DataW H) → Nat
  | [] => 0
  | x :: r => uptoBulkEntry x + uptoBulkEntries r
def uptoBulkEntry {H : Type} : Lit × DataW H → Nat
  | (.string bytes, d) => bytes.length + uptoBulk d + 1
  | (_, d) => uptoBulk d + 1
 end
def uptoSmall : (H : Type) → List (DataW H) → Bool := fun _ ds => decide (uptoBulkAll ds ≤ 1048576)
def OpenSpec.upto (s : _root_.Go.ChangeSpec) : _root_.Go.OpenSpec := { _root_.Go.OpenSpec.ofChange s with cond := some uptoSmall }

/-- 'semispacelaw14.ScopeNests', WHERE WHAT IT READS IS OF BULK AT MOST 1048576: true; the input reads as it did. -/
def scopeNestsUptoRow : OpenClaim := { program := "ytapfbnhcndifhaa", sum := "6d723f16151b37ff96861f3ce5e97f6b895742c8154e75ec299b7e0b5d642188", func := "semispace/semispacelaw14.ScopeNests", spec := "scopeNests", unfollowed := true, recurses := true, apart := false, narrowed := true }
def ScopeNestsUptoSaid : Prop := scopeNestsUptoRow.holds Try.pinned (OpenSpec.upto scopeNestsSpec)

/-- 'semispacelaw15.SlotsValid', WHERE WHAT IT READS IS OF BULK AT MOST 1048576: true; the input reads as it did. -/
def slotsValidUptoRow : OpenClaim := { program := "ytapfbnhcndifhaa", sum := "6d723f16151b37ff96861f3ce5e97f6b895742c8154e75ec299b7e0b5d642188", func := "semispace/semispacelaw15.SlotsValid", spec := "slotsValid", unfollowed := true, recurses := true, apart := false, narrowed := true }
def SlotsValidUptoSaid : Prop := slotsValidUptoRow.holds Try.pinned (OpenSpec.upto slotsValidSpec)

/-- 'semispacelaw15.SlotsCalls', WHERE WHAT IT READS IS OF BULK AT MOST 1048576: true; the input reads as it did. -/
def slotsCallsUptoRow : OpenClaim := { program := "ytapfbnhcndifhaa", sum := "6d723f16151b37ff96861f3ce5e97f6b895742c8154e75ec299b7e0b5d642188", func := "semispace/semispacelaw15.SlotsCalls", spec := "slotsCalls", unfollowed := true, recurses := true, apart := false, narrowed := true }
def SlotsCallsUptoSaid : Prop := slotsCallsUptoRow.holds Try.pinned (OpenSpec.upto slotsCallsSpec)

/-- 'semispacelaw15.SlotsLife', WHERE WHAT IT READS IS OF BULK AT MOST 1048576: true; the input reads as it did. -/
def slotsLifeUptoRow : OpenClaim := { program := "ytapfbnhcndifhaa", sum := "6d723f16151b37ff96861f3ce5e97f6b895742c8154e75ec299b7e0b5d642188", func := "semispace/semispacelaw15.SlotsLife", spec := "slotsLife", apart := false, narrowed := true }
def SlotsLifeUptoSaid : Prop := slotsLifeUptoRow.holds Try.pinned (OpenSpec.upto slotsLifeSpec)

/-- 'semispacelaw15.SlotsFull', WHERE WHAT IT READS IS OF BULK AT MOST 1048576: true; the input reads as it did. -/
def slotsFullUptoRow : OpenClaim := { program := "ytapfbnhcndifhaa", sum := "6d723f16151b37ff96861f3ce5e97f6b895742c8154e75ec299b7e0b5d642188", func := "semispace/semispacelaw15.SlotsFull", spec := "slotsFull", apart := false, narrowed := true }
def SlotsFullUptoSaid : Prop := slotsFullUptoRow.holds Try.pinned (OpenSpec.upto slotsFullSpec)

end Rows
end Go.Proofs.Ytapfbnhcndifhaa
