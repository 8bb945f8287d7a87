/-
  No cell of these rows narrows 'for every input' (looked for: loops, veiled, ifaces, maps, wideKeys, modest, calm, conditions, laid).
  DERIVED. THE GIVEN ROWS OF THIS SEAT. 6 by the template 'for every input the law returns true; each argument reads behind the call as it read before'; 0 by the template 'total and deterministic' (their statements: YtjnpmfkkagchjaaTotals.lean).
  GIVEN WITH THE SEED: the statements are not yours to turn. If you find one false, say at which input.
  Laid BY PROGRAM, IN A SANDBOX (cutbox-rows.mjs): the forced cells as the released guide's own fill.sh prints them over the translation 6cccbaaa2ce6e22a… (all of the seat's roots in one cut). By AI agents, Wed Nov 11 2026. No macro, syntax, notation, axiom, sorry.
-/
import Derived.Test.YtjnpmfkkagchjaaChecked
import GoSem.Claim
import GoSem.ClaimJoined
import GoSem.ClaimMapViews
import Derived.JoinedTies
import Derived.KernelRfl
namespace Go.Proofs.Ytjnpmfkkagchjaa
/- THE CELL 'sum', in the pinned program and in every row, IS THE sha256 OF THE DUMP (.gsa) THAT YtjnpmfkkagchjaaProg.lean LOADS. Nothing in Lean hashes anything: it is a label: what it is worth is what the hold of that sum in a sandbox is worth. -/
noncomputable def Try.pinned : Pinned := { name := "ytjnpmfkkagchjaa", sum := "6cccbaaa2ce6e22ab28c561de026f671c546553ba1679f119e36948da18d2ac4", checked := Try.checked }
namespace Rows
def none {H : Type} : Left H := { results := [], args := [] }

/-- 'semispacelaw14.ScopeValid': WHATEVER THE INPUT: true; the input reads as it did. -/
def scopeValidSpec : ChangeSpec := { name := "scopeValid", fn := fun _ => fun
  | [d] => { results := [.lit (.bool true)], args := [d] }
  | _ => none }
def scopeValidRow : OpenClaim := { program := "ytjnpmfkkagchjaa", sum := "6cccbaaa2ce6e22ab28c561de026f671c546553ba1679f119e36948da18d2ac4", func := "semispace/semispacelaw14.ScopeValid", spec := "scopeValid", apart := false }
def ScopeValidSaid : Prop := scopeValidRow.holds Try.pinned (OpenSpec.ofChange scopeValidSpec)

/-- ITS FALSE NEIGHBOUR: 'it returns false'. Refute it at one input. -/
def scopeValidWrong : ChangeSpec := { name := "scopeValid", fn := fun _ => fun
  | [d] => { results := [.lit (.bool false)], args := [d] }
  | _ => none }
def ScopeValidWrongFalsely : Prop := scopeValidRow.holds Try.pinned (OpenSpec.ofChange scopeValidWrong)

/-- 'semispacelaw14.ScopeOpens': WHATEVER THE INPUT: true; the input reads as it did. -/
def scopeOpensSpec : ChangeSpec := { name := "scopeOpens", fn := fun _ => fun
  | [d1, d2] => { results := [.lit (.bool true)], args := [d1, d2] }
  | _ => none }
def scopeOpensRow : OpenClaim := { program := "ytjnpmfkkagchjaa", sum := "6cccbaaa2ce6e22ab28c561de026f671c546553ba1679f119e36948da18d2ac4", func := "semispace/semispacelaw14.ScopeOpens", spec := "scopeOpens", unfollowed := true, recurses := true, apart := false }
def ScopeOpensSaid : Prop := scopeOpensRow.holds Try.pinned (OpenSpec.ofChange scopeOpensSpec)

/-- ITS FALSE NEIGHBOUR: 'it returns false'. Refute it at one input. -/
def scopeOpensWrong : ChangeSpec := { name := "scopeOpens", fn := fun _ => fun
  | [d1, d2] => { results := [.lit (.bool false)], args := [d1, d2] }
  | _ => none }
def ScopeOpensWrongFalsely : Prop := scopeOpensRow.holds Try.pinned (OpenSpec.ofChange scopeOpensWrong)

/-- 'semispacelaw14.ScopeHandles': WHATEVER THE INPUT: true; the input reads as it did. -/
def scopeHandlesSpec : ChangeSpec := { name := "scopeHandles", fn := fun _ => fun
  | [d1, d2, d3, d4, d5] => { results := [.lit (.bool true)], args := [d1, d2, d3, d4, d5] }
  | _ => none }
def scopeHandlesRow : OpenClaim := { program := "ytjnpmfkkagchjaa", sum := "6cccbaaa2ce6e22ab28c561de026f671c546553ba1679f119e36948da18d2ac4", func := "semispace/semispacelaw14.ScopeHandles", spec := "scopeHandles", apart := false }
def ScopeHandlesSaid : Prop := scopeHandlesRow.holds Try.pinned (OpenSpec.ofChange scopeHandlesSpec)

/-- ITS FALSE NEIGHBOUR: 'it returns false'. Refute it at one input. -/
def scopeHandlesWrong : ChangeSpec := { name := "scopeHandles", fn := fun _ => fun
  | [d1, d2, d3, d4, d5] => { results := [.lit (.bool false)], args := [d1, d2, d3, d4, d5] }
  | _ => none }
def ScopeHandlesWrongFalsely : Prop := scopeHandlesRow.holds Try.pinned (OpenSpec.ofChange scopeHandlesWrong)

/-- 'semispacelaw14.ScopeLife': WHATEVER THE INPUT: true; the input reads as it did. -/
def scopeLifeSpec : ChangeSpec := { name := "scopeLife", fn := fun _ => fun
  | [d1, d2, d3] => { results := [.lit (.bool true)], args := [d1, d2, d3] }
  | _ => none }
def scopeLifeRow : OpenClaim := { program := "ytjnpmfkkagchjaa", sum := "6cccbaaa2ce6e22ab28c561de026f671c546553ba1679f119e36948da18d2ac4", func := "semispace/semispacelaw14.ScopeLife", spec := "scopeLife", unfollowed := true, recurses := true, apart := false }
def ScopeLifeSaid : Prop := scopeLifeRow.holds Try.pinned (OpenSpec.ofChange scopeLifeSpec)

/-- ITS FALSE NEIGHBOUR: 'it returns false'. Refute it at one input. -/
def scopeLifeWrong : ChangeSpec := { name := "scopeLife", fn := fun _ => fun
  | [d1, d2, d3] => { results := [.lit (.bool false)], args := [d1, d2, d3] }
  | _ => none }
def ScopeLifeWrongFalsely : Prop := scopeLifeRow.holds Try.pinned (OpenSpec.ofChange scopeLifeWrong)

/-- 'semispacelaw14.ScopeNests': WHATEVER THE INPUT: true; the input reads as it did. -/
def scopeNestsSpec : ChangeSpec := { name := "scopeNests", fn := fun _ => fun
  | [d1, d2, d3] => { results := [.lit (.bool true)], args := [d1, d2, d3] }
  | _ => none }
def scopeNestsRow : OpenClaim := { program := "ytjnpmfkkagchjaa", sum := "6cccbaaa2ce6e22ab28c561de026f671c546553ba1679f119e36948da18d2ac4", func := "semispace/semispacelaw14.ScopeNests", spec := "scopeNests", unfollowed := true, recurses := true, apart := false }
def ScopeNestsSaid : Prop := scopeNestsRow.holds Try.pinned (OpenSpec.ofChange scopeNestsSpec)

/-- ITS FALSE NEIGHBOUR: 'it returns false'. Refute it at one input. -/
def scopeNestsWrong : ChangeSpec := { name := "scopeNests", fn := fun _ => fun
  | [d1, d2, d3] => { results := [.lit (.bool false)], args := [d1, d2, d3] }
  | _ => none }
def ScopeNestsWrongFalsely : Prop := scopeNestsRow.holds Try.pinned (OpenSpec.ofChange scopeNestsWrong)

/-- 'semispacelaw14.ScopeCapacity': WHATEVER THE INPUT: true; the input reads as it did. -/
def scopeCapacitySpec : ChangeSpec := { name := "scopeCapacity", fn := fun _ => fun
  | [d] => { results := [.lit (.bool true)], args := [d] }
  | _ => none }
def scopeCapacityRow : OpenClaim := { program := "ytjnpmfkkagchjaa", sum := "6cccbaaa2ce6e22ab28c561de026f671c546553ba1679f119e36948da18d2ac4", func := "semispace/semispacelaw14.ScopeCapacity", spec := "scopeCapacity", apart := false }
def ScopeCapacitySaid : Prop := scopeCapacityRow.holds Try.pinned (OpenSpec.ofChange scopeCapacitySpec)

/-- ITS FALSE NEIGHBOUR: 'it returns false'. Refute it at one input. -/
def scopeCapacityWrong : ChangeSpec := { name := "scopeCapacity", fn := fun _ => fun
  | [d] => { results := [.lit (.bool false)], args := [d] }
  | _ => none }
def ScopeCapacityWrongFalsely : Prop := scopeCapacityRow.holds Try.pinned (OpenSpec.ofChange scopeCapacityWrong)

/- THE SECOND FORM. 'bulk': how many values and letters a reading holds, each counted each time it is reached (what is shared counts as often as it is met; a slice's spare places count too). A statement '..UptoSaid' is the law's where the arguments, and the package variables that the reading takes, are together of bulk at most 1048576: NARROWER than '..Said'. Prove '..Said' where nothing that the law and all that it calls make is longer than what came in: it says more and counts as full. Else prove '..UptoSaid'. A law counts once. -/
mutual
def uptoBulk {H : Type} : DataW H → Nat
  | .lit (.string bytes) => bytes.length + 1
  | .lit _ => 1
  | .nil => 1
  | .ptr d => uptoBulk d + 1
  | .slice elems spare => uptoBulkAll elems + uptoBulkAll spare + 1
  | .agg parts => uptoBulkAll parts + 1
  | .iface _ d => uptoBulk d + 1
  | .map entries => uptoBulkEntries entries + 1
  | .held _ => 1
def uptoBulkAll {H : Type} : List (DataW H) → Nat
  | [] => 0
  | d :: r => uptoBulk d + uptoBulkAll r
def uptoBulkEntries {H : Type} : List (Lit × DataW H) → Nat
  | [] => 0
  | x :: r => uptoBulkEntry x + uptoBulkEntries r
def uptoBulkEntry {H : Type} : Lit × DataW H → Nat
  | (.string bytes, d) => bytes.length + uptoBulk d + 1
  | (_, d) => uptoBulk d + 1
 end
def uptoSmall : (H : Type) → List (DataW H) → Bool := fun _ ds => decide (uptoBulkAll ds ≤ 1048576)
def OpenSpec.upto (s : _root_.Go.ChangeSpec) : _root_.Go.OpenSpec := { _root_.Go.OpenSpec.ofChange s with cond := some uptoSmall }

/-- 'semispacelaw14.ScopeValid', WHERE WHAT IT READS IS OF BULK AT MOST 1048576: true; the input reads as it did. -/
def scopeValidUptoRow : OpenClaim := { program := "ytjnpmfkkagchjaa", sum := "6cccbaaa2ce6e22ab28c561de026f671c546553ba1679f119e36948da18d2ac4", func := "semispace/semispacelaw14.ScopeValid", spec := "scopeValid", apart := false, narrowed := true }
def ScopeValidUptoSaid : Prop := scopeValidUptoRow.holds Try.pinned (OpenSpec.upto scopeValidSpec)

/-- 'semispacelaw14.ScopeOpens', WHERE WHAT IT READS IS OF BULK AT MOST 1048576: true; the input reads as it did. -/
def scopeOpensUptoRow : OpenClaim := { program := "ytjnpmfkkagchjaa", sum := "6cccbaaa2ce6e22ab28c561de026f671c546553ba1679f119e36948da18d2ac4", func := "semispace/semispacelaw14.ScopeOpens", spec := "scopeOpens", unfollowed := true, recurses := true, apart := false, narrowed := true }
def ScopeOpensUptoSaid : Prop := scopeOpensUptoRow.holds Try.pinned (OpenSpec.upto scopeOpensSpec)

/-- 'semispacelaw14.ScopeHandles', WHERE WHAT IT READS IS OF BULK AT MOST 1048576: true; the input reads as it did. -/
def scopeHandlesUptoRow : OpenClaim := { program := "ytjnpmfkkagchjaa", sum := "6cccbaaa2ce6e22ab28c561de026f671c546553ba1679f119e36948da18d2ac4", func := "semispace/semispacelaw14.ScopeHandles", spec := "scopeHandles", apart := false, narrowed := true }
def ScopeHandlesUptoSaid : Prop := scopeHandlesUptoRow.holds Try.pinned (OpenSpec.upto scopeHandlesSpec)

/-- 'semispacelaw14.ScopeLife', WHERE WHAT IT READS IS OF BULK AT MOST 1048576: true; the input reads as it did. -/
def scopeLifeUptoRow : OpenClaim := { program := "ytjnpmfkkagchjaa", sum := "6cccbaaa2ce6e22ab28c561de026f671c546553ba1679f119e36948da18d2ac4", func := "semispace/semispacelaw14.ScopeLife", spec := "scopeLife", unfollowed := true, recurses := true, apart := false, narrowed := true }
def ScopeLifeUptoSaid : Prop := scopeLifeUptoRow.holds Try.pinned (OpenSpec.upto scopeLifeSpec)

/-- 'semispacelaw14.ScopeNests', WHERE WHAT IT READS IS OF BULK AT MOST 1048576: true; the input reads as it did. -/
def scopeNestsUptoRow : OpenClaim := { program := "ytjnpmfkkagchjaa", sum := "6cccbaaa2ce6e22ab28c561de026f671c546553ba1679f119e36948da18d2ac4", func := "semispace/semispacelaw14.ScopeNests", spec := "scopeNests", unfollowed := true, recurses := true, apart := false, narrowed := true }
def ScopeNestsUptoSaid : Prop := scopeNestsUptoRow.holds Try.pinned (OpenSpec.upto scopeNestsSpec)

/-- 'semispacelaw14.ScopeCapacity', WHERE WHAT IT READS IS OF BULK AT MOST 1048576: true; the input reads as it did. -/
def scopeCapacityUptoRow : OpenClaim := { program := "ytjnpmfkkagchjaa", sum := "6cccbaaa2ce6e22ab28c561de026f671c546553ba1679f119e36948da18d2ac4", func := "semispace/semispacelaw14.ScopeCapacity", spec := "scopeCapacity", apart := false, narrowed := true }
def ScopeCapacityUptoSaid : Prop := scopeCapacityUptoRow.holds Try.pinned (OpenSpec.upto scopeCapacitySpec)

end Rows
end Go.Proofs.Ytjnpmfkkagchjaa
