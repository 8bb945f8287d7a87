/- Local handles whose rows lie in memory that a call made. -/
import Derived.Test.YtapfbnhcndifhaaScO
import Derived.Test.YtapfbnhcndifhaaScV
set_option linter.unusedVariables false
set_option linter.unusedSimpArgs false
namespace Go.Proofs.Ytapfbnhcndifhaa
open Go.RowKit

structure FRow (B : Nat) (w : World) (pa : Option Addr) (na ca : Nat) (pb : Option Addr) (nb cb : Nat) (pc : Option Addr) (nc cc : Nat) (l : Loc) : Prop where
  r : LRow w pa na ca pb nb cb pc nc cc l
  fa : ∀ a, pa = some a → B ≤ a.block ∧ a.block < w.heap.size
  fb : ∀ a, pb = some a → B ≤ a.block ∧ a.block < w.heap.size
  fc : ∀ a, pc = some a → B ≤ a.block ∧ a.block < w.heap.size
theorem FRow.mono {w : World} {pa pb pc : Option Addr} {na ca nb cb nc cc : Nat} {l : Loc} {B C : Nat} (h : FRow B w pa na ca pb nb cb pc nc cc l) (hc : C ≤ B) : FRow C w pa na ca pb nb cb pc nc cc l := ⟨h.r, fun a e => ⟨Nat.le_trans hc (h.fa a e).1, (h.fa a e).2⟩, fun a e => ⟨Nat.le_trans hc (h.fb a e).1, (h.fb a e).2⟩, fun a e => ⟨Nat.le_trans hc (h.fc a e).1, (h.fc a e).2⟩⟩
theorem FRow.keep {w : World} {pa pb pc : Option Addr} {na ca nb cb nc cc : Nat} {l : Loc} {w' : World} {B : Nat} (h : FRow B w pa na ca pb nb cb pc nc cc l) (hb : Below w.heap.size w w') : FRow B w' pa na ca pb nb cb pc nc cc l := ⟨h.r.keep hb, fun a e => ⟨(h.fa a e).1, Nat.lt_of_lt_of_le (h.fa a e).2 hb.size⟩, fun a e => ⟨(h.fb a e).1, Nat.lt_of_lt_of_le (h.fb a e).2 hb.size⟩, fun a e => ⟨(h.fc a e).1, Nat.lt_of_lt_of_le (h.fc a e).2 hb.size⟩⟩
theorem FRow.set3 {w : World} {pa pb pc : Option Addr} {na ca nb cb nc cc : Nat} {l : Loc} {C B : Nat} (h : FRow C w pa na ca pb nb cb pc nc cc l) {p0 p1 p2 : Option Addr} {n0 n1 n2 c0 c1 c2 : Nat} (hB : OwnL w B [.slice p0 n0 c0, .slice p1 n1 c1, .slice p2 n2 c2]) (x y z : Value) : FRow C (((w.setCell ⟨B, 0, none⟩ x).setCell ⟨B, 1, none⟩ y).setCell ⟨B, 2, none⟩ z) pa na ca pb nb cb pc nc cc l := ⟨h.r.set3 hB x y z, by simpa using h.fa, by simpa using h.fb, by simpa using h.fc⟩
theorem own_fresh {w : World} {B e s n c : Nat} {p : Option Addr} {vs : List Value} (h : w.ownsRow B e s (.slice p n c) n vs) : ∀ a, p = some a → B ≤ a.block ∧ a.block < w.heap.size := by
  intro a ha
  subst ha
  have hl := h.lt
  rcases h.2 with ⟨h1, _⟩ | ⟨g, cap, cur, he, hg, _⟩
  · cases h1
  · cases he; exact hl g (by simp [Value.ownBlock])
theorem OwnLoc.frow {w : World} {pa pb pc : Option Addr} {na ca nb cb nc cc : Nat} {l : Loc} {B C : Nat} (h : OwnLoc w B pa na ca pb nb cb pc nc cc l) (hc : C ≤ B) : FRow C w pa na ca pb nb cb pc nc cc l := ⟨h.row, fun a e => ⟨Nat.le_trans hc (own_fresh h.a a e).1, (own_fresh h.a a e).2⟩, fun a e => ⟨Nat.le_trans hc (own_fresh h.b a e).1, (own_fresh h.b a e).2⟩, fun a e => ⟨Nat.le_trans hc (own_fresh h.c a e).1, (own_fresh h.c a e).2⟩⟩
theorem frow0 (B : Nat) (w : World) : FRow B w none 0 0 none 0 0 none 0 0 loc0 := ⟨row0 w, (fun a e => by cases e), (fun a e => by cases e), (fun a e => by cases e)⟩
def RetF (B : Nat) (l : Loc) (er : Int) (e : Ending) (w' : World) : Prop := ∃ pa na ca pb nb cb pc nc cc, e = .returned (.tuple #[.agg #[.slice pa na ca, .slice pb nb cb, .slice pc nc cc], .int .i64 er]) ∧ FRow B w' pa na ca pb nb cb pc nc cc l
theorem RetF.zero (B : Nat) (er : Int) (w : World) : RetF B loc0 er (.returned (.tuple #[.agg #[.slice none 0 0, .slice none 0 0, .slice none 0 0], .int .i64 er])) w := ⟨none, 0, 0, none, 0, 0, none, 0, 0, rfl, frow0 B w⟩
def RetNF (B : Nat) (l : Loc) (i st er : Int) (e : Ending) (w' : World) : Prop := ∃ pa na ca pb nb cb pc nc cc, e = .returned (.tuple #[.agg #[.slice pa na ca, .slice pb nb cb, .slice pc nc cc], .int .i64 i, .int .i64 st, .int .i64 er]) ∧ FRow B w' pa na ca pb nb cb pc nc cc l
theorem RetNF.zero (B : Nat) (er : Int) (w : World) : RetNF B loc0 0 0 er (.returned (.tuple #[.agg #[.slice none 0 0, .slice none 0 0, .slice none 0 0], .int .i64 0, .int .i64 0, .int .i64 er])) w := ⟨none, 0, 0, none, 0, 0, none, 0, 0, rfl, frow0 B w⟩
def RetOF (B : Nat) (l : Loc) (e : Ending) (w' : World) : Prop := ∃ pa na ca pb nb cb pc nc cc, e = .returned (.agg #[.slice pa na ca, .slice pb nb cb, .slice pc nc cc]) ∧ FRow B w' pa na ca pb nb cb pc nc cc l
end Go.Proofs.Ytapfbnhcndifhaa
