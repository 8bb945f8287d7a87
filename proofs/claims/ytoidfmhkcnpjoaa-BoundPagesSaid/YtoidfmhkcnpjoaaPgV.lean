/- Contracts of package page on page tables: proper, Proper. -/
import Derived.Test.YtoidfmhkcnpjoaaPgU
import Derived.Deep.RegionHeld3
import Derived.Laws.EntriesVeiled
set_option maxRecDepth 100000
namespace Go.Proofs.Ytoidfmhkcnpjoaa
open Go.RowKit

/-- Page i as its kind asks. -/
def pageOK (pw np : Int) (ps : List Pg) (i : Nat) (x : Pg) : Bool :=
  if x.kind = 0 then freeOK x else if x.kind = 1 then smallOK pw x else if x.kind = 2 then largeOK pw np ps i x else if x.kind = 3 then tailOK pw np ps i x else false
/-- All pages from place i on are as their kinds ask. -/
def tableFrom (pw np : Int) (ps : List Pg) : Nat → List Pg → Bool
  | _, [] => true
  | i, x :: r => pageOK pw np ps i x && tableFrom pw np ps (i + 1) r
def tableOK (pw np : Int) (ps : List Pg) : Bool := tableFrom pw np ps 0 ps
theorem table_step {pw np : Int} {ps : List Pg} {i : Nat} {x : Pg} (h : ps[i]? = some x) : tableFrom pw np ps i (ps.drop i) = (pageOK pw np ps i x && tableFrom pw np ps (i + 1) (ps.drop (i + 1))) := by
  obtain ⟨hi, rfl⟩ := List.getElem?_eq_some_iff.1 h
  rw [List.drop_eq_getElem_cons hi, tableFrom]
theorem table_end {pw np : Int} {ps : List Pg} {i : Nat} (h : ps.length ≤ i) : tableFrom pw np ps i (ps.drop i) = true := by
  rw [List.drop_eq_nil_of_le h, tableFrom]

theorem keep6 {w0 w w' : World} {a b c d e : Addr} {va vb vc vd ve : Value} (h : w.cell? a = some va ∧ w.cell? b = some vb ∧ w.cell? c = some vc ∧ w.cell? d = some vd ∧ w.cell? e = some ve ∧ Below w0.heap.size w0 w) (hb : Below w.heap.size w w') :
    w'.cell? a = some va ∧ w'.cell? b = some vb ∧ w'.cell? c = some vc ∧ w'.cell? d = some vd ∧ w'.cell? e = some ve ∧ Below w0.heap.size w0 w' :=
  ⟨cell_keep hb h.1, cell_keep hb h.2.1, cell_keep hb h.2.2.1, cell_keep hb h.2.2.2.1, cell_keep hb h.2.2.2.2.1, bthen h.2.2.2.2.2 hb⟩

end Go.Proofs.Ytoidfmhkcnpjoaa
