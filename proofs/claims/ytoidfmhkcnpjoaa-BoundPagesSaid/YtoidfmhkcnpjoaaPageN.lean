/- Plain mathematics of page tables. -/
import Derived.Test.YtoidfmhkcnpjoaaPageM
import Derived.Test.YtoidfmhkcnpjoaaRow
namespace Go.Proofs.Ytoidfmhkcnpjoaa
open Go.RowKit

/-! Page tables. -/
structure Pg where
  kind : Int
  space : Int
  used : Int
  pins : Int
deriving DecidableEq
def Pg.zero : Pg := ⟨0, 0, 0, 0⟩
def Pg.vals (x : Pg) : List Value := [.int .i64 x.kind, .int .i64 x.space, .int .i64 x.used, .int .i64 x.pins]
def pvals (ps : List Pg) : List Value := ps.flatMap Pg.vals
theorem pvals_len (ps : List Pg) : (pvals ps).length = ps.length * 4 := flat_len Pg.vals 4 (fun _ => rfl) ps
theorem pvals_one (ps : List Pg) : ∀ v ∈ pvals ps, v.oneCell' = true := by
  intro v hv
  obtain ⟨x, _, hx⟩ := List.mem_flatMap.1 hv
  simp [Pg.vals] at hx
  rcases hx with rfl | rfl | rfl | rfl <;> rfl
theorem pvals_at (ps : List Pg) (k : Nat) (x : Pg) (h : ps[k]? = some x) : (pvals ps)[k * 4]? = some (.int .i64 x.kind) ∧ (pvals ps)[k * 4 + 1]? = some (.int .i64 x.space) ∧ (pvals ps)[k * 4 + 2]? = some (.int .i64 x.used) ∧ (pvals ps)[k * 4 + 3]? = some (.int .i64 x.pins) :=
  ⟨flat_at Pg.vals 4 (fun _ => rfl) ps k x 0 (by omega) h, flat_at Pg.vals 4 (fun _ => rfl) ps k x 1 (by omega) h, flat_at Pg.vals 4 (fun _ => rfl) ps k x 2 (by omega) h, flat_at Pg.vals 4 (fun _ => rfl) ps k x 3 (by omega) h⟩
theorem pvals_append (a b : List Pg) : pvals a ++ pvals b = pvals (a ++ b) := by simp [pvals]
/-- A stored page. -/
theorem pvals_set : ∀ (ps : List Pg) (k : Nat) (x : Pg), ((((pvals ps).set (k * 4) (.int .i64 x.kind)).set (k * 4 + 1) (.int .i64 x.space)).set (k * 4 + 2) (.int .i64 x.used)).set (k * 4 + 3) (.int .i64 x.pins) = pvals (ps.set k x)
  | [], k, x => by simp [pvals]
  | y :: r, 0, x => by simp [pvals, Pg.vals]
  | y :: r, k + 1, x => by
    have ih := pvals_set r k x
    have e : ∀ j, (k + 1) * 4 + j = (k * 4 + j) + 4 := fun j => by omega
    have e0 : (k + 1) * 4 = k * 4 + 4 := by omega
    rw [List.set_cons_succ, e0, show k * 4 + 4 + 1 = (k * 4 + 1) + 4 from by omega, show k * 4 + 4 + 2 = (k * 4 + 2) + 4 from by omega, show k * 4 + 4 + 3 = (k * 4 + 3) + 4 from by omega]
    have c : ∀ (l : List Value) (j : Nat) (u : Value), (y.vals ++ l).set (j + 4) u = y.vals ++ l.set j u := fun l j u => by simp [Pg.vals]
    rw [show pvals (y :: r) = y.vals ++ pvals r from rfl, show pvals (y :: r.set k x) = y.vals ++ pvals (r.set k x) from rfl, c, c, c, c, ih]
def PRow (w : World) (p : Option Addr) (n cap : Nat) (ps : List Pg) : Prop := VRow w 4 p n cap (pvals ps)
theorem PRow.len {w : World} {p : Option Addr} {n cap : Nat} {ps : List Pg} (h : PRow w p n cap ps) : ps.length = n := by
  have := VRow.len h; rw [pvals_len] at this; omega
theorem PRow.keep {w w' : World} {p : Option Addr} {n cap : Nat} {ps : List Pg} (h : PRow w p n cap ps) (hb : Below w.heap.size w w') : PRow w' p n cap ps := VRow.keep h hb
theorem PRow.i63 {w : World} {p : Option Addr} {n cap : Nat} {ps : List Pg} (h : PRow w p n cap ps) : (cap : Int) ≤ 9223372036854775807 ∧ (n : Int) ≤ 9223372036854775807 := VRow.i63 h
theorem PRow.nil (w : World) (p : Option Addr) : PRow w p 0 0 [] := VRow.nil w 4 p
theorem PRow.at_ {w : World} {p : Option Addr} {n cap : Nat} {ps : List Pg} (h : PRow w p n cap ps) {k : Nat} (hk : k < n) : ∃ x b off, ps[k]? = some x ∧ p = some ⟨b, off, none⟩ ∧
    w.cell? ⟨b, off + k * 4, none⟩ = some (.int .i64 x.kind) ∧ w.cell? ⟨b, off + k * 4 + 1, none⟩ = some (.int .i64 x.space) ∧ w.cell? ⟨b, off + k * 4 + 2, none⟩ = some (.int .i64 x.used) ∧ w.cell? ⟨b, off + k * 4 + 3, none⟩ = some (.int .i64 x.pins) := by
  obtain ⟨b, off, hp, hc⟩ := VRow.at_ h hk (by omega)
  have hx : ps[k]? = some (ps[k]'(by rw [h.len]; exact hk)) := List.getElem?_eq_getElem _
  obtain ⟨h0, h1, h2, h3⟩ := pvals_at ps k _ hx
  exact ⟨_, b, off, hx, hp, hc 0 _ h0, hc 1 _ h1, hc 2 _ h2, hc 3 _ h3⟩
theorem PRow.of_own {w : World} {base n : Nat} {e : TypeId} {v : Value} {ps : List Pg} (h : w.ownsRow base e 4 v n (pvals ps)) : ∃ p cap, v = .slice p n cap ∧ PRow w p n cap ps := VRow.of_own h

theorem getD_at {ps : List Pg} {i : Nat} {x : Pg} (h : ps[i]? = some x) : ps.getD i Pg.zero = x := by rw [List.getD_eq_getElem?_getD, h]; rfl
/-- Pages directly at the head that are tails of a space. -/
def tails (sp : Int) : List Pg → Nat
  | [] => 0
  | x :: r => if x.kind = 3 ∧ x.space = sp then tails sp r + 1 else 0
/-- Pages directly at the head that are tails. -/
def tailsAny : List Pg → Nat
  | [] => 0
  | x :: r => if x.kind = 3 then tailsAny r + 1 else 0
def inUse : List Pg → Nat
  | [] => 0
  | x :: r => (if x.kind = 0 then 0 else 1) + inUse r
theorem inUse_le : ∀ ps : List Pg, inUse ps ≤ ps.length
  | [] => Nat.le_refl _
  | x :: r => by have := inUse_le r; unfold inUse; rw [List.length_cons]; split <;> omega
theorem inUse_append : ∀ a b : List Pg, inUse (a ++ b) = inUse a + inUse b
  | [], b => by simp [inUse]
  | x :: r, b => by rw [List.cons_append, inUse, inUse, inUse_append r b]; omega
theorem inUse_take {ps : List Pg} {k : Nat} {x : Pg} (h : ps[k]? = some x) : inUse (ps.take (k + 1)) = inUse (ps.take k) + if x.kind = 0 then 0 else 1 := by
  rw [take_snoc' h, inUse_append]; simp [inUse]

/-- The runs of free pages. -/
def runStep (out : List (Int × Int)) (k : Int) (x : Pg) : List (Int × Int) :=
  if x.kind = 0 then (match out.getLast? with | some r => if r.1 + r.2 = k then out.dropLast ++ [(r.1, r.2 + 1)] else out ++ [(k, 1)] | none => [(k, 1)]) else out
def runsTo (ps : List Pg) : Nat → List (Int × Int)
  | 0 => []
  | k + 1 => match ps[k]? with | some x => runStep (runsTo ps k) k x | none => runsTo ps k
def runsV (ps : List Pg) : List (Int × Int) := runsTo ps ps.length
def firstV (ps : List Pg) (k : Int) : Int := match (runsV ps).find? (fun r => decide (1 ≤ k) && decide (k ≤ r.2)) with | some r => r.1 | none => -1

/-- Pages i to i + k - 1 made x. -/
def put (ps : List Pg) (i k : Nat) (x : Pg) : List Pg := ps.take i ++ List.replicate k x ++ ps.drop (i + k)
theorem put_zero (ps : List Pg) (i : Nat) (x : Pg) : put ps i 0 x = ps := by simp [put]
theorem put_len {ps : List Pg} {i k : Nat} {x : Pg} (h : i + k ≤ ps.length) : (put ps i k x).length = ps.length := by
  unfold put; rw [List.length_append, List.length_append, List.length_take, List.length_replicate, List.length_drop]; omega
theorem put_get {ps : List Pg} {i k : Nat} {x : Pg} (h : i + k ≤ ps.length) {j : Nat} (hj : i + k ≤ j ∨ j < i) : (put ps i k x)[j]? = ps[j]? := by
  unfold put
  rcases hj with hj | hj
  · rw [List.getElem?_append_right (by rw [List.length_append, List.length_take, List.length_replicate]; omega), List.getElem?_drop]
    congr 1
    rw [List.length_append, List.length_take, List.length_replicate]; omega
  · rw [List.append_assoc, List.getElem?_append_left (by rw [List.length_take]; omega), List.getElem?_take, if_pos hj]
theorem put_in {ps : List Pg} {i k : Nat} {x : Pg} (h : i + k ≤ ps.length) {j : Nat} (h1 : i ≤ j) (h2 : j < i + k) : (put ps i k x)[j]? = some x := by
  unfold put
  rw [List.append_assoc, List.getElem?_append_right (by rw [List.length_take]; omega), List.getElem?_append_left (by rw [List.length_take, List.length_replicate]; omega), List.getElem?_replicate, if_pos (by rw [List.length_take]; omega)]
theorem put_succ {ps : List Pg} {i k : Nat} {x : Pg} (h : i + k < ps.length) : (put ps i k x).set (i + k) x = put ps i (k + 1) x := by
  apply List.ext_getElem?
  intro j
  rw [List.getElem?_set]
  have hl : (put ps i k x).length = ps.length := put_len (by omega)
  by_cases hj : i + k = j
  · rw [if_pos hj, if_pos (by omega), put_in (by omega) (by omega) (by omega)]
  · rw [if_neg hj]
    by_cases h1 : i ≤ j ∧ j < i + k
    · rw [put_in (by omega) h1.1 h1.2, put_in (by omega) h1.1 (by omega)]
    · rw [put_get (by omega) (by omega), put_get (by omega) (by omega)]

/-- Are pages i to i + k - 1 free? -/
def freeB (ps : List Pg) (i k : Nat) : Bool := ((ps.drop i).take k).all fun x => decide (x.kind = 0)
theorem freeB_zero (ps : List Pg) (i : Nat) : freeB ps i 0 = true := by simp [freeB]
theorem freeB_succ {ps : List Pg} {i k : Nat} {x : Pg} (h : ps[i + k]? = some x) : freeB ps i (k + 1) = (freeB ps i k && decide (x.kind = 0)) := by
  unfold freeB
  rw [take_snoc' (l := ps.drop i) (k := k) (x := x) (by rw [List.getElem?_drop]; exact h), List.all_append]
  simp
theorem freeB_mono {ps : List Pg} {i k m : Nat} (h : freeB ps i k = true) (hm : m ≤ k) : freeB ps i m = true := by
  unfold freeB at *
  rw [List.all_eq_true] at *
  intro x hx
  refine h x ?_
  rw [show (ps.drop i).take m = ((ps.drop i).take k).take m from by rw [List.take_take, Nat.min_eq_left hm]] at hx
  exact List.mem_of_mem_take hx
def takeV (ps : List Pg) (i k : Int) (x y : Pg) : List Pg := if 0 ≤ i ∧ i < ps.length ∧ k ≤ ps.length - i then (if freeB ps i.toNat k.toNat then (put ps i.toNat k.toNat y).set i.toNat x else []) else []
def takeE (ps : List Pg) (i k : Int) : Int := if 0 ≤ i ∧ i < ps.length ∧ k ≤ ps.length - i then (if freeB ps i.toNat k.toNat then 0 else 20) else 2
def smallPV (ps : List Pg) (i sp : Int) : List Pg := if 0 ≤ sp ∧ sp ≤ 1 then takeV ps i 1 ⟨1, sp, 0, 0⟩ Pg.zero else []
def smallPE (ps : List Pg) (i sp : Int) : Int := if 0 ≤ sp ∧ sp ≤ 1 then takeE ps i 1 else 1
def largePV (pw np : Int) (ps : List Pg) (i sp n : Int) : List Pg := if 1 ≤ needV pw np n ∧ 0 ≤ sp ∧ sp ≤ 1 then takeV ps i (needV pw np n) ⟨2, sp, n, 0⟩ ⟨3, sp, 0, 0⟩ else []
def largePE (pw np : Int) (ps : List Pg) (i sp n : Int) : Int := if 1 ≤ needV pw np n ∧ 0 ≤ sp ∧ sp ≤ 1 then takeE ps i (needV pw np n) else 1
/-- How many pages from page i on are given back. -/
def freeN (ps : List Pg) (i : Nat) : Nat := if (ps.getD i Pg.zero).kind = 2 then tailsAny (ps.drop (i + 1)) else 0
def freePV (ps : List Pg) (i : Int) : List Pg := if 0 ≤ i ∧ i < ps.length then (if (ps.getD i.toNat Pg.zero).kind = 1 ∨ (ps.getD i.toNat Pg.zero).kind = 2 then (put ps (i.toNat + 1) (freeN ps i.toNat) Pg.zero).set i.toNat Pg.zero else []) else []
def freePE (ps : List Pg) (i : Int) : Int := if 0 ≤ i ∧ i < ps.length then (if (ps.getD i.toNat Pg.zero).kind = 1 ∨ (ps.getD i.toNat Pg.zero).kind = 2 then 0 else 20) else 2

/-- Proper page tables: page by page, with the tail pages still due. -/
def pinsB (n : Int) : Bool := decide (0 ≤ n ∧ n ≤ 2147483647)
def stepP (pw np : Int) (x : Pg) (r : List Pg) (due : Int) : Option Int :=
  if ¬ (x.kind = 3 ↔ 0 < due) ∨ x.space < 0 ∨ 1 < x.space ∨ pinsB x.pins = false then none
  else if x.kind = 0 then (if x = Pg.zero then some (max 0 (due - 1)) else none)
  else if x.kind = 1 then (if x.used < 0 ∨ pw < x.used then none else some (max 0 (due - 1)))
  else if x.kind = 2 then (if needV pw np x.used < 1 ∨ (tails x.space r : Int) < needV pw np x.used - 1 then none else some (max 0 (needV pw np x.used - 1)))
  else if x.kind = 3 then (if x.used = 0 ∧ x.pins = 0 then some (max 0 (due - 1)) else none)
  else none
def properL (pw np : Int) : List Pg → Int → Bool
  | [], _ => true
  | x :: r, due => match stepP pw np x r due with | some d => properL pw np r d | none => false
def bumpB (ps : List Pg) (b : Int) : Bool := decide (b = -1 ∨ (0 ≤ b ∧ b < ps.length ∧ (ps.getD b.toNat Pg.zero).kind = 1))
def properB (pw np : Int) (nw : Nat) (ps : List Pg) (sp b : Int) : Bool :=
  confB pw np && decide ((nw : Int) = np * pw) && decide ((ps.length : Int) = np) && decide (0 ≤ sp ∧ sp ≤ 1) && bumpB ps b && properL pw np ps 0
end Go.Proofs.Ytoidfmhkcnpjoaa
