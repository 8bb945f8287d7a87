/- Plain answers of layer 14: local handles and scopes. -/
import Derived.Test.YtapfbnhcndifhaaRow
namespace Go.Proofs.Ytapfbnhcndifhaa
open Go.RowKit

/-- A slot, a scope, local handles. -/
structure Sl where
  st : Int
  rf : Int
  lv : Bool
  deriving DecidableEq
structure Sp where
  fr : Int
  cp : Int
  bs : Bool
  deriving DecidableEq
structure Loc where
  sl : List Sl
  sc : List Sp
  is : List Int
  deriving DecidableEq
def slC (s : Sl) : List Value := [.int .i64 s.st, .int .u64 s.rf, .bool s.lv]
def spC (s : Sp) : List Value := [.int .i64 s.fr, .int .i64 s.cp, .bool s.bs]
theorem slC_len (s : Sl) : (slC s).length = 3 := rfl
theorem spC_len (s : Sp) : (spC s).length = 3 := rfl
/-- How many slots are live. -/
def cnt : List Sl → Nat
  | [] => 0
  | s :: r => if s.lv then cnt r + 1 else cnt r
theorem cnt_append : ∀ (a b : List Sl), cnt (a ++ b) = cnt a + cnt b
  | [], b => by simp [cnt]
  | s :: r, b => by rw [List.cons_append, cnt, cnt, cnt_append r b]; split <;> omega
theorem cnt_le : ∀ a : List Sl, cnt a ≤ a.length
  | [] => Nat.le_refl _
  | s :: r => by have := cnt_le r; rw [cnt, List.length_cons]; split <;> omega
theorem cnt_take {l : List Sl} {k : Nat} {s : Sl} (h : l[k]? = some s) : cnt (l.take (k + 1)) = cnt (l.take k) + if s.lv then 1 else 0 := by
  rw [take_snoc' h, cnt_append]; simp only [cnt]; try (split <;> omega)
/-- The end of the slots of scope k. -/
def endOf (l : Loc) (k : Nat) : Int := match l.sc[k + 1]? with
  | some s => s.fr
  | none => l.sl.length
def issAll (xs : List Int) : Bool := decide (xs.length ≤ 4096) && xs.all fun x => decide (0 ≤ x) && decide (x < 4096)
def issB (is : List Int) (i st : Int) : Bool := decide (1 ≤ st) && decide (st ≤ is.length) && (is[(st - 1).toNat]? == some i)
def capB (c : Int) : Bool := decide (0 ≤ c) && decide (c ≤ 64)
/-- The slots from a up to b. -/
def part (sl : List Sl) (a b : Int) : List Sl := (sl.drop a.toNat).take (b - a).toNat
def spanB (sl : List Sl) (s : Sp) (e : Int) : Bool := capB s.cp && decide (s.fr ≤ e) && decide (e ≤ sl.length) && decide ((cnt (part sl s.fr e) : Int) ≤ s.cp)
def allSp (l : Loc) : Bool := (List.range l.sc.length).all fun k => match l.sc[k]? with
  | some s => spanB l.sl s (endOf l k)
  | none => true
def okSc (l : Loc) : Bool := match l.sc[0]? with
  | none => decide (l.sl.length = 0)
  | some s => decide (s.fr = 0) && s.bs && decide (l.sc.length ≤ 64) && allSp l
def prevSt (sl : List Sl) : Nat → Int
  | 0 => 0
  | j + 1 => match sl[j]? with
    | some s => s.st
    | none => 0
def slotB (l : Loc) (i : Nat) (s : Sl) : Bool := decide (prevSt l.sl i < s.st) && issB l.is i s.st && (s.lv == decide (s.rf ≠ 0))
def okSl (l : Loc) : Bool := (List.range l.sl.length).all fun i => match l.sl[i]? with
  | some s => slotB l i s
  | none => true
/-- Valid local handles. -/
def okB (l : Loc) : Bool := issAll l.is && okSc l && okSl l

theorem all_range {n : Nat} {f : Nat → Bool} : (List.range n).all f = true ↔ ∀ i, i < n → f i = true := by simp [List.all_eq_true]
theorem all_range_no {n : Nat} {f : Nat → Bool} {i : Nat} (h : i < n) (hf : f i = false) : (List.range n).all f = false := by
  rw [← Bool.not_eq_true]; intro h'; rw [all_range.1 h' i h] at hf; cases hf
theorem issAll_iff {xs : List Int} : issAll xs = true ↔ xs.length ≤ 4096 ∧ ∀ x ∈ xs, 0 ≤ x ∧ x < 4096 := by
  simp [issAll, List.all_eq_true]
theorem issAll_long {xs : List Int} (h : 4096 < xs.length) : issAll xs = false := by
  rw [← Bool.not_eq_true]; intro h'; have := (issAll_iff.1 h').1; omega
theorem issAll_bad {xs : List Int} {k : Nat} {x : Int} (h : xs[k]? = some x) (hx : x < 0 ∨ 4096 ≤ x) : issAll xs = false := by
  rw [← Bool.not_eq_true]; intro h'; have := (issAll_iff.1 h').2 x (List.mem_of_getElem? h); omega
theorem issAll_good {xs : List Int} (h : xs.length ≤ 4096) (hx : ∀ j x, j < xs.length → xs[j]? = some x → 0 ≤ x ∧ x < 4096) : issAll xs = true :=
  issAll_iff.2 ⟨h, fun x hm => by obtain ⟨j, hj⟩ := List.getElem?_of_mem hm; exact hx j x (List.getElem?_eq_some_iff.1 hj).1 hj⟩
theorem issB_iff {is : List Int} {i st : Int} : issB is i st = true ↔ 1 ≤ st ∧ st ≤ is.length ∧ is[(st - 1).toNat]? = some i := by
  simp [issB, and_assoc]
theorem issB_lo {is : List Int} {i st : Int} (h : st < 1) : issB is i st = false := by
  rw [← Bool.not_eq_true, issB_iff]; omega
theorem issB_hi {is : List Int} {i st : Int} (h : (is.length : Int) < st) : issB is i st = false := by
  rw [← Bool.not_eq_true, issB_iff]; omega
theorem issB_mid {is : List Int} {i st x : Int} {k : Nat} (h1 : 1 ≤ st) (h2 : st ≤ is.length) (hk : st - 1 = (k : Int)) (hx : is[k]? = some x) : issB is i st = (x == i) := by
  have e : (st - 1).toNat = k := by omega
  rw [Bool.eq_iff_iff, issB_iff, e, hx]; simp; omega
theorem capB_iff {c : Int} : capB c = true ↔ 0 ≤ c ∧ c ≤ 64 := by simp [capB]

/-- The three slices of local handles read as l. -/
structure LRow (w : World) (pa : Option Addr) (na ca : Nat) (pb : Option Addr) (nb cb : Nat) (pc : Option Addr) (nc cc : Nat) (l : Loc) : Prop where
  sl : VRow w 3 pa na ca (l.sl.flatMap slC)
  sc : VRow w 3 pb nb cb (l.sc.flatMap spC)
  is : SRow w .i64 pc nc cc l.is
theorem LRow.keep {w w' : World} {pa pb pc : Option Addr} {na ca nb cb nc cc : Nat} {l : Loc} (h : LRow w pa na ca pb nb cb pc nc cc l) (hb : Below w.heap.size w w') : LRow w' pa na ca pb nb cb pc nc cc l :=
  ⟨h.sl.keep hb, h.sc.keep hb, h.is.keep hb⟩
theorem LRow.lens {w : World} {pa pb pc : Option Addr} {na ca nb cb nc cc : Nat} {l : Loc} (h : LRow w pa na ca pb nb cb pc nc cc l) : l.sl.length = na ∧ l.sc.length = nb ∧ l.is.length = nc := by
  have h1 := h.sl.len; have h2 := h.sc.len
  rw [flat_len _ 3 slC_len] at h1; rw [flat_len _ 3 spC_len] at h2
  exact ⟨by omega, by omega, h.is.len⟩
theorem LRow.i63 {w : World} {pa pb pc : Option Addr} {na ca nb cb nc cc : Nat} {l : Loc} (h : LRow w pa na ca pb nb cb pc nc cc l) : (na : Int) ≤ 9223372036854775807 ∧ (nb : Int) ≤ 9223372036854775807 ∧ (nc : Int) ≤ 9223372036854775807 := ⟨h.sl.i63.2, h.sc.i63.2, h.is.i63.2⟩
/-- The cells of slot k. -/
theorem slot_at {w : World} {p : Option Addr} {n c : Nat} {sl : List Sl} (h : VRow w 3 p n c (sl.flatMap slC)) {k : Nat} (hk : k < n) : ∃ s b off, sl[k]? = some s ∧ p = some ⟨b, off, none⟩ ∧ w.cell? ⟨b, off + k * 3, none⟩ = some (.int .i64 s.st) ∧ w.cell? ⟨b, off + k * 3 + 1, none⟩ = some (.int .u64 s.rf) ∧ w.cell? ⟨b, off + k * 3 + 2, none⟩ = some (.bool s.lv) := by
  have hl := h.len
  rw [flat_len _ 3 slC_len] at hl
  have hx : sl[k]? = some (sl[k]'(by omega)) := List.getElem?_eq_getElem _
  obtain ⟨b, off, hp, hc⟩ := h.at_ hk (by decide)
  refine ⟨_, b, off, hx, hp, hc 0 _ (flat_at slC 3 slC_len sl k _ 0 (by decide) hx), ?_, ?_⟩
  · rw [Nat.add_assoc]; exact hc 1 _ (flat_at slC 3 slC_len sl k _ 1 (by decide) hx)
  · rw [Nat.add_assoc]; exact hc 2 _ (flat_at slC 3 slC_len sl k _ 2 (by decide) hx)
theorem scope_at {w : World} {p : Option Addr} {n c : Nat} {sc : List Sp} (h : VRow w 3 p n c (sc.flatMap spC)) {k : Nat} (hk : k < n) : ∃ s b off, sc[k]? = some s ∧ p = some ⟨b, off, none⟩ ∧ w.cell? ⟨b, off + k * 3, none⟩ = some (.int .i64 s.fr) ∧ w.cell? ⟨b, off + k * 3 + 1, none⟩ = some (.int .i64 s.cp) ∧ w.cell? ⟨b, off + k * 3 + 2, none⟩ = some (.bool s.bs) := by
  have hl := h.len
  rw [flat_len _ 3 spC_len] at hl
  have hx : sc[k]? = some (sc[k]'(by omega)) := List.getElem?_eq_getElem _
  obtain ⟨b, off, hp, hc⟩ := h.at_ hk (by decide)
  refine ⟨_, b, off, hx, hp, hc 0 _ (flat_at spC 3 spC_len sc k _ 0 (by decide) hx), ?_, ?_⟩
  · rw [Nat.add_assoc]; exact hc 1 _ (flat_at spC 3 spC_len sc k _ 1 (by decide) hx)
  · rw [Nat.add_assoc]; exact hc 2 _ (flat_at spC 3 spC_len sc k _ 2 (by decide) hx)
/-- A cut of slots. -/
theorem flat_cut {α : Type} (f : α → List Value) (s : Nat) (hf : ∀ x, (f x).length = s) : ∀ (l : List α) (a : Nat), (l.flatMap f).drop (a * s) = (l.drop a).flatMap f
  | l, 0 => by simp
  | [], a + 1 => by simp
  | x :: r, a + 1 => by
    rw [List.flatMap_cons, Nat.add_mul, Nat.one_mul, Nat.add_comm, List.drop_append, List.drop_of_length_le (by rw [hf]; omega), List.nil_append, hf, Nat.add_sub_cancel_left, flat_cut f s hf r a, List.drop_succ_cons]
theorem flat_take {α : Type} (f : α → List Value) (s : Nat) (hf : ∀ x, (f x).length = s) : ∀ (l : List α) (a : Nat), (l.flatMap f).take (a * s) = (l.take a).flatMap f
  | l, 0 => by simp
  | [], a + 1 => by simp
  | x :: r, a + 1 => by
    rw [List.flatMap_cons, Nat.add_mul, Nat.one_mul, Nat.add_comm, List.take_append, List.take_of_length_le (by rw [hf]; omega), hf, Nat.add_sub_cancel_left, flat_take f s hf r a, List.take_succ_cons, List.flatMap_cons]
end Go.Proofs.Ytapfbnhcndifhaa
