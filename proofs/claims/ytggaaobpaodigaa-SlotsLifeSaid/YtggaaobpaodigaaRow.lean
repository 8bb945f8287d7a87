/- Rows of structs: slices whose cells are known, whatever their elements' size. -/
import Derived.Test.YtggaaobpaodigaaKit
namespace Go.Proofs.Ytggaaobpaodigaa
open Go.RowKit

theorem below_box {w : World} {o : Obj} : Below w.heap.size w (w.alloc o) := (Below.refl _ _).alloc (Nat.le_refl _) _
/-- A cell of a boxed struct behind calls that made memory alone. -/
theorem box_cell {w w1 : World} {cs : Array Value} {T : TypeId} (hb : Below (w.alloc (.cells cs T)).heap.size (w.alloc (.cells cs T)) w1) (i : Nat) {v : Value} (h : cs[i]? = some v) : w1.cell? ⟨w.heap.size, i, none⟩ = some v := by
  rw [hb.cell (by simp)]; simp [h]
theorem below_boxed {w w1 : World} {o : Obj} (hb : Below (w.alloc o).heap.size (w.alloc o) w1) : Below w.heap.size w w1 := below_of_alloc (by simpa using hb)
theorem ret_int3 {k l m : IntKind} {a b c d e f : Int} (h1 : a = b) (h2 : c = d) (h3 : e = f) : Ending.returned (.tuple #[.int k a, .int l c, .int m e]) = .returned (.tuple #[.int k b, .int l d, .int m f]) := by rw [h1, h2, h3]

/-- A boxed struct of three fields behind a call that made memory alone. -/
theorem box3 {w w1 : World} {a b c : Value} {T : TypeId} (hb : Below (w.heap.size + 1) (w.alloc (.cells #[a, b, c] T)) w1) :
    w1.cell? ⟨w.heap.size, 0, none⟩ = some a ∧ w1.cell? ⟨w.heap.size, 1, none⟩ = some b ∧ w1.cell? ⟨w.heap.size, 2, none⟩ = some c := by
  refine ⟨?_, ?_, ?_⟩ <;> (rw [hb.cell (by simp)]; simp)
/-- Block b is a struct of three fields that may be written. -/
structure Own3 (w : World) (b : Nat) (x y z : Value) : Prop where
  c0 : w.cell? ⟨b, 0, none⟩ = some x
  c1 : w.cell? ⟨b, 1, none⟩ = some y
  c2 : w.cell? ⟨b, 2, none⟩ = some z
  f0 : w.frozen? ⟨b, 0, none⟩ = false
  f1 : w.frozen? ⟨b, 1, none⟩ = false
  f2 : w.frozen? ⟨b, 2, none⟩ = false
theorem Own3.keep {w w' : World} {b : Nat} {x y z : Value} (h : Own3 w b x y z) (hb : Below w.heap.size w w') : Own3 w' b x y z := by
  have hl : b < w.heap.size := cell_lt h.c0
  have hc : ∀ o, w'.cell? ⟨b, o, none⟩ = w.cell? ⟨b, o, none⟩ := fun o => hb.cell (p := ⟨b, o, none⟩) hl
  have hf : ∀ o, w'.frozen? ⟨b, o, none⟩ = w.frozen? ⟨b, o, none⟩ := fun o => hb.frozen (p := ⟨b, o, none⟩) hl
  exact ⟨by rw [hc]; exact h.c0, by rw [hc]; exact h.c1, by rw [hc]; exact h.c2, by rw [hf]; exact h.f0, by rw [hf]; exact h.f1, by rw [hf]; exact h.f2⟩
theorem Own3.new (w : World) (x y z : Value) (T : TypeId) : Own3 (w.alloc (.cells #[x, y, z] T)) w.heap.size x y z := by
  constructor <;> simp
theorem below_set3 {B : Nat} {w w1 : World} {b : Nat} {x y z : Value} (h : Below B w w1) (hb : B ≤ b) : Below B w (((w1.setCell ⟨b, 0, none⟩ x).setCell ⟨b, 1, none⟩ y).setCell ⟨b, 2, none⟩ z) :=
  ((h.setCell hb x).setCell hb y).setCell hb z

/-- A call returned a slice of ints that reads as xs. -/
def RetI (xs : List Int) (e : Ending) (w' : World) : Prop := ∃ q m c, e = .returned (.slice q m c) ∧ SRow w' .i64 q m c xs
theorem RetI.nil (w : World) : RetI [] (.returned (.slice none 0 0)) w := ⟨none, 0, 0, rfl, SRow.nil _ _ _⟩

/-- Slice (p, n, cap) of elements of s cells reads as the cells vs. -/
structure VRow (w : World) (s : Nat) (p : Option Addr) (n cap : Nat) (vs : List Value) : Prop where
  len : vs.length = n * s
  le : n ≤ cap
  max : cap ≤ maxLen
  row : ∀ (i : Nat) (v : Value), vs[i]? = some v → ∃ b off, p = some ⟨b, off, none⟩ ∧ w.cell? ⟨b, off + i, none⟩ = some v
theorem VRow.keep {w w' : World} {s : Nat} {p : Option Addr} {n cap : Nat} {vs : List Value} (h : VRow w s p n cap vs) (hb : Below w.heap.size w w') : VRow w' s p n cap vs :=
  ⟨h.len, h.le, h.max, fun i v hv => by obtain ⟨b, off, hp, hc⟩ := h.row i v hv; exact ⟨b, off, hp, cell_keep hb hc⟩⟩
theorem VRow.nil (w : World) (s : Nat) (p : Option Addr) : VRow w s p 0 0 [] := ⟨by simp, Nat.le_refl _, Nat.zero_le _, fun i v h => by simp at h⟩
theorem VRow.i63 {w : World} {s : Nat} {p : Option Addr} {n cap : Nat} {vs : List Value} (h : VRow w s p n cap vs) : (cap : Int) ≤ 9223372036854775807 ∧ (n : Int) ≤ 9223372036854775807 := by
  have h1 := h.max; have h2 := h.le; unfold maxLen at h1; omega
theorem VRow.of_own {w : World} {base s n : Nat} {e : TypeId} {v : Value} {vs : List Value} (h : w.ownsRow base e s v n vs) : ∃ p cap, v = .slice p n cap ∧ VRow w s p n cap vs := by
  obtain ⟨hl, h2⟩ := h
  rcases h2 with ⟨rfl, hn⟩ | ⟨g, cap, cur, hv, hg, hh, hn, hc, hs, ht⟩
  · subst hn; exact ⟨none, 0, rfl, hl, Nat.le_refl _, Nat.zero_le _, fun i v hv => by
      have := (List.getElem?_eq_some_iff.1 hv).1; rw [hl] at this; omega⟩
  · refine ⟨some ⟨g, 0, none⟩, cap, hv, hl, hn, hc, fun i v hv => ⟨g, 0, rfl, ?_⟩⟩
    have hi := (List.getElem?_eq_some_iff.1 hv).1
    rw [← ht, List.getElem?_take, if_pos (by omega), Array.getElem?_toList] at hv
    simp only [World.cell?, hh, Nat.zero_add]
    exact hv
/-- The cells of element k. -/
theorem VRow.at_ {w : World} {s : Nat} {p : Option Addr} {n cap : Nat} {vs : List Value} (h : VRow w s p n cap vs) {k : Nat} (hk : k < n) (hs : 0 < s) : ∃ b off, p = some ⟨b, off, none⟩ ∧ ∀ j v, vs[k * s + j]? = some v → w.cell? ⟨b, off + (k * s + j), none⟩ = some v := by
  have hlt : k * s < vs.length := by rw [h.len]; exact Nat.mul_lt_mul_of_pos_right hk hs
  obtain ⟨b, off, hp, _⟩ := h.row (k * s) _ (List.getElem?_eq_getElem hlt)
  refine ⟨b, off, hp, fun j v hv => ?_⟩
  obtain ⟨b', off', hp', hc⟩ := h.row _ v hv
  rw [hp] at hp'; injection hp' with e; injection e with e1 e2; subst e1 e2
  exact hc

section
variable {P : Program} {w : World} {ops : Array Oper} {rest : List Oper} {o : Oper} {a : Act} {Q : Exit → Act → World → Prop}
/-- 'append(s, x...)', s a row of the call's own, x any slice that reads. -/
theorem wpList_append_vrow (hgd : o.guard = none) (s x : Operand) (t : TypeId)
    (ho : o.op = .call { callee := .builtin .append, args := #[s, x], argTypes := #[t, t] })
    (base : Nat) (e : TypeId) (i : TypeInfo) (z : Value) (size bytes : Nat) (ht : P.underlying t = some (.slice e)) (hi : P.info? e = some i) (hz : i.zero = some z)
    (hsize : i.size = size) (hby : i.bytes = bytes) (hzs : z.cells.size = size) (hsz : 0 < size)
    (v : Value) (n : Nat) (xs : List Value) (hs : a.eval s = v) (hown : w.ownsRow base e size v n xs)
    (p : Option Addr) (m c : Nat) (ys : List Value) (hx : a.eval x = .slice p m c) (hr : VRow w size p m c ys) (h1 : ∀ u ∈ ys, u.oneCell' = true)
    (h63 : n + m ≤ maxLen) (hbytes : (n + m) * bytes ≤ 140737488355328) (hbase : base ≤ w.heap.size)
    (h : ∀ v' w', w'.ownsRow base e size v' (n + m) (xs ++ ys) → w.grownBy w' v.ownBlock → wpList P ops Q rest (a.put o.dst v') w') : wpList P ops Q (o :: rest) a w := by
  cases p with
  | none =>
    have hm : ys = [] := by
      rcases ys with _ | ⟨y, r⟩
      · rfl
      · obtain ⟨b, off, hp, _⟩ := hr.row 0 y rfl; cases hp
    subst hm
    have hm0 : m = 0 := by
      have := hr.len
      simp only [List.length_nil] at this
      rcases Nat.eq_zero_or_pos m with h0 | h0
      · exact h0
      · have := Nat.mul_pos h0 hsz; omega
    subst hm0
    refine wpList_plain hgd fun K hK => ?_
    have hrun : (Builtin.append_ #[t, t] o.type #[v, .slice none 0 c]).run P w = .ok v w := by
      rcases hown.2 with ⟨rfl, rfl⟩ | ⟨g, cap, cur, rfl, _, _, hnc, _⟩
      · simp [Builtin.append_, run_underlying ht, sizeOf, typeInfo, hi, Builtin.lenOf, Builtin.firstCells]
      · simp [Builtin.append_, run_underlying ht, sizeOf, typeInfo, hi, Builtin.lenOf, Builtin.firstCells, hnc, storeCells]
    unfold Oper.wp
    simp [execOp, ho, resolve, invoke, builtin, hs, hx, hrun, Result.andThen]
    exact hK _ _ (h v w (by simpa using hown) ⟨rfl, rfl, rfl, Nat.le_refl _, fun _ _ _ => rfl⟩)
  | some ad =>
    refine wpList_append_own _ hgd s x t ho base e i z size bytes ht hi hz hsize hby hzs hsz v n xs hs hown ad m c ys hx hr.len ?_ h1 h63 hbytes hbase fun v' w' h1 h2 _ => h v' w' h1 h2
    intro j u hu
    obtain ⟨b, off, hp, hc⟩ := hr.row j u hu
    injection hp with hp; subst hp
    rw [add_none]; exact hc
end

/-- A slice that lies in block B or later, or nowhere. -/
def Fresh (B : Nat) (p : Option Addr) : Prop := ∀ ad, p = some ad → B ≤ ad.block
theorem fresh_none (B : Nat) : Fresh B none := fun ad h => by cases h
theorem fresh_some {B g off : Nat} (h : B ≤ g) : Fresh B (some ⟨g, off, none⟩) := fun ad e => by cases e; exact h
theorem Fresh.mono {B C : Nat} {p : Option Addr} (h : Fresh B p) (hc : C ≤ B) : Fresh C p := fun ad e => Nat.le_trans hc (h ad e)
/-- A row of numbers of one kind, where a cell that is no such number is stored to. -/
theorem SRow.setOther {w : World} {kd : IntKind} {p : Option Addr} {n cap : Nat} {xs : List Int} (h : SRow w kd p n cap xs) (a : Addr) (u v : Value) (hc : w.cell? a = some u) (hu : ∀ x, u ≠ .int kd x) : SRow (w.setCell a v) kd p n cap xs := by
  refine ⟨h.len, h.le, h.max, fun i x hx => ?_⟩
  obtain ⟨b, off, hp, hcell⟩ := h.row i x hx
  refine ⟨b, off, hp, ?_⟩
  have hne : (⟨b, off + i, none⟩ : Addr) ≠ a := fun e => by rw [e, hc] at hcell; exact hu x (Option.some.inj hcell)
  rw [World.cell?_setCell_other _ _ _ _ (Ne.symm hne)]; exact hcell

/-! Elements of several cells. -/
theorem flat_len {α : Type} (f : α → List Value) (s : Nat) (hf : ∀ x, (f x).length = s) : ∀ xs : List α, (xs.flatMap f).length = xs.length * s
  | [] => by simp
  | x :: r => by rw [List.flatMap_cons, List.length_append, hf, flat_len f s hf r, List.length_cons, Nat.add_mul, Nat.one_mul]; omega
theorem flat_at {α : Type} (f : α → List Value) (s : Nat) (hf : ∀ x, (f x).length = s) : ∀ (xs : List α) (k : Nat) (x : α) (j : Nat), j < s → xs[k]? = some x → (xs.flatMap f)[k * s + j]? = (f x)[j]?
  | [], k, x, j, _, h => by simp at h
  | y :: r, 0, x, j, hj, h => by
    simp at h; subst h
    rw [List.flatMap_cons, Nat.zero_mul, Nat.zero_add, List.getElem?_append_left (by rw [hf]; exact hj)]
  | y :: r, k + 1, x, j, hj, h => by
    rw [List.getElem?_cons_succ] at h
    have e : (k + 1) * s + j = (f y).length + (k * s + j) := by rw [hf, Nat.add_mul, Nat.one_mul]; omega
    rw [List.flatMap_cons, e, List.getElem?_append_right (by omega), Nat.add_sub_cancel_left]
    exact flat_at f s hf r k x j hj h
theorem flat_snoc {α : Type} (f : α → List Value) (xs : List α) (x : α) : xs.flatMap f ++ f x = (xs ++ [x]).flatMap f := by simp
end Go.Proofs.Ytggaaobpaodigaa
