/- Words for memory that name no function of the program: rows of numbers, cuts, appends, worlds that differ by draws or above a block; arguments opened to cells. -/
import Derived.Test.YtggaaobpaodigaaRows
import Derived.WalkKit
import Derived.WalkSpells
import Derived.WalkLawsBesides
import Derived.Lib.Hide
import Derived.Deep.QuietTactic
import Derived.BigQuiet
import Derived.OwnWalk
import Derived.StillTactics
import Derived.Laws.Pointers
import Derived.Laws.CopyOwn
import Derived.Deep.RegionLaw
import Derived.Deep.RegionHeld3
import Derived.Deep.AppendLies
import Derived.ProofKit
import Derived.Deep.Slices
import Derived.Deep.Fields
namespace Go.Proofs.Ytggaaobpaodigaa
open Go.RowKit

/-! The type of a word. -/
theorem infoU64 : (Try.prog.info? 29).map (fun i => (i.zero, i.size, i.bytes)) = some (some (.int .u64 0), 1, 8) := by kernel_rfl
theorem sizeU64 : (Try.prog.info? 29).map (·.size) = some 1 := by kernel_rfl

theorem infoInt : (Try.prog.info? 3).map (fun i => (i.zero, i.size, i.bytes)) = some (some (.int .i64 0), 1, 8) := by kernel_rfl
/-! Endings. -/
theorem ret_bool {a b : Bool} (h : a = b) : Ending.returned (.bool a) = .returned (.bool b) := by rw [h]
theorem ret_int {k : IntKind} {a b : Int} (h : a = b) : Ending.returned (.int k a) = .returned (.int k b) := by rw [h]
theorem ret_ints {k l : IntKind} {a b c d : Int} (h1 : a = b) (h2 : c = d) : Ending.returned (.tuple #[.int k a, .int l c]) = .returned (.tuple #[.int k b, .int l d]) := by rw [h1, h2]

/-! Worlds. -/
theorem cell_lt {w : World} {a : Addr} {v : Value} (h : w.cell? a = some v) : a.block < w.heap.size := by
  unfold World.cell? at h
  split at h
  · rename_i hb; exact (Array.getElem?_eq_some_iff.1 hb).1
  · cases h
theorem cell_keep {w w' : World} {a : Addr} {v : Value} (hb : Below w.heap.size w w') (h : w.cell? a = some v) : w'.cell? a = some v := by
  rw [hb.cell (cell_lt h), h]
/-- w' is w but for draws. -/
def Drawn (w w' : World) : Prop := ∃ d, w' = w.drewN d
theorem Drawn.refl (w : World) : Drawn w w := ⟨0, rfl⟩
theorem Drawn.step {w w' : World} (h : Drawn w w') (n : Nat) : Drawn w (w'.drewN n) := by
  obtain ⟨d, rfl⟩ := h; exact ⟨_, World.drewN_drewN _ _ _⟩
theorem Drawn.below {w w' : World} (h : Drawn w w') (B : Nat) : Below B w w' := by
  obtain ⟨d, rfl⟩ := h; exact below_drewN (Below.refl _ _) _
theorem Drawn.trans {a b c : World} (h : Drawn a b) (k : Drawn b c) : Drawn a c := by
  obtain ⟨d, rfl⟩ := h; obtain ⟨e, rfl⟩ := k; exact ⟨_, World.drewN_drewN _ _ _⟩
theorem below_of_alloc {w wr : World} {o : Obj} (hb : Below (w.heap.size + 1) (w.alloc o) wr) : Below w.heap.size w wr :=
  ((Below.refl _ _).alloc (Nat.le_refl _) _).trans (hb.mono (by omega))
theorem bthen {a b c : World} (h : Below a.heap.size a b) (k : Below b.heap.size b c) : Below a.heap.size a c := h.trans (k.mono h.size)

/-! Numbers. -/
theorem u64_of_wf {x : Int} (h : (Lit.int .u64 x).wf = true) : ∃ n : Nat, x = (n : Int) ∧ n < 18446744073709551616 := by
  have h1 : IntKind.u64.min = 0 := rfl
  have h2 : IntKind.u64.max = 18446744073709551615 := rfl
  simp only [Lit.wf, Bool.and_eq_true, decide_eq_true_eq] at h
  exact ⟨x.toNat, by omega, by omega⟩
theorem i64_of_wf {x : Int} (h : (Lit.int .i64 x).wf = true) : -9223372036854775808 ≤ x ∧ x ≤ 9223372036854775807 := by
  have h1 : IntKind.i64.min = -9223372036854775808 := rfl
  have h2 : IntKind.i64.max = 9223372036854775807 := rfl
  simp only [Lit.wf, Bool.and_eq_true, decide_eq_true_eq] at h
  omega
theorem take_snoc' {α : Type} {l : List α} {k : Nat} {x : α} (h : l[k]? = some x) : l.take (k + 1) = l.take k ++ [x] := by
  rw [List.take_add_one, h]; rfl

/-! Rows of numbers. -/
/-- The cells from p on are the numbers xs of kind kd. -/
def IRow (w : World) (kd : IntKind) (p : Option Addr) (xs : List Int) : Prop :=
  ∀ (i : Nat) (x : Int), xs[i]? = some x → ∃ b off, p = some ⟨b, off, none⟩ ∧ w.cell? ⟨b, off + i, none⟩ = some (.int kd x)
theorem IRow.keep {w w' : World} {kd : IntKind} {p : Option Addr} {xs : List Int} (h : IRow w kd p xs) (hb : Below w.heap.size w w') : IRow w' kd p xs := by
  intro i x hx
  obtain ⟨b, off, hp, h1⟩ := h i x hx
  exact ⟨b, off, hp, cell_keep hb h1⟩
theorem IRow.nil (w : World) (kd : IntKind) (p : Option Addr) : IRow w kd p [] := fun i x h => by simp at h
/-- Slice (p, n, cap) reads as the numbers xs of kind kd. -/
structure SRow (w : World) (kd : IntKind) (p : Option Addr) (n cap : Nat) (xs : List Int) : Prop where
  len : xs.length = n
  le : n ≤ cap
  max : cap ≤ maxLen
  row : IRow w kd p xs
theorem SRow.keep {w w' : World} {kd : IntKind} {p : Option Addr} {n cap : Nat} {xs : List Int} (h : SRow w kd p n cap xs) (hb : Below w.heap.size w w') : SRow w' kd p n cap xs := ⟨h.len, h.le, h.max, h.row.keep hb⟩
theorem SRow.nil (w : World) (kd : IntKind) (p : Option Addr) : SRow w kd p 0 0 [] := ⟨rfl, Nat.le_refl _, Nat.zero_le _, IRow.nil _ _ _⟩
theorem SRow.at_ {w : World} {kd : IntKind} {p : Option Addr} {n cap : Nat} {xs : List Int} (h : SRow w kd p n cap xs) {k : Nat} (hk : k < n) : ∃ x b off, xs[k]? = some x ∧ p = some ⟨b, off, none⟩ ∧ w.cell? ⟨b, off + k, none⟩ = some (.int kd x) := by
  have hx : xs[k]? = some (xs[k]'(by rw [h.len]; exact hk)) := List.getElem?_eq_getElem _
  obtain ⟨b, off, hp, hc⟩ := h.row k _ hx
  exact ⟨_, b, off, hx, hp, hc⟩
theorem SRow.i63 {w : World} {kd : IntKind} {p : Option Addr} {n cap : Nat} {xs : List Int} (h : SRow w kd p n cap xs) : (cap : Int) ≤ 9223372036854775807 ∧ (n : Int) ≤ 9223372036854775807 := by
  have h1 := h.max; have h2 := h.le; unfold maxLen at h1; omega

/-- A call returned a slice that reads as xs, and the error er. -/
def RetS (xs : List Int) (er : Int) (e : Ending) (w' : World) : Prop := ∃ q m c, e = .returned (.tuple #[.slice q m c, .int .i64 er]) ∧ SRow w' .u64 q m c xs
theorem RetS.nil (er : Int) (w : World) : RetS [] er (.returned (.tuple #[.slice none 0 0, .int .i64 er])) w := ⟨none, 0, 0, rfl, SRow.nil _ _ _⟩
theorem RetS.mk {xs ys : List Int} {er er' : Int} {w : World} {q : Option Addr} {m c : Nat} (h : SRow w .u64 q m c xs) (e1 : ys = xs) (e2 : er' = er) : RetS ys er' (.returned (.tuple #[.slice q m c, .int .i64 er])) w := by
  subst e1 e2; exact ⟨q, m, c, rfl, h⟩
theorem RetS.no {ys : List Int} {er er' : Int} {w : World} (e1 : ys = []) (e2 : er' = er) : RetS ys er' (.returned (.tuple #[.slice none 0 0, .int .i64 er])) w := by
  subst e1 e2; exact RetS.nil _ _

/-- The address of a cut: at the capacity's end it stays. -/
def cutP (p : Option Addr) (cap l : Nat) : Option Addr := if cap = l then p else p.map (·.add l)
theorem add_none (b off l : Nat) : (⟨b, off, none⟩ : Addr).add l = ⟨b, off + l, none⟩ := by unfold Addr.add; split <;> simp_all
theorem cutP_some {b off cap l : Nat} (h : cap ≠ l) : cutP (some ⟨b, off, none⟩) cap l = some ⟨b, off + l, none⟩ := by
  unfold cutP; rw [if_neg h]; simp [add_none]
theorem SRow.cut {w : World} {kd : IntKind} {p : Option Addr} {n cap : Nat} {xs : List Int} (h : SRow w kd p n cap xs) {l m : Nat} (hl : l + m ≤ n) : SRow w kd (cutP p cap l) m (cap - l) ((xs.drop l).take m) := by
  refine ⟨by rw [List.length_take, List.length_drop, h.len]; omega, by have := h.le; omega, by have := h.max; omega, fun i x hx => ?_⟩
  rw [List.getElem?_take] at hx
  split at hx
  · rw [List.getElem?_drop] at hx
    obtain ⟨b, off, rfl, hc⟩ := h.row _ x hx
    refine ⟨b, off + l, cutP_some (by have := h.le; omega), ?_⟩
    rw [Nat.add_assoc]; exact hc
  · cases hx

/-- Numbers as values. -/
def ivals (kd : IntKind) (xs : List Int) : List Value := xs.map (Value.int kd)
theorem ivals_len (kd : IntKind) (xs : List Int) : (ivals kd xs).length = xs.length := by simp [ivals]
theorem ivals_snoc (kd : IntKind) (xs : List Int) (x : Int) : ivals kd xs ++ [.int kd x] = ivals kd (xs ++ [x]) := by simp [ivals]
theorem ivals_append (kd : IntKind) (xs ys : List Int) : ivals kd xs ++ ivals kd ys = ivals kd (xs ++ ys) := by simp [ivals]
theorem ivals_set (kd : IntKind) (xs : List Int) (k : Nat) (u : Int) : (ivals kd xs).set k (.int kd u) = ivals kd (xs.set k u) := by
  simp [ivals, List.map_set]
theorem ivals_splice (kd : IntKind) (xs ys : List Int) (k : Nat) : splice (ivals kd xs) k (ivals kd ys) = ivals kd (splice xs k ys) := by
  simp [splice, ivals, List.map_take, List.map_drop]
theorem ivals_one (kd : IntKind) (xs : List Int) : ∀ v ∈ ivals kd xs, v.oneCell' = true := by
  intro v hv; obtain ⟨x, _, rfl⟩ := List.mem_map.1 hv; rfl
theorem ivals_get {kd : IntKind} {xs : List Int} {j : Nat} {v : Value} (h : (ivals kd xs)[j]? = some v) : ∃ x, xs[j]? = some x ∧ v = .int kd x := by
  rw [ivals, List.getElem?_map, Option.map_eq_some_iff] at h
  obtain ⟨x, hx, rfl⟩ := h; exact ⟨x, hx, rfl⟩
theorem ivals_at {kd : IntKind} {xs : List Int} {j : Nat} {x : Int} (h : xs[j]? = some x) : (ivals kd xs)[j]? = some (.int kd x) := by
  rw [ivals, List.getElem?_map, h]; rfl
theorem made_zeros (kd : IntKind) (n : Nat) : (madeCells #[Value.int kd 0] n).toList = ivals kd (List.replicate n 0) := by
  rw [toList_madeCells_one, ivals, List.map_replicate]
theorem splice_all {α : Type} (z xs : List α) (h : z.length = xs.length) : splice z 0 xs = xs := by
  unfold splice; rw [Nat.zero_add, ← h, List.drop_length]; simp
/-- What a copy of a row reads. -/
theorem IRow.src {w : World} {kd : IntKind} {p : Option Addr} {xs : List Int} (h : IRow w kd p xs) (hpos : 0 < (ivals kd xs).length) : ∃ ad, p = some ad ∧ ∀ j v, (ivals kd xs)[j]? = some v → w.cell? (ad.add j) = some v := by
  rw [ivals_len] at hpos
  obtain ⟨b, off, hp, _⟩ := h 0 _ (List.getElem?_eq_getElem hpos)
  refine ⟨_, hp, fun j v hv => ?_⟩
  obtain ⟨x, hx, rfl⟩ := ivals_get hv
  obtain ⟨b', off', hp', hc⟩ := h j x hx
  rw [hp] at hp'; injection hp' with e; injection e with e1 e2; subst e1 e2
  rw [add_none]; exact hc

/-- An owned row of numbers reads as them. -/
theorem IRow.of_own {w : World} {kd : IntKind} {base n : Nat} {e : TypeId} {v : Value} {xs : List Int} (h : w.ownsRow base e 1 v n (ivals kd xs)) : ∃ p cap, v = .slice p n cap ∧ xs.length = n ∧ IRow w kd p xs := by
  obtain ⟨hl, h2⟩ := h
  have hl' : xs.length = n := by simp only [ivals, List.length_map] at hl; omega
  rcases h2 with ⟨rfl, hn⟩ | ⟨g, cap, cur, hv, hg, hh, hn, hc, hs, ht⟩
  · refine ⟨none, 0, by rw [hn], hl', fun i x hx => ?_⟩
    have := (List.getElem?_eq_some_iff.1 hx).1
    omega
  · refine ⟨some ⟨g, 0, none⟩, cap, hv, hl', fun i x hx => ⟨g, 0, rfl, ?_⟩⟩
    have hi := (List.getElem?_eq_some_iff.1 hx).1
    have h3 : (ivals kd xs)[i]? = some (.int kd x) := by rw [ivals, List.getElem?_map, hx]; rfl
    rw [← ht, List.getElem?_take, if_pos (by omega), Array.getElem?_toList] at h3
    simp only [World.cell?, hh, Nat.zero_add]
    exact h3
theorem SRow.of_own {w : World} {kd : IntKind} {base n : Nat} {e : TypeId} {v : Value} {xs : List Int} (h : w.ownsRow base e 1 v n (ivals kd xs)) : ∃ p cap, v = .slice p n cap ∧ SRow w kd p n cap xs := by
  obtain ⟨p, cap, hv, hl, hr⟩ := IRow.of_own h
  refine ⟨p, cap, hv, hl, ?_, ?_, hr⟩
  · rcases h.2 with ⟨rfl, hn⟩ | ⟨g, cap', cur, hv', hg, hh, hn, hc, hs, ht⟩
    · omega
    · rw [hv] at hv'; injection hv' with _ _ e; omega
  · rcases h.2 with ⟨rfl, hn⟩ | ⟨g, cap', cur, hv', hg, hh, hn, hc, hs, ht⟩
    · injection hv with _ _ e; omega
    · rw [hv] at hv'; injection hv' with _ _ e; omega
/-- A block that is just these numbers. -/
def Blk (w : World) (g : Nat) (e : TypeId) (kd : IntKind) (xs : List Int) : Prop := w.heap[g]? = some (.cells (ivals kd xs).toArray e (0, 0))
theorem Blk.row {w : World} {g : Nat} {e : TypeId} {kd : IntKind} {xs : List Int} (h : Blk w g e kd xs) : IRow w kd (some ⟨g, 0, none⟩) xs := by
  intro i x hx
  refine ⟨g, 0, rfl, ?_⟩
  simp only [World.cell?, show w.heap[g]? = _ from h, Nat.zero_add]
  simpa using ivals_at (kd := kd) hx
theorem Blk.srow {w : World} {g n : Nat} {e : TypeId} {kd : IntKind} {xs : List Int} (h : Blk w g e kd xs) (hl : xs.length = n) (hm : n ≤ maxLen) : SRow w kd (some ⟨g, 0, none⟩) n n xs := ⟨hl, Nat.le_refl _, hm, h.row⟩
theorem Blk.of_own {w : World} {base g n : Nat} {e : TypeId} {kd : IntKind} {xs : List Int} (h : w.ownsRow base e 1 (.slice (some ⟨g, 0, none⟩) n n) n (ivals kd xs)) : base ≤ g ∧ Blk w g e kd xs := by
  rcases h.2 with ⟨h', _⟩ | ⟨g', cap', cur, h', hb, hg, hnc, hcm, hcs, htake⟩
  · simp at h'
  · simp only [Value.slice.injEq, Option.some.injEq, Addr.mk.injEq, and_true, true_and] at h'
    obtain ⟨rfl, rfl⟩ := h'
    refine ⟨hb, ?_⟩
    unfold Blk
    rw [List.take_of_length_le (by rw [Array.length_toList, hcs]; exact Nat.le_refl _)] at htake
    rw [hg, ← htake]
theorem Blk.lt {w : World} {g : Nat} {e : TypeId} {kd : IntKind} {xs : List Int} (h : Blk w g e kd xs) : g < w.heap.size := (Array.getElem?_eq_some_iff.1 h).1
theorem Blk.own {w : World} {base g n : Nat} {e : TypeId} {kd : IntKind} {xs : List Int} (h : Blk w g e kd xs) (hb : base ≤ g) (hl : xs.length = n) (hm : n ≤ maxLen) : w.ownsRow base e 1 (.slice (some ⟨g, 0, none⟩) n n) n (ivals kd xs) :=
  ⟨by rw [ivals_len]; omega, .inr ⟨g, n, _, rfl, hb, h, Nat.le_refl _, hm, by rw [List.size_toArray, ivals_len]; omega, by rw [List.take_of_length_le (by rw [List.toList_toArray, ivals_len]; omega)]⟩⟩

/-- What the call owns stays owned where only new memory is made. -/
theorem own_below {w w' : World} {B e size n : Nat} {v : Value} {xs : List Value} (h : w.ownsRow B e size v n xs) (hb : Below w.heap.size w w') : w'.ownsRow B e size v n xs := by
  refine ⟨h.1, ?_⟩
  rcases h.2 with hn | ⟨g, cap, cur, rfl, hg, hgg, rest⟩
  · exact .inl hn
  · exact .inr ⟨g, cap, cur, rfl, hg, by rw [hb.block g (Array.getElem?_eq_some_iff.1 hgg).1]; exact hgg, rest⟩
theorem own_append {w1 : World} {base k : Nat} {e : TypeId} {kd : IntKind} {v : Value} {ws : List Int} {x : Int} (h : w1.ownsRow base e 1 v (k + 1) (ivals kd (ws.take k) ++ [.int kd x])) (hx : ws[k]? = some x) : w1.ownsRow base e 1 v (k + 1) (ivals kd (ws.take (k + 1))) := by
  rw [take_snoc' hx, ← ivals_snoc]; exact h
/-- Behind an append to a row of the call's own: below the call's first block nothing has changed. -/
theorem below_append {W wr w1 : World} {o : Obj} {v : Value} {k : Nat} {e : TypeId} {s : Nat} {xs : List Value} (hb : Below W.heap.size W wr) (hown : wr.ownsRow W.heap.size e s v k xs) (hg : (wr.alloc o).grownBy w1 v.ownBlock) : Below W.heap.size W w1 :=
  (hb.alloc hb.size o).grown hg (by have := hb.size; simp; omega) (fun j hj => (hown.lt j hj).1)
theorem below_appendD {W wr w1 : World} {o : Obj} {v : Value} {k : Nat} {e : TypeId} {s : Nat} {xs : List Value} (hb : Below W.heap.size W wr) (hown : wr.ownsRow W.heap.size e s v k xs) (hg : (wr.alloc o).drew.grownBy w1 v.ownBlock) : Below W.heap.size W w1 :=
  (hb.alloc hb.size o).drew.grown hg (by have := hb.size; simp; omega) (fun j hj => (hown.lt j hj).1)

/-! Laws for the walk. -/
section
variable {P : Program} {w : World} {ops : Array Oper} {rest : List Oper} {o : Oper} {a : Act} {Q : Exit → Act → World → Prop}

/-- 's[l:h]'. -/
theorem wpList_cut (hgd : o.guard = none) (x l h : Operand) (t : TypeId) (ho : o.op = .slice t x (some l) (some h) none) (e : TypeId) (ht : P.underlying t = some (.slice e)) (hsz : (P.info? e).map (·.size) = some 1)
    (p : Option Addr) (n cap : Nat) (hx : a.eval x = .slice p n cap) (kl kh : IntKind) (L H : Int) (hl : a.eval l = .int kl L) (hh : a.eval h = .int kh H) (i m : Nat) (hL : L = i) (hH : H = (i : Int) + m) (hfit : i + m ≤ cap)
    (hK : wpList P ops Q rest (a.put o.dst (.slice (cutP p cap i) m (cap - i))) w) : wpList P ops Q (o :: rest) a w := by
  refine wpList_plain hgd fun K hK' => ?_
  have hte : P.underlying t = some (.slice (P.elem t)) := by simp [Program.elem, ht]
  have he : P.elem t = e := by have := hte.symm.trans ht; injection this with h1; injection h1
  obtain ⟨ii, hi, hs⟩ := Option.map_eq_some_iff.1 hsz
  subst hL
  have hrun : (Instr.sliceAt t (.slice p n cap) (some (.int kl (i : Int))) (some (.int kh H)) none).run P w = .ok (.slice (cutP p cap i) m (cap - i)) w := by
    have e2 : H.toNat - i = m := by omega
    rw [run_sliceAt_slice w t _ _ _ _ hte, run_slice_lh w t p n cap hte kl kh _ _ (by omega) (by omega) (by omega)]
    simp [sizeOf, typeInfo, he, hi, hs, Result.andThen, sliced, cutP, e2]
  unfold Oper.wp
  simp [execOp, ho, hx, hl, hh, hrun, Result.andThen]
  exact hK' _ _ hK

/-- 's[l:]'. -/
theorem wpList_cutFrom (hgd : o.guard = none) (x l : Operand) (t : TypeId) (ho : o.op = .slice t x (some l) none none) (e : TypeId) (ht : P.underlying t = some (.slice e)) (hsz : (P.info? e).map (·.size) = some 1)
    (p : Option Addr) (n cap : Nat) (hx : a.eval x = .slice p n cap) (kl : IntKind) (L : Int) (hl : a.eval l = .int kl L) (i : Nat) (hL : L = i) (hfit : i ≤ n)
    (hK : wpList P ops Q rest (a.put o.dst (.slice (cutP p cap i) (n - i) (cap - i))) w) : wpList P ops Q (o :: rest) a w := by
  refine wpList_plain hgd fun K hK' => ?_
  have hte : P.underlying t = some (.slice (P.elem t)) := by simp [Program.elem, ht]
  have he : P.elem t = e := by have := hte.symm.trans ht; injection this with h1; injection h1
  obtain ⟨ii, hi, hs⟩ := Option.map_eq_some_iff.1 hsz
  subst hL
  have hrun : (Instr.sliceAt t (.slice p n cap) (some (.int kl (i : Int))) none none).run P w = .ok (.slice (cutP p cap i) (n - i) (cap - i)) w := by
    rw [run_sliceAt_slice w t _ _ _ _ hte, run_slice_l w t p n cap hte kl _ (by omega) (by omega)]
    simp [sizeOf, typeInfo, he, hi, hs, Result.andThen, sliced, cutP]
  unfold Oper.wp
  simp [execOp, ho, hx, hl, hrun, Result.andThen]
  exact hK' _ _ hK

/-- 'append(s, x...)', s a row of the call's own, x whatever: cut, empty or nil. -/
theorem wpList_append_row (hgd : o.guard = none) (s x : Operand) (t : TypeId)
    (ho : o.op = .call { callee := .builtin .append, args := #[s, x], argTypes := #[t, t] })
    (base : Nat) (e : TypeId) (i : TypeInfo) (z : Value) (bytes : Nat) (ht : P.underlying t = some (.slice e)) (hi : P.info? e = some i) (hz : i.zero = some z)
    (hsize : i.size = 1) (hby : i.bytes = bytes) (hzs : z.cells.size = 1)
    (v : Value) (n : Nat) (xs : List Value) (hs : a.eval s = v) (hown : w.ownsRow base e 1 v n xs)
    (p : Option Addr) (m c : Nat) (kd : IntKind) (ys : List Int) (hx : a.eval x = .slice p m c) (hr : SRow w kd p m c ys)
    (h63 : n + m ≤ maxLen) (hbytes : (n + m) * bytes ≤ 140737488355328) (hbase : base ≤ w.heap.size)
    (h : ∀ v' w', w'.ownsRow base e 1 v' (n + m) (xs ++ ivals kd ys) → w.grownBy w' v.ownBlock → wpList P ops Q rest (a.put o.dst v') w') : wpList P ops Q (o :: rest) a w := by
  cases p with
  | none =>
    have hm : ys = [] := by
      rcases ys with _ | ⟨y, r⟩
      · rfl
      · obtain ⟨b, off, hp, _⟩ := hr.row 0 y rfl; cases hp
    subst hm
    have hm0 : m = 0 := by have := hr.len; simpa using this.symm
    subst hm0
    refine wpList_plain hgd fun K hK => ?_
    have hrun : (Builtin.append_ #[t, t] o.type #[v, .slice none 0 c]).run P w = .ok v w := by
      rcases hown.2 with ⟨rfl, rfl⟩ | ⟨g, cap, cur, rfl, _, _, hnc, _⟩
      · simp [Builtin.append_, run_underlying ht, sizeOf, typeInfo, hi, Builtin.lenOf, Builtin.firstCells]
      · simp [Builtin.append_, run_underlying ht, sizeOf, typeInfo, hi, Builtin.lenOf, Builtin.firstCells, hnc, storeCells]
    unfold Oper.wp
    simp [execOp, ho, resolve, invoke, builtin, hs, hx, hrun, Result.andThen]
    exact hK _ _ (h v w (by simpa [ivals] using hown) ⟨rfl, rfl, rfl, Nat.le_refl _, fun _ _ _ => rfl⟩)
  | some ad =>
    refine wpList_append_own _ hgd s x t ho base e i z 1 bytes ht hi hz hsize hby hzs (by omega) v n xs hs hown ad m c (ivals kd ys) hx (by rw [ivals_len, hr.len]; omega) ?_ (ivals_one _ _) h63 hbytes hbase fun v' w' h1 h2 _ => h v' w' h1 h2
    intro j u hu
    obtain ⟨y, hy, rfl⟩ := ivals_get hu
    obtain ⟨b, off, hp, hc⟩ := hr.row j y hy
    injection hp with hp; subst hp
    rw [add_none]; exact hc
end

/-! Arguments opened to cells. -/
section
open Go.ChangeShapes Go.WideShapes Go.Deep
theorem list_of {α : Type} {Q : Nat → α → Prop} : ∀ (n : Nat), (∀ i, i < n → ∃ x, Q i x) → ∃ l : List α, l.length = n ∧ ∀ i x, l[i]? = some x → Q i x
  | 0, _ => ⟨[], rfl, fun i x h => by simp at h⟩
  | n + 1, h => by
    obtain ⟨l, hl, hq⟩ := list_of n fun i hi => h i (by omega)
    obtain ⟨x, hx⟩ := h n (by omega)
    refine ⟨l ++ [x], by simp [hl], fun i y hy => ?_⟩
    by_cases hi : i < l.length
    · rw [List.getElem?_append_left hi] at hy; exact hq i y hy
    · have hn : i = n := by
        have := (List.getElem?_eq_some_iff.1 hy).1
        rw [List.length_append, List.length_singleton] at this; omega
      subst hn
      rw [List.getElem?_append_right (by omega)] at hy
      simp [hl] at hy
      subst hy; exact hx
variable {H : Type} {enc : TypeId × Value → H} {P : Program} {w : World} {spare : Nat → Bool} {held : Bool}

/-- A slice that reads: each element's cells, and that they read. -/
theorem open_row {t e : TypeId} {a0 : Option Addr} {len cap C : Nat} {d : DataW H} {p : List MemPlace} (ht : P.underlying t = some (.slice e)) (hC : P.cellsOf e = C) (hC0 : 0 < C)
    (h : DataW.Trod enc P w 0 spare held t (.slice a0 len cap) d p) :
    len ≤ cap ∧ cap ≤ maxLen ∧ ∀ i, i < len → ∃ b off cs n y, a0 = some ⟨b, off, none⟩ ∧ cs.length = C ∧ (∀ j, j < C → w.cell? ⟨b, off + i * C + j, none⟩ = cs[j]?) ∧ DataW.trod enc P w 0 spare held n e cs = some y := by
  obtain ⟨fuel, hf⟩ := h
  rcases open_slice ht hf with ⟨hcs, _⟩ | ⟨a, len', cap', m, n, D, Pl, hcs, hb, hl, hm, hmm, hx, hi⟩
  · simp [Value.cells] at hcs
    obtain ⟨_, rfl, rfl⟩ := hcs
    exact ⟨Nat.zero_le _, Nat.zero_le _, fun i hi => by omega⟩
  · simp [Value.cells] at hcs
    obtain ⟨rfl, rfl, rfl⟩ := hcs
    have hlm : len ≤ m := by rw [hmm]; split <;> omega
    refine ⟨hl, hm, fun i hilt => ?_⟩
    obtain ⟨b, off, spot⟩ := a
    have hspot : spot = none := by
      obtain ⟨cs0, hc0, _⟩ := hi 0 (by omega)
      obtain ⟨_, hl0, hat0⟩ := World.cells?_some hc0
      have := hat0 0 (by omega)
      have hz : cs0[0]? = some (cs0[0]'(by omega)) := List.getElem?_eq_getElem (by omega)
      rw [hz] at this
      simpa [Addr.add] using World.cell?_spot this
    subst hspot
    obtain ⟨cs', hc, ht'⟩ := hi i (by omega)
    obtain ⟨_, hcl, hat⟩ := World.cells?_some hc
    rw [hC] at hcl hat
    refine ⟨b, off, cs', n, _, rfl, hcl, fun j hj => ?_, ht'⟩
    rw [← hat j hj]
    congr 1
    simp only [Addr.add]
    split <;> split <;> simp_all

theorem open_srow {t e : TypeId} {k : IntKind} {a0 : Option Addr} {len cap : Nat} {d : DataW H} {p : List MemPlace} (ht : P.underlying t = some (.slice e)) (he : P.underlying e = some (.int k)) (hC : P.cellsOf e = 1)
    (h : DataW.Trod enc P w 0 spare held t (.slice a0 len cap) d p) : ∃ xs : List Int, SRow w k a0 len cap xs ∧ ∀ x ∈ xs, (Lit.int k x).wf = true := by
  obtain ⟨hlc, hm, hr⟩ := open_row ht hC (by omega) h
  obtain ⟨xs, hl, hq⟩ := list_of (Q := fun i (x : Int) => (∃ b off, a0 = some ⟨b, off, none⟩ ∧ w.cell? ⟨b, off + i, none⟩ = some (.int k x)) ∧ (Lit.int k x).wf = true) len fun i hi => by
    obtain ⟨b, off, cs, n, y, ha, hcl, hat, hy⟩ := hr i hi
    obtain ⟨x, rfl, _, hw⟩ := DataW.trod_int he hy
    exact ⟨x, ⟨b, off, ha, by have := hat 0 (by omega); simpa using this⟩, hw⟩
  exact ⟨xs, ⟨hl, hlc, hm, fun i x hx => (hq i x hx).1⟩, fun x hx => by obtain ⟨i, hi⟩ := List.getElem?_of_mem hx; exact (hq i x hi).2⟩

/-- A struct whose fields have one cell each: each field's cell, and that it reads. -/
theorem open_cells {e : TypeId} {fs : Array Field} {n : Nat} {cs : List Value} {y : DataW H × List MemPlace} (he : P.underlying e = some (.struct fs)) (hone : oneCellFields P fs = true) (hC : P.cellsOf e = fs.size) (h : DataW.trod enc P w 0 spare held n e cs = some y) :
    ∀ (j : Nat) (f : Field), fs[j]? = some f → ∃ v n' y', cs[j]? = some v ∧ DataW.trod enc P w 0 spare held n' f.type [v] = some y' := by
  obtain ⟨ys, n', _, _, hcl, hyl, hf⟩ := DataW.trod_struct he h
  intro j f hj
  obtain ⟨ho, hk⟩ := hone_of hone j f hj
  have hjl : j < fs.size := (Array.getElem?_eq_some_iff.1 hj).1
  have h1 := hf j f hj
  rw [ho, hk] at h1
  have hys : ys[j]? = some (ys[j]'(by omega)) := List.getElem?_eq_getElem (by omega)
  rw [hys] at h1
  have hc : j < cs.length := by omega
  refine ⟨cs[j], n', ys[j]'(by omega), List.getElem?_eq_getElem hc, ?_⟩
  rw [List.drop_eq_getElem_cons hc] at h1
  exact h1
end
end Go.Proofs.Ytggaaobpaodigaa
