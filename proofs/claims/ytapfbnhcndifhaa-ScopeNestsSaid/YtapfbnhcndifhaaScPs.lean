/- What play of layer 14 keeps from round to round. -/
import Derived.Test.YtapfbnhcndifhaaScPy
import Derived.Test.YtapfbnhcndifhaaScO
import Derived.Test.YtapfbnhcndifhaaScR
set_option linter.unusedVariables false
namespace Go.Proofs.Ytapfbnhcndifhaa
open Go.RowKit

structure Ac where
  k : Int
  sz : Int
  wh : Int
  rf : Int
def acC (a : Ac) : List Value := [.int .i64 a.k, .int .i64 a.sz, .int .i64 a.wh, .int .u64 a.rf]
theorem acC_len (a : Ac) : (acC a).length = 4 := rfl
theorem act_at {w : World} {p : Option Addr} {n c : Nat} {ac : List Ac} (h : VRow w 4 p n c (ac.flatMap acC)) {k : Nat} (hk : k < n) : ∃ s b off, ac[k]? = some s ∧ p = some ⟨b, off, none⟩ ∧ w.cell? ⟨b, off + k * 4, none⟩ = some (.int .i64 s.k) ∧ w.cell? ⟨b, off + k * 4 + 1, none⟩ = some (.int .i64 s.sz) ∧ w.cell? ⟨b, off + k * 4 + 2, none⟩ = some (.int .i64 s.wh) ∧ w.cell? ⟨b, off + k * 4 + 3, none⟩ = some (.int .u64 s.rf) := by
  have hl := h.len
  rw [flat_len _ 4 acC_len] at hl
  have hx : ac[k]? = some (ac[k]'(by omega)) := List.getElem?_eq_getElem _
  obtain ⟨b, off, hp, hc⟩ := h.at_ hk (by decide)
  refine ⟨_, b, off, hx, hp, hc 0 _ (flat_at acC 4 acC_len ac k _ 0 (by decide) hx), ?_, ?_, ?_⟩
  · rw [Nat.add_assoc]; exact hc 1 _ (flat_at acC 4 acC_len ac k _ 1 (by decide) hx)
  · rw [Nat.add_assoc]; exact hc 2 _ (flat_at acC 4 acC_len ac k _ 2 (by decide) hx)
  · rw [Nat.add_assoc]; exact hc 3 _ (flat_at acC 4 acC_len ac k _ 3 (by decide) hx)
theorem pair_at {w : World} {p : Option Addr} {n c : Nat} {ps : List (Int × Int)} (h : VRow w 2 p n c (ps.flatMap prC)) {k : Nat} (hk : k < n) : ∃ x b off, ps[k]? = some x ∧ p = some ⟨b, off, none⟩ ∧ w.cell? ⟨b, off + k * 2, none⟩ = some (.int .i64 x.1) ∧ w.cell? ⟨b, off + k * 2 + 1, none⟩ = some (.int .i64 x.2) := by
  have hl := h.len
  rw [flat_len _ 2 prC_len] at hl
  have hx : ps[k]? = some (ps[k]'(by omega)) := List.getElem?_eq_getElem _
  obtain ⟨b, off, hp, hc⟩ := h.at_ hk (by decide)
  refine ⟨_, b, off, hx, hp, hc 0 _ (flat_at prC 2 prC_len ps k _ 0 (by decide) hx), ?_⟩
  rw [Nat.add_assoc]; exact hc 1 _ (flat_at prC 2 prC_len ps k _ 1 (by decide) hx)

/-- The world of play between two acts: the box of its result, the rows that it makes. -/
structure PS (w0 w : World) (base : Nat) (qi : Option Addr) (ni ci : Nat) (qr : Option Addr) (nr cr : Nat) (l : Loc) (rs : List Int) (hi : Nat) : Prop where
  box : OwnL w w0.heap.size [.slice none 0 0, .slice none 0 0, .slice none 0 0]
  I : w.ownsRow base 42 2 (.slice qi ni ci) ni ((pairsFrom 0 l.is).flatMap prC)
  R : w.ownsRow base 38 1 (.slice qr nr cr) nr (ivals .u64 rs)
  IR : ∀ g, (Value.slice qi ni ci).ownBlock = some g → (Value.slice qr nr cr).ownBlock ≠ some g
  bel : Below w0.heap.size w0 w
  hI : ∀ g, (Value.slice qi ni ci).ownBlock = some g → g < hi
  hR : ∀ g, (Value.slice qr nr cr).ownBlock = some g → g < hi
  hb : w0.heap.size + 2 ≤ base
theorem PS.keep {w0 w w' : World} {base ni ci nr cr hi : Nat} {qi qr : Option Addr} {l : Loc} {rs : List Int} (h : PS w0 w base qi ni ci qr nr cr l rs hi) (hb : Below w.heap.size w w') : PS w0 w' base qi ni ci qr nr cr l rs hi :=
  ⟨h.box.keep hb (by have := cell_lt (h.box.cell 0 _ rfl); simpa using this), own_below h.I hb, own_below h.R hb, h.IR, bthen h.bel hb, h.hI, h.hR, h.hb⟩
theorem PS.cell {w0 w : World} {base ni ci nr cr hi : Nat} {qi qr : Option Addr} {l : Loc} {rs : List Int} (h : PS w0 w base qi ni ci qr nr cr l rs hi) (a : Addr) (x : Value) (ha : a.block = w0.heap.size + 1 ∨ hi ≤ a.block ∧ base ≤ a.block) : PS w0 (w.setCell a x) base qi ni ci qr nr cr l rs hi := by
  have hb := h.hb
  refine ⟨h.box.other a x (by omega), own_cell h.I a x fun e => ?_, own_cell h.R a x fun e => ?_, h.IR, h.bel.setCell (by omega) x, h.hI, h.hR, h.hb⟩
  · have h1 := h.hI _ e; have h2 := (h.I.lt _ e).1; omega
  · have h1 := h.hR _ e; have h2 := (h.R.lt _ e).1; omega
theorem PS.set3 {w0 w : World} {base ni ci nr cr hi B : Nat} {qi qr : Option Addr} {l : Loc} {rs : List Int} (h : PS w0 w base qi ni ci qr nr cr l rs hi) (x y z : Value) (ha : B = w0.heap.size + 1 ∨ hi ≤ B ∧ base ≤ B) : PS w0 (((w.setCell ⟨B, 0, none⟩ x).setCell ⟨B, 1, none⟩ y).setCell ⟨B, 2, none⟩ z) base qi ni ci qr nr cr l rs hi :=
  ((h.cell _ x ha).cell _ y ha).cell _ z ha
theorem PS.up {w0 w : World} {base ni ci nr cr hi hi' : Nat} {qi qr : Option Addr} {l : Loc} {rs : List Int} (h : PS w0 w base qi ni ci qr nr cr l rs hi) (hh : hi ≤ hi') : PS w0 w base qi ni ci qr nr cr l rs hi' :=
  ⟨h.box, h.I, h.R, h.IR, h.bel, fun g e => Nat.lt_of_lt_of_le (h.hI g e) hh, fun g e => Nat.lt_of_lt_of_le (h.hR g e) hh, h.hb⟩
theorem PS.loc {w0 w : World} {base ni ci nr cr hi : Nat} {qi qr : Option Addr} {l l' : Loc} {rs : List Int} (h : PS w0 w base qi ni ci qr nr cr l rs hi) (hl : l'.is = l.is) : PS w0 w base qi ni ci qr nr cr l' rs hi :=
  ⟨h.box, by rw [hl]; exact h.I, h.R, h.IR, h.bel, h.hI, h.hR, h.hb⟩
/-- What play answers. -/
def RetP (e : Ending) (w' : World) : Prop := ∃ l rs pa na ca pb nb cb pc nc cc qi ni ci qr nr cr, e = .returned (.tuple #[.agg #[.slice pa na ca, .slice pb nb cb, .slice pc nc cc], .slice qi ni ci, .slice qr nr cr, .bool true]) ∧ Pl l rs ∧ LRow w' pa na ca pb nb cb pc nc cc l ∧ VRow w' 2 qi ni ci ((pairsFrom 0 l.is).flatMap prC) ∧ SRow w' .u64 qr nr cr rs
theorem prC_noS (ps : List (Int × Int)) (p : Option Addr) (n c : Nat) : ∀ v ∈ ps.flatMap prC, v ≠ .slice p n c := by
  intro v hv e
  obtain ⟨s, _, h⟩ := List.mem_flatMap.1 hv
  subst e; simp [prC] at h
theorem own_srow64 {w : World} {B e n c : Nat} {p : Option Addr} {xs : List Int} (h : w.ownsRow B e 1 (.slice p n c) n (ivals .u64 xs)) : SRow w .u64 p n c xs := by
  obtain ⟨p', c', he, hr⟩ := SRow.of_own h
  cases he; exact hr
theorem PS.fin {w0 w : World} {base ni ci nr cr hi : Nat} {qi qr : Option Addr} {l : Loc} {rs : List Int} (h : PS w0 w base qi ni ci qr nr cr l rs hi) {pa pb pc : Option Addr} {na ca nb cb nc cc : Nat} (hr : LRow w pa na ca pb nb cb pc nc cc l) (hp : Pl l rs) (x y z : Value) :
    LRow (((w.setCell ⟨w0.heap.size, 0, none⟩ x).setCell ⟨w0.heap.size, 1, none⟩ y).setCell ⟨w0.heap.size, 2, none⟩ z) pa na ca pb nb cb pc nc cc l ∧
    VRow (((w.setCell ⟨w0.heap.size, 0, none⟩ x).setCell ⟨w0.heap.size, 1, none⟩ y).setCell ⟨w0.heap.size, 2, none⟩ z) 2 qi ni ci ((pairsFrom 0 l.is).flatMap prC) ∧
    SRow (((w.setCell ⟨w0.heap.size, 0, none⟩ x).setCell ⟨w0.heap.size, 1, none⟩ y).setCell ⟨w0.heap.size, 2, none⟩ z) .u64 qr nr cr rs ∧
    Below w0.heap.size w0 (((w.setCell ⟨w0.heap.size, 0, none⟩ x).setCell ⟨w0.heap.size, 1, none⟩ y).setCell ⟨w0.heap.size, 2, none⟩ z) := by
  have c0 := h.box.cell 0 _ rfl
  have c1 := (h.box.set 0 x (by simp)).cell 1 _ rfl
  have c2 := ((h.box.set 0 x (by simp)).set 1 y (by simp)).cell 2 _ rfl
  refine ⟨hr.set3 h.box x y z, (((own_vrow h.I).setS _ x _ c0 (prC_noS _ _ _ _)).setS _ y _ c1 (prC_noS _ _ _ _)).setS _ z _ c2 (prC_noS _ _ _ _), (((own_srow64 h.R).setOther _ _ x c0 (fun x e => by cases e)).setOther _ _ y c1 (fun x e => by cases e)).setOther _ _ z c2 (fun x e => by cases e), set3_below h.bel (Nat.le_refl _)⟩
theorem is_open {l : Loc} {c : Int} {b : Bool} (he : openE l c b = 0) : (openL l c b).is = l.is := by unfold openL; rw [if_pos he]
theorem is_del {l : Loc} {i st : Int} (he : findV l i st = 0) : (delL l i st).is = l.is := by unfold delL; rw [if_pos he]
theorem is_pop {l : Loc} (h : okB l = true) (he : popE l = 0) : (popL l).is = l.is := by
  cases hs : l.sc[l.sc.length - 1]? with
  | none =>
    unfold popE at he
    rw [h, if_neg (by decide), hs] at he
    cases he
  | some s => rw [popL_yes he hs]; rfl
theorem is_leave {l : Loc} (h : okB l = true) (he : leaveE l = 0) : (leaveL l).is = l.is := by
  cases hf : findB l.sc l.sc.length with
  | none => rw [(leave_none h hf).1] at he; cases he
  | some x =>
    obtain ⟨k, s⟩ := x
    rw [(leave_some h hf).2]; rfl
end Go.Proofs.Ytapfbnhcndifhaa
