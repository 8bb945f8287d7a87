/- What SlotsLife keeps in memory from act to act. -/
import Derived.Test.YtggaaobpaodigaaSlY
import Derived.Maps.AppendAt
import Derived.Test.YtggaaobpaodigaaScSt
set_option linter.unusedVariables false
namespace Go.Proofs.Ytggaaobpaodigaa
open Go.RowKit

def prD (p : Int × Int) : List Value := [.int .i64 p.1, .int .i64 p.2]
theorem prD_len (p : Int × Int) : (prD p).length = 2 := rfl
def bvals (gn : List Bool) : List Value := gn.map Value.bool
theorem bvals_len (gn : List Bool) : (bvals gn).length = gn.length := by simp [bvals]
theorem bvals_snoc (gn : List Bool) (x : Bool) : bvals gn ++ [.bool x] = bvals (gn ++ [x]) := by simp [bvals]
theorem bvals_set (gn : List Bool) (k : Nat) (x : Bool) : (bvals gn).set k (.bool x) = bvals (gn.set k x) := by unfold bvals; rw [List.map_set]
theorem infoPr15 : (Try.prog.info? 35).map (fun i => (i.zero, i.size, i.bytes)) = some (some (.agg #[.int .i64 0, .int .i64 0]), 2, 16) := by kernel_rfl
theorem infoBo : (Try.prog.info? 4).map (fun i => (i.zero, i.size, i.bytes)) = some (some (.bool false), 1, 1) := by kernel_rfl
/-- Rows of different types lie in different blocks. -/
theorem apartT {w : World} {b e s n b' e' s' n' : Nat} {v v' : Value} {xs xs' : List Value} (h : w.ownsRow b e s v n xs) (h' : w.ownsRow b' e' s' v' n' xs') (hne : e ≠ e') : v.ownBlock = none ∨ v.ownBlock ≠ v'.ownBlock := by
  rcases h.2 with ⟨rfl, _⟩ | ⟨g, cap, cur, rfl, hg, hh, _⟩
  · exact .inl rfl
  · refine .inr fun e1 => ?_
    rcases h'.2 with ⟨rfl, _⟩ | ⟨g', cap', cur', rfl, hg', hh', _⟩
    · simp [Value.ownBlock] at e1
    · simp [Value.ownBlock] at e1
      subst e1
      rw [hh] at hh'
      injection hh' with hh'
      injection hh' with _ hh'
      exact hne hh'
/-- A block that holds one element. -/
def PB (w : World) (b : Nat) (cs : List Value) (T : TypeId) : Prop := w.heap[b]? = some (.cells cs.toArray T (0, 0))
theorem PB.keep {w w' : World} {b T : Nat} {cs : List Value} (h : PB w b cs T) (hb : Below w.heap.size w w') : PB w' b cs T := (hb.block _ (Array.getElem?_eq_some_iff.1 h).1).trans h
theorem PB.grown {w w' : World} {b T B e s n : Nat} {cs : List Value} {v : Value} {xs : List Value} (h : PB w b cs T) (hr : w.ownsRow B e s v n xs) (hg : w.grownBy w' v.ownBlock) (hne : e ≠ T) : PB w' b cs T := by
  refine (hg.block b (Array.getElem?_eq_some_iff.1 h).1 fun e1 => ?_).trans h
  rcases hr.2 with ⟨rfl, _⟩ | ⟨g', cap', cur', rfl, hg', hh', _⟩
  · simp [Value.ownBlock] at e1
  · simp [Value.ownBlock] at e1
    subst e1
    unfold PB at h
    rw [h] at hh'
    injection hh' with hh'
    injection hh' with _ hh'
    exact hne hh'.symm
theorem PB.row {w : World} {b T s : Nat} {cs : List Value} (h : PB w b cs T) (hs : cs.length = s) : VRow w s (some ⟨b, 0, none⟩) 1 1 cs :=
  ⟨by simp [hs], Nat.le_refl _, by decide, fun i v hv => ⟨b, 0, rfl, by rw [Nat.zero_add, cell_of_row w b i cs.toArray T (0, 0) h]; simpa using hv⟩⟩

structure LS (w0 w : World) (B0 BT : Nat) (p : Option Addr) (n c : Nat) (t : List En) (qi : Option Addr) (ni ci : Nat) (is : List (Int × Int)) (qr : Option Addr) (nr cr : Nat) (rs : List Int) (qg : Option Addr) (ng cg : Nat) (gn : List Bool) : Prop where
  box : OwnL w BT [.slice p n c]
  T : w.ownsRow B0 54 3 (.slice p n c) n (t.flatMap enC)
  I : w.ownsRow B0 35 2 (.slice qi ni ci) ni (is.flatMap prD)
  R : w.ownsRow B0 29 1 (.slice qr nr cr) nr (ivals .u64 rs)
  G : w.ownsRow B0 4 1 (.slice qg ng cg) ng (bvals gn)
  bel : Below w0.heap.size w0 w
  lo : w0.heap.size ≤ BT
  mid : BT < B0
  hi : B0 ≤ w.heap.size
section
variable {w0 w w' : World} {B0 BT : Nat} {p : Option Addr} {n c : Nat} {t : List En} {qi : Option Addr} {ni ci : Nat} {is : List (Int × Int)} {qr : Option Addr} {nr cr : Nat} {rs : List Int} {qg : Option Addr} {ng cg : Nat} {gn : List Bool}
theorem LS.keep (h : LS w0 w B0 BT p n c t qi ni ci is qr nr cr rs qg ng cg gn) (hb : Below w.heap.size w w') : LS w0 w' B0 BT p n c t qi ni ci is qr nr cr rs qg ng cg gn :=
  ⟨h.box.keep hb (boxLt h.box), own_below h.T hb, own_below h.I hb, own_below h.R hb, own_below h.G hb, bthen h.bel hb, h.lo, h.mid, Nat.le_trans h.hi hb.size⟩
theorem LS.ne (h : LS w0 w B0 BT p n c t qi ni ci is qr nr cr rs qg ng cg gn) {e s m : Nat} {v : Value} {xs : List Value} (hr : w.ownsRow B0 e s v m xs) : v.ownBlock ≠ some BT := fun e1 => by have := (hr.lt _ e1).1; have := h.mid; omega
/-- The table is another one. -/
theorem LS.store (h : LS w0 w B0 BT p n c t qi ni ci is qr nr cr rs qg ng cg gn) {q : Option Addr} {m d : Nat} {t' : List En} (hT : w.ownsRow B0 54 3 (.slice q m d) m (t'.flatMap enC)) : LS w0 (w.setCell ⟨BT, 0, none⟩ (.slice q m d)) B0 BT q m d t' qi ni ci is qr nr cr rs qg ng cg gn :=
  ⟨h.box.set 0 _ (by simp), cellS hT _ _ (h.ne hT), cellS h.I _ _ (h.ne h.I), cellS h.R _ _ (h.ne h.R), cellS h.G _ _ (h.ne h.G), h.bel.setCell h.lo _, h.lo, h.mid, by simpa using h.hi⟩
theorem LS.appI (h : LS w0 w B0 BT p n c t qi ni ci is qr nr cr rs qg ng cg gn) {q : Option Addr} {d : Nat} {x : Int × Int} (ho : w'.ownsRow B0 35 2 (.slice q (ni + 1) d) (ni + 1) (is.flatMap prD ++ prD x)) (hg : w.grownBy w' (Value.slice qi ni ci).ownBlock) :
    LS w0 w' B0 BT p n c t q (ni + 1) d (is ++ [x]) qr nr cr rs qg ng cg gn :=
  ⟨boxG h.box hg (boxLt h.box) (Ne.symm (h.ne h.I)), grownS h.T hg (apartT h.T h.I (by decide)), by rw [← flat_snoc]; exact ho, grownS h.R hg (apartT h.R h.I (by decide)), grownS h.G hg (apartT h.G h.I (by decide)), belowG h.bel h.I hg (by have := h.lo; have := h.mid; omega) (by have := h.lo; have := h.mid; have := h.hi; omega), h.lo, h.mid, by have := h.hi; have := hg.size; omega⟩
theorem LS.appR (h : LS w0 w B0 BT p n c t qi ni ci is qr nr cr rs qg ng cg gn) {q : Option Addr} {d : Nat} {x : Int} (ho : w'.ownsRow B0 29 1 (.slice q (nr + 1) d) (nr + 1) (ivals .u64 rs ++ [.int .u64 x])) (hg : w.grownBy w' (Value.slice qr nr cr).ownBlock) :
    LS w0 w' B0 BT p n c t qi ni ci is q (nr + 1) d (rs ++ [x]) qg ng cg gn :=
  ⟨boxG h.box hg (boxLt h.box) (Ne.symm (h.ne h.R)), grownS h.T hg (apartT h.T h.R (by decide)), grownS h.I hg (apartT h.I h.R (by decide)), by rw [← ivals_snoc]; exact ho, grownS h.G hg (apartT h.G h.R (by decide)), belowG h.bel h.R hg (by have := h.lo; have := h.mid; omega) (by have := h.lo; have := h.mid; have := h.hi; omega), h.lo, h.mid, by have := h.hi; have := hg.size; omega⟩
theorem LS.appG (h : LS w0 w B0 BT p n c t qi ni ci is qr nr cr rs qg ng cg gn) {q : Option Addr} {d : Nat} {x : Bool} (ho : w'.ownsRow B0 4 1 (.slice q (ng + 1) d) (ng + 1) (bvals gn ++ [.bool x])) (hg : w.grownBy w' (Value.slice qg ng cg).ownBlock) :
    LS w0 w' B0 BT p n c t qi ni ci is qr nr cr rs q (ng + 1) d (gn ++ [x]) :=
  ⟨boxG h.box hg (boxLt h.box) (Ne.symm (h.ne h.G)), grownS h.T hg (apartT h.T h.G (by decide)), grownS h.I hg (apartT h.I h.G (by decide)), grownS h.R hg (apartT h.R h.G (by decide)), by rw [← bvals_snoc]; exact ho, belowG h.bel h.G hg (by have := h.lo; have := h.mid; omega) (by have := h.lo; have := h.mid; have := h.hi; omega), h.lo, h.mid, by have := h.hi; have := hg.size; omega⟩
theorem LS.setG {g : Nat} (h : LS w0 w B0 BT p n c t qi ni ci is qr nr cr rs (some ⟨g, 0, none⟩) ng cg gn) (k : Nat) (x : Bool) : LS w0 (w.setCell ⟨g, k, none⟩ (.bool x)) B0 BT p n c t qi ni ci is qr nr cr rs (some ⟨g, 0, none⟩) ng cg (gn.set k x) := by
  have hg := (h.G.lt g rfl)
  have ap : ∀ {e s m : Nat} {v : Value} {xs : List Value}, w.ownsRow B0 e s v m xs → e ≠ 4 → v.ownBlock ≠ some g := fun hr hne e1 => by
    rcases apartT hr h.G hne with h1 | h1
    · rw [h1] at e1; cases e1
    · exact h1 e1
  exact ⟨h.box.other _ _ (by have := h.mid; simp only; omega), cellS h.T _ _ (ap h.T (by decide)), cellS h.I _ _ (ap h.I (by decide)), cellS h.R _ _ (ap h.R (by decide)), by rw [← bvals_set]; exact (h.G.stored k (.bool x)).1, h.bel.setCell (by have := h.lo; have := h.mid; simp only; omega) _, h.lo, h.mid, by simpa using h.hi⟩
theorem LS.setR {g : Nat} (h : LS w0 w B0 BT p n c t qi ni ci is (some ⟨g, 0, none⟩) nr cr rs qg ng cg gn) (k : Nat) (x : Int) : LS w0 (w.setCell ⟨g, k, none⟩ (.int .u64 x)) B0 BT p n c t qi ni ci is (some ⟨g, 0, none⟩) nr cr (rs.set k x) qg ng cg gn := by
  have hg := (h.R.lt g rfl)
  have ap : ∀ {e s m : Nat} {v : Value} {xs : List Value}, w.ownsRow B0 e s v m xs → e ≠ 29 → v.ownBlock ≠ some g := fun hr hne e1 => by
    rcases apartT hr h.R hne with h1 | h1
    · rw [h1] at e1; cases e1
    · exact h1 e1
  exact ⟨h.box.other _ _ (by have := h.mid; simp only; omega), cellS h.T _ _ (ap h.T (by decide)), cellS h.I _ _ (ap h.I (by decide)), by rw [← ivals_set]; exact (h.R.stored k (.int .u64 x)).1, cellS h.G _ _ (ap h.G (by decide)), h.bel.setCell (by have := h.lo; have := h.mid; simp only; omega) _, h.lo, h.mid, by simpa using h.hi⟩
theorem LS.len (h : LS w0 w B0 BT p n c t qi ni ci is qr nr cr rs qg ng cg gn) : is.length = ni ∧ rs.length = nr ∧ gn.length = ng := by
  have h1 := h.I.1; have h2 := h.R.1; have h3 := h.G.1
  rw [flat_len _ 2 prD_len] at h1
  rw [ivals_len] at h2
  rw [bvals_len] at h3
  omega
/-- The cells of pair k, of reference k, of flag k. -/
theorem LS.pair (h : LS w0 w B0 BT p n c t qi ni ci is qr nr cr rs qg ng cg gn) {k : Nat} (hk : k < ni) : ∃ i g b, is[k]? = some (i, g) ∧ qi = some ⟨b, 0, none⟩ ∧ w.cell? ⟨b, k * 2, none⟩ = some (.int .i64 i) ∧ w.cell? ⟨b, k * 2 + 1, none⟩ = some (.int .i64 g) := by
  obtain ⟨b, rfl, _, _⟩ := someS h.I (by omega)
  have hl := h.len.1
  obtain ⟨⟨i, g⟩, hx⟩ : ∃ x, is[k]? = some x := ⟨_, List.getElem?_eq_getElem (by omega)⟩
  refine ⟨i, g, b, hx, rfl, ?_, ?_⟩
  · rw [h.I.cellAt _ (by omega)]; have := flat_at prD 2 prD_len is k _ 0 (by decide) hx; rw [Nat.add_zero] at this; exact this
  · rw [h.I.cellAt _ (by omega)]; exact flat_at prD 2 prD_len is k _ 1 (by decide) hx
theorem LS.ref (h : LS w0 w B0 BT p n c t qi ni ci is qr nr cr rs qg ng cg gn) {k : Nat} (hk : k < nr) : ∃ r b, rs[k]? = some r ∧ qr = some ⟨b, 0, none⟩ ∧ w.cell? ⟨b, k, none⟩ = some (.int .u64 r) ∧ w.frozen? ⟨b, k, none⟩ = false := by
  obtain ⟨b, rfl, _, _⟩ := someS h.R (by omega)
  have hl := h.len.2.1
  have hx : rs[k]? = some (rs[k]'(by omega)) := List.getElem?_eq_getElem _
  exact ⟨_, b, hx, rfl, by rw [h.R.cellAt _ (by omega)]; exact ivals_at hx, h.R.frozenAt _⟩
theorem LS.flag (h : LS w0 w B0 BT p n c t qi ni ci is qr nr cr rs qg ng cg gn) {k : Nat} (hk : k < ng) : ∃ x b, gn[k]? = some x ∧ qg = some ⟨b, 0, none⟩ ∧ w.cell? ⟨b, k, none⟩ = some (.bool x) ∧ w.frozen? ⟨b, k, none⟩ = false := by
  obtain ⟨b, rfl, _, _⟩ := someS h.G (by omega)
  have hl := h.len.2.2
  have hx : gn[k]? = some (gn[k]'(by omega)) := List.getElem?_eq_getElem _
  exact ⟨_, b, hx, rfl, by rw [h.G.cellAt _ (by omega)]; unfold bvals; rw [List.getElem?_map, hx]; rfl, h.G.frozenAt _⟩
end
structure Ac15 where
  k : Int
  wh : Int
  rf : Int
def aC (a : Ac15) : List Value := [.int .i64 a.k, .int .i64 a.wh, .int .u64 a.rf]
theorem aC_len (a : Ac15) : (aC a).length = 3 := rfl
theorem act15_at {w : World} {p : Option Addr} {n c : Nat} {ac : List Ac15} (h : VRow w 3 p n c (ac.flatMap aC)) {k : Nat} (hk : k < n) : ∃ s b off, ac[k]? = some s ∧ p = some ⟨b, off, none⟩ ∧ w.cell? ⟨b, off + k * 3, none⟩ = some (.int .i64 s.k) ∧ w.cell? ⟨b, off + k * 3 + 1, none⟩ = some (.int .i64 s.wh) ∧ w.cell? ⟨b, off + k * 3 + 2, none⟩ = some (.int .u64 s.rf) := by
  have hl := h.len
  rw [flat_len _ 3 aC_len] at hl
  have hx : ac[k]? = some (ac[k]'(by omega)) := List.getElem?_eq_getElem _
  obtain ⟨b, off, hp, hc⟩ := h.at_ hk (by decide)
  refine ⟨_, b, off, hx, hp, hc 0 _ (flat_at aC 3 aC_len ac k _ 0 (by decide) hx), ?_, ?_⟩
  · rw [Nat.add_assoc]; exact hc 1 _ (flat_at aC 3 aC_len ac k _ 1 (by decide) hx)
  · rw [Nat.add_assoc]; exact hc 2 _ (flat_at aC 3 aC_len ac k _ 2 (by decide) hx)
end Go.Proofs.Ytggaaobpaodigaa
