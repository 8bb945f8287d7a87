/- Contract of package scope: Delete. -/
import Derived.Test.YtapfbnhcndifhaaScN
set_option linter.unusedVariables false
set_option linter.unusedSimpArgs false
namespace Go.Proofs.Ytapfbnhcndifhaa
open Go.RowKit

theorem flat_set3 {α : Type} (f : α → List Value) (hf : ∀ x, (f x).length = 3) (y : α) {a b c : Value} (hy : f y = [a, b, c]) : ∀ (l : List α) (j : Nat), j < l.length → (((l.flatMap f).set (j * 3) a).set (j * 3 + 1) b).set (j * 3 + 2) c = (l.set j y).flatMap f
  | [], j, h => by simp at h
  | x :: r, 0, h => by
    obtain ⟨p, q, s, hx⟩ : ∃ p q s, f x = [p, q, s] := by
      have := hf x
      match hfx : f x, this with
      | [p, q, s], _ => exact ⟨p, q, s, rfl⟩
    simp [List.flatMap_cons, hx, hy]
  | x :: r, j + 1, h => by
    have ih := flat_set3 f hf y hy r j (by simpa using h)
    have e0 : (j + 1) * 3 = (f x).length + j * 3 := by rw [hf]; omega
    have e1 : (j + 1) * 3 + 1 = (f x).length + (j * 3 + 1) := by rw [hf]; omega
    have e2 : (j + 1) * 3 + 2 = (f x).length + (j * 3 + 2) := by rw [hf]; omega
    rw [e1, e2, e0, List.flatMap_cons, List.set_append_right _ _ (by omega), List.set_append_right _ _ (by omega), List.set_append_right _ _ (by omega)]
    simp only [Nat.add_sub_cancel_left, List.set_cons_succ, List.flatMap_cons]
    rw [ih]
/-- The cells of a slot of a row of one's own. -/
theorem own_slot {w : World} {base g n cap : Nat} {e : TypeId} {qs : List Sl} {j : Nat} {x : Sl} (h : w.ownsRow base e 3 (.slice (some ⟨g, 0, none⟩) n cap) n (qs.flatMap slC)) (hx : qs[j]? = some x) :
    (w.cell? ⟨g, j * 3, none⟩ = some (.int .i64 x.st) ∧ w.cell? ⟨g, j * 3 + 1, none⟩ = some (.int .u64 x.rf) ∧ w.cell? ⟨g, j * 3 + 2, none⟩ = some (.bool x.lv)) ∧
    w.frozen? ⟨g, j * 3, none⟩ = false ∧ w.frozen? ⟨g, j * 3 + 1, none⟩ = false ∧ w.frozen? ⟨g, j * 3 + 2, none⟩ = false := by
  have hl : qs.length = n := by have := h.1; rw [flat_len _ 3 slC_len] at this; omega
  have hj : j < n := by rw [← hl]; exact (List.getElem?_eq_some_iff.1 hx).1
  have h0 := flat_at slC 3 slC_len qs j x 0 (by decide) hx
  have h1 := flat_at slC 3 slC_len qs j x 1 (by decide) hx
  have h2 := flat_at slC 3 slC_len qs j x 2 (by decide) hx
  exact ⟨⟨by rw [h.cellAt _ (by omega)]; exact h0, by rw [h.cellAt _ (by omega)]; exact h1, by rw [h.cellAt _ (by omega)]; exact h2⟩, h.frozenAt _, h.frozenAt _, h.frozenAt _⟩
theorem own_setSl {w : World} {base g n cap : Nat} {e : TypeId} {qs : List Sl} (h : w.ownsRow base e 3 (.slice (some ⟨g, 0, none⟩) n cap) n (qs.flatMap slC)) (j : Nat) (hj : j < qs.length) (y : Sl) :
    (((w.setCell ⟨g, j * 3, none⟩ (.int .i64 y.st)).setCell ⟨g, j * 3 + 1, none⟩ (.int .u64 y.rf)).setCell ⟨g, j * 3 + 2, none⟩ (.bool y.lv)).ownsRow base e 3 (.slice (some ⟨g, 0, none⟩) n cap) n ((qs.set j y).flatMap slC) := by
  rw [← flat_set3 slC slC_len y rfl qs j hj]
  exact (((h.stored _ _).1.stored _ _).1.stored _ _).1
theorem OwnLoc.setSl {w : World} {B g : Nat} {pb pc : Option Addr} {na ca nb cb nc cc : Nat} {l : Loc} (h : OwnLoc w B (some ⟨g, 0, none⟩) na ca pb nb cb pc nc cc l) (j : Nat) (hj : j < l.sl.length) (y : Sl) :
    OwnLoc (((w.setCell ⟨g, j * 3, none⟩ (.int .i64 y.st)).setCell ⟨g, j * 3 + 1, none⟩ (.int .u64 y.rf)).setCell ⟨g, j * 3 + 2, none⟩ (.bool y.lv)) B (some ⟨g, 0, none⟩) na ca pb nb cb pc nc cc ⟨l.sl.set j y, l.sc, l.is⟩ :=
  ⟨own_setSl h.a j hj y, own_cell (own_cell (own_cell h.b _ _ (h.ab g rfl)) _ _ (h.ab g rfl)) _ _ (h.ab g rfl), own_cell (own_cell (own_cell h.c _ _ (h.ac g rfl)) _ _ (h.ac g rfl)) _ _ (h.ac g rfl), h.ab, h.ac, h.bc⟩
theorem OwnL.far3 {w : World} {b g : Nat} {vs : List Value} (h : OwnL w b vs) (o0 o1 o2 : Nat) (x y z : Value) (hne : g ≠ b) : OwnL (((w.setCell ⟨g, o0, none⟩ x).setCell ⟨g, o1, none⟩ y).setCell ⟨g, o2, none⟩ z) b vs := ((h.other _ x hne).other _ y hne).other _ z hne

/-- What Delete answers. -/
def delL (l : Loc) (i st : Int) : Loc := if findV l i st = 0 then ⟨l.sl.set i.toNat ⟨st, 0, false⟩, l.sc, l.is⟩ else loc0

set_option maxRecDepth 100000 in
set_option maxHeartbeats 3200000 in
theorem scDelete_any (pa : Option Addr) (na ca : Nat) (pb : Option Addr) (nb cb : Nat) (pc : Option Addr) (nc cc : Nat) (l : Loc) (i st : Int) (w : World) (hr : LRow w pa na ca pb nb cb pc nc cc l) :
    Calls Try.prog 34 #[.agg #[.slice pa na ca, .slice pb nb cb, .slice pc nc cc], .int .i64 i, .int .i64 st] w fun e w' => RetL (delL l i st) (findV l i st) e w' ∧ Below w.heap.size w w' := by
  have Hl := Lib.hid hr.lens
  obtain ⟨h63a, h63b, h63c⟩ := hr.i63
  have Hr := Lib.hid (fun w' (h : Below w.heap.size w w') => hr.keep h)
  have hv := Lib.hid (fun w h => scValid_any pa na ca pb nb cb pc nc cc l w h)
  have hf := Lib.hid (fun w h => find_any pa na ca pb nb cb pc nc cc l i st w h)
  clear hr hv
  unfold delL
  by_cases h0 : findV l i st = 0
  · rw [if_pos h0, h0]
    obtain ⟨j, s, rfl, ho, h2, hx, hst, hlv⟩ := findV_zero h0
    rw [h0] at hf
    obtain ⟨k1, k2, k3⟩ := lens_ok ho
    have k4 := k1
    have k5 := k2
    have k6 := k3
    rw [Hl.out.1] at k1
    rw [Hl.out.2.1] at k2
    rw [Hl.out.2.2] at k3
    have hj : j < l.sl.length := (List.getElem?_eq_some_iff.1 hx).1
    have hj2 : (j : Int) < l.sl.length := by omega
    have hpos : 1 ≤ l.sl.length := by omega
    have HXs := Lib.hid hx
    rw [Int.toNat_natCast]
    clear h0 ho h2 hx hst hlv
    go_enter Try.func34, Try.ntmps34
    go_upto_region 5 with (first | ((go_at_call 40; refine (hf.out _ (Hr.out _ (bthen below_box below_box))).mono ?_); rintro e w2 ⟨rfl, hb2⟩; (obtain ⟨hX, hY, hB2, hs2⟩ := start2 hb2); have HX := Lib.hid hX; have HY := Lib.hid hY; have HB := Lib.hid hB2; (obtain ⟨x0, x1, x2⟩ := own3c hX); (obtain ⟨y0, y1, y2, z0, z1, z2⟩ := own6 hY); clear hX hY hB2 hb2) | ((go_at_call 38; refine (owned_any _ _ _ _ _ _ _ _ _ _ _ (Hr.out _ HB.out) (by omega) (by omega) (by omega)).mono ?_); rintro e w3 ⟨⟨q1, c1, q2, c2, q3, c3, rfl, hO⟩, hb3⟩; have HO := Lib.hid hO; have HX3 := Lib.hid (HX.out.keep hb3 (by omega)); have HY3 := Lib.hid (HY.out.keep hb3 (by omega)); have HB3 := Lib.hid (HB.out.trans (hb3.mono HB.out.size)); have hs3 := hb3.size; clear x0 x1 x2 y0 y1 y2 z0 z1 z2 hO hb3; (obtain ⟨x0, x1, x2, u0, u1, u2⟩ := own6 HX3.out); (obtain ⟨y0, y1, y2, z0, z1, z2⟩ := own6 HY3.out)))
    obtain ⟨w4, hw4⟩ : ∃ w4, ((w3.setCell ⟨w.heap.size, 0, none⟩ (.slice q1 l.sl.length c1)).setCell ⟨w.heap.size, 1, none⟩ (.slice q2 l.sc.length c2)).setCell ⟨w.heap.size, 2, none⟩ (.slice q3 l.is.length c3) = w4 := ⟨_, rfl⟩
    have HX4 := Lib.hid (show OwnL w4 w.heap.size [.slice q1 l.sl.length c1, .slice q2 l.sc.length c2, .slice q3 l.is.length c3] from by rw [← hw4]; exact set3_own HX3.out)
    have HY4 := Lib.hid (show OwnL w4 (w.heap.size + 1) [.slice none 0 0, .slice none 0 0, .slice none 0 0] from by rw [← hw4]; exact set3_other HY3.out (by omega))
    have HO4 := Lib.hid (show OwnLoc w4 w2.heap.size q1 l.sl.length c1 q2 l.sc.length c2 q3 l.is.length c3 l from by rw [← hw4]; exact set3_loc HO.out (by omega))
    have HB4 := Lib.hid (show Below w.heap.size w w4 from by rw [← hw4]; exact set3_below HB3.out (Nat.le_refl _))
    have hs4 : w2.heap.size ≤ w4.heap.size := by rw [← hw4, set3_size]; exact hs3
    rw [hw4]
    clear hw4 HO HX3 HY3 HB3 HX HY HB hs3 x0 x1 x2 u0 u1 u2 y0 y1 y2 z0 z1 z2
    obtain ⟨x0, x1, x2, u0, u1, u2⟩ := own6 HX4.out
    obtain ⟨y0, y1, y2, z0, z1, z2⟩ := own6 HY4.out
    have hq := HO4.out.a
    obtain ⟨g, c4, he, hg, -⟩ := World.ownsRow.form hq hpos
    cases he
    have hlg := (hq.lt g rfl).2
    obtain ⟨⟨r0, r1, r2⟩, s0, s1, s2⟩ := own_slot hq HXs.out
    have hgb : g ≠ w.heap.size := by omega
    have hgb1 : g ≠ w.heap.size + 1 := by omega
    clear hq
    go_wp2
    exact bodyPost_ret (v := .tuple #[.agg #[.slice (some ⟨g, 0, none⟩) l.sl.length c1, .slice q2 l.sc.length c2, .slice q3 l.is.length c3], .int .i64 0]) (by simp [results, Try.results34, go_sem, y0, y1, y2]) rfl ⟨⟨_, l.sl.length, c1, q2, l.sc.length, c2, q3, l.is.length, c3, rfl, (set3_loc (HO4.out.setSl j hj ⟨st, 0, false⟩) (by omega)).row⟩, set3_below (((HB4.out.setCell (by simp; omega) _).setCell (by simp; omega) _).setCell (by simp; omega) _) (by omega)⟩
  · rw [if_neg h0]
    have hne : (findV l i st != 0) = true := bne_iff_ne.2 h0
    obtain ⟨R, hR⟩ : ∃ R, findV l i st = R := ⟨_, rfl⟩
    rw [hR] at hf hne ⊢
    clear hR h0
    go_enter Try.func34, Try.ntmps34
    go_wp2_with (((go_at_call 40; refine (hf.out _ (Hr.out _ (bthen below_box below_box))).mono ?_); rintro e w2 ⟨rfl, hb2⟩; (obtain ⟨hX, hY, hB2, hs2⟩ := start2 hb2); have HX := Lib.hid hX; have HY := Lib.hid hY; have HB := Lib.hid hB2; (obtain ⟨x0, x1, x2⟩ := own3c hX); (obtain ⟨y0, y1, y2, z0, z1, z2⟩ := own6 hY); clear hX hY hB2 hb2))
    exact bodyPost_ret (v := .tuple #[.agg #[.slice none 0 0, .slice none 0 0, .slice none 0 0], .int .i64 R]) (by simp [results, Try.results34, go_sem, y0, y1, y2]) rfl ⟨RetL.zero _ _, ((HB.out.setCell (by simp) _).setCell (by simp) _).setCell (by simp) _⟩
end Go.Proofs.Ytapfbnhcndifhaa
