/- Contracts of the reference of layer 15: put, Set, Delete. -/
import Derived.Test.YtapfbnhcndifhaaSlI
import Derived.Test.YtapfbnhcndifhaaSlG
set_option linter.unusedVariables false
set_option linter.unusedSimpArgs false
namespace Go.Proofs.Ytapfbnhcndifhaa
open Go.RowKit

theorem flat_setS {α : Type} (f : α → List Value) (hf : ∀ x, (f x).length = 3) (y : α) {a b c : Value} (hy : f y = [a, b, c]) : ∀ (l : List α) (j : Nat), j < l.length → (((l.flatMap f).set (j * 3) a).set (j * 3 + 1) b).set (j * 3 + 2) c = (l.set j y).flatMap f
  | [], j, h => by simp at h
  | x :: r, 0, h => by
    obtain ⟨p, q, s, hx⟩ : ∃ p q s, f x = [p, q, s] := by
      have := hf x
      match hfx : f x, this with
      | [p, q, s], _ => exact ⟨p, q, s, rfl⟩
    simp [List.flatMap_cons, hx, hy]
  | x :: r, j + 1, h => by
    have ih := flat_setS f hf y hy r j (by simpa using h)
    have e0 : (j + 1) * 3 = (f x).length + j * 3 := by rw [hf]; omega
    have e1 : (j + 1) * 3 + 1 = (f x).length + (j * 3 + 1) := by rw [hf]; omega
    have e2 : (j + 1) * 3 + 2 = (f x).length + (j * 3 + 2) := by rw [hf]; omega
    rw [e1, e2, e0, List.flatMap_cons, List.set_append_right _ _ (by omega), List.set_append_right _ _ (by omega), List.set_append_right _ _ (by omega)]
    simp only [Nat.add_sub_cancel_left, List.set_cons_succ, List.flatMap_cons]
    rw [ih]
theorem own_en {w : World} {base g n cap T : Nat} {qs : List En} {j : Nat} {x : En} (h : w.ownsRow base T 3 (.slice (some ⟨g, 0, none⟩) n cap) n (qs.flatMap enC)) (hx : qs[j]? = some x) :
    (w.cell? ⟨g, j * 3, none⟩ = some (.int .i64 x.gn) ∧ w.cell? ⟨g, j * 3 + 1, none⟩ = some (.int .u64 x.rf) ∧ w.cell? ⟨g, j * 3 + 2, none⟩ = some (.bool x.lv)) ∧
    w.frozen? ⟨g, j * 3, none⟩ = false ∧ w.frozen? ⟨g, j * 3 + 1, none⟩ = false ∧ w.frozen? ⟨g, j * 3 + 2, none⟩ = false := by
  have hl : qs.length = n := by have := h.1; rw [flat_len _ 3 enC_len] at this; omega
  have hj : j < n := by rw [← hl]; exact (List.getElem?_eq_some_iff.1 hx).1
  have h0 := flat_at enC 3 enC_len qs j x 0 (by decide) hx
  have h1 := flat_at enC 3 enC_len qs j x 1 (by decide) hx
  have h2 := flat_at enC 3 enC_len qs j x 2 (by decide) hx
  exact ⟨⟨by rw [h.cellAt _ (by omega)]; exact h0, by rw [h.cellAt _ (by omega)]; exact h1, by rw [h.cellAt _ (by omega)]; exact h2⟩, h.frozenAt _, h.frozenAt _, h.frozenAt _⟩
theorem own_setEn {w : World} {base g n cap T : Nat} {qs : List En} (h : w.ownsRow base T 3 (.slice (some ⟨g, 0, none⟩) n cap) n (qs.flatMap enC)) (j : Nat) (hj : j < qs.length) (y : En) :
    (((w.setCell ⟨g, j * 3, none⟩ (.int .i64 y.gn)).setCell ⟨g, j * 3 + 1, none⟩ (.int .u64 y.rf)).setCell ⟨g, j * 3 + 2, none⟩ (.bool y.lv)).ownsRow base T 3 (.slice (some ⟨g, 0, none⟩) n cap) n ((qs.set j y).flatMap enC) := by
  rw [← flat_setS enC enC_len y rfl qs j hj]
  exact (((h.stored _ _).1.stored _ _).1.stored _ _).1
theorem enC_one (sl : List En) : ∀ v ∈ sl.flatMap enC, v.oneCell' = true := by
  intro v hv
  obtain ⟨s, _, h⟩ := List.mem_flatMap.1 hv
  simp [enC] at h
  rcases h with rfl | rfl | rfl <;> rfl
theorem box_far3 {w : World} {b g : Nat} {vs : List Value} (h : OwnL w b vs) (o0 o1 o2 : Nat) (x y z : Value) (hne : g ≠ b) : OwnL (((w.setCell ⟨g, o0, none⟩ x).setCell ⟨g, o1, none⟩ y).setCell ⟨g, o2, none⟩ z) b vs := ((h.other _ x hne).other _ y hne).other _ z hne
theorem below_far3 {w w0 : World} {C g : Nat} (h : Below C w0 w) (hC : C ≤ g) (o0 o1 o2 : Nat) (x y z : Value) : Below C w0 (((w.setCell ⟨g, o0, none⟩ x).setCell ⟨g, o1, none⟩ y).setCell ⟨g, o2, none⟩ z) := ((h.setCell hC x).setCell hC y).setCell hC z

set_option maxRecDepth 100000 in
set_option maxHeartbeats 1600000 in
theorem put_any15 (p : Option Addr) (n cap : Nat) (t : List En) (j : Nat) (x : En) (w : World) (hr : VRow w 3 p n cap (t.flatMap enC)) (hj : j < n) (hn : n ≤ 1000) :
    Calls Try.prog 46 #[.agg #[.slice p n cap], .int .i64 j, .agg #[.int .i64 x.gn, .int .u64 x.rf, .bool x.lv]] w fun e w' => (∃ q c, e = .returned (.agg #[.slice q n c]) ∧ FT w.heap.size w' q n c (t.set j x)) ∧ Below w.heap.size w w' := by
  have Hr := Lib.hid (fun w' (h : Below w.heap.size w w') => hr.keep h)
  have Hlen := Lib.hid hr.lenT
  obtain ⟨i0, hin, hz0, hz1, hz2⟩ := info_parts infoEn
  obtain ⟨e0, he0⟩ : ∃ e0, t[j]? = some e0 := ⟨_, List.getElem?_eq_getElem (by have := Hlen.out; omega)⟩
  have He0 := Lib.hid he0
  obtain ⟨gx, rx, lx⟩ := x
  clear hr he0
  go_enter Try.func46, Try.ntmps46
  go_upto_region 1 with fail
  obtain ⟨w1, hw1⟩ : ∃ w1, ((w.alloc (.cells #[.slice p n cap] 46)).alloc (.cells #[.int .i64 gx, .int .u64 rx, .bool lx] 65)).alloc (.cells #[.slice none 0 0] 46) = w1 := ⟨_, rfl⟩
  have HA := Lib.hid (show OwnL w1 w.heap.size [.slice p n cap] from by rw [← hw1]; exact ((OwnL.new w [.slice p n cap] 46).keep below_box (by simp)).keep below_box (by simp; omega))
  have HX := Lib.hid (show OwnL w1 (w.heap.size + 1) [.int .i64 gx, .int .u64 rx, .bool lx] from by
    rw [← hw1]
    have h := OwnL.new (w.alloc (.cells #[.slice p n cap] 46)) [.int .i64 gx, .int .u64 rx, .bool lx] 65
    simp only [World.size_alloc] at h
    exact h.keep below_box (by simp))
  have HY := Lib.hid (show OwnL w1 (w.heap.size + 1 + 1) [.slice none 0 0] from by
    rw [← hw1]
    have h := OwnL.new ((w.alloc (.cells #[.slice p n cap] 46)).alloc (.cells #[.int .i64 gx, .int .u64 rx, .bool lx] 65)) [.slice none 0 0] 46
    simp only [World.size_alloc] at h
    exact h)
  have HB := Lib.hid (show Below w.heap.size w w1 from by rw [← hw1]; exact bthen (bthen below_box below_box) below_box)
  have hs1 : w.heap.size + 3 ≤ w1.heap.size := by rw [← hw1]; simp
  rw [hw1]
  clear hw1
  obtain ⟨a0, -⟩ := own1S HA.out
  have hal := boxLt HA.out
  go_wp2_with (at_builtin; refine wpList_append_vrow rfl _ _ 44 rfl w1.heap.size 65 i0 _ 3 24 Try.underlying44 hin hz0 hz1 hz2 rfl (by decide) (.slice (some ⟨w1.heap.size, 0, none⟩) 0 0) 0 [] rfl (noneS w1 65 3) p n cap (t.flatMap enC) rfl ?src (enC_one t) ?c3 ?c4 ?c5 ?_)
  case src => exact Hr.out _ (bthen HB.out below_box)
  case c3 => unfold maxLen; omega
  case c4 => omega
  case c5 => simp
  intro v' w2 hown hgrow
  have hb0 : Below w1.heap.size w1 w2 := (below_box).grown hgrow (by simp) (fun k h => by simp [Value.ownBlock] at h; omega)
  try simp only [Nat.zero_add, List.nil_append] at hown
  obtain ⟨q, c, rfl⟩ := formS hown
  have HG2 := Lib.hid hown
  obtain ⟨g, rfl, hg1, hg2⟩ := someS hown (by omega)
  have HX2 := Lib.hid (HX.out.keep hb0 (by omega))
  have HY2 := Lib.hid (HY.out.keep hb0 (by omega))
  have HB2 := Lib.hid (bthen HB.out hb0)
  clear hown hgrow a0 HX HY HB HA
  obtain ⟨S1, hS1⟩ : ∃ S1, w.heap.size + 1 = S1 := ⟨_, rfl⟩
  obtain ⟨S2, hS2⟩ : ∃ S2, S1 + 1 = S2 := ⟨_, rfl⟩
  rw [hS1] at HX2 HY2 ⊢
  rw [hS2] at HY2 ⊢
  have hg3 : S2 < g ∧ S1 < S2 ∧ w.heap.size < S1 ∧ S2 < w1.heap.size := by omega
  obtain ⟨hg3, hg4, hg5, hg6⟩ := hg3
  clear hS1 hS2
  obtain ⟨⟨c0, c1, c2⟩, f0, f1, f2⟩ := own_en HG2.out He0.out
  obtain ⟨x0, x1, x2⟩ := own3S HX2.out
  have hj2 : (j : Int) < n := by omega
  go_upto_region 3 with fail
  obtain ⟨w3, hw⟩ : ∃ w3, ((w2.setCell ⟨g, j * 3, none⟩ (.int .i64 gx)).setCell ⟨g, j * 3 + 1, none⟩ (.int .u64 rx)).setCell ⟨g, j * 3 + 2, none⟩ (.bool lx) = w3 := ⟨_, rfl⟩
  have HG3 := Lib.hid (show w3.ownsRow w1.heap.size 65 3 (.slice (some ⟨g, 0, none⟩) n c) n ((t.set j ⟨gx, rx, lx⟩).flatMap enC) from by rw [← hw]; exact own_setEn HG2.out j (by have := Hlen.out; omega) ⟨gx, rx, lx⟩)
  have HY3 := Lib.hid (show OwnL w3 S2 [.slice none 0 0] from by rw [← hw]; exact box_far3 HY2.out _ _ _ _ _ _ (by omega))
  have HB3 := Lib.hid (show Below w.heap.size w w3 from by rw [← hw]; exact below_far3 HB2.out (by omega) _ _ _ _ _ _)
  rw [hw]
  clear hw c0 c1 c2 f0 f1 f2 x0 x1 x2
  obtain ⟨y0, v0⟩ := own1S HY3.out
  go_wp2
  exact bodyPost_ret (v := .agg #[.slice (some ⟨g, 0, none⟩) n c]) (by simp [results, Try.results46, go_sem, y0]) rfl ⟨⟨_, c, rfl, ((FT.own HG3.out).cell _ _ (by simp only; omega)).mono (by omega)⟩, HB3.out.setCell (by simp only; omega) _⟩
end Go.Proofs.Ytapfbnhcndifhaa
