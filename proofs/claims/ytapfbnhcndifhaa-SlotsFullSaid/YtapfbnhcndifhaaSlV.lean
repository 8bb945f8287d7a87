/- The law SlotsFull of layer 15. -/
import Derived.Test.YtapfbnhcndifhaaSlT
set_option linter.unusedVariables false
set_option linter.unusedSimpArgs false
namespace Go.Proofs.Ytapfbnhcndifhaa
open Go.RowKit

/-- A table of m handles. -/
def fullT (m : Nat) : List En := (List.range m).map fun (i : Nat) => (⟨1, (i : Int), true⟩ : En)
theorem fullT_len (m : Nat) : (fullT m).length = m := by simp [fullT]
theorem fullT_at {m j : Nat} (h : j < m) : (fullT m)[j]? = some ⟨1, (j : Int), true⟩ := by simp [fullT, h]
theorem fullT_mem {m j : Nat} {e : En} (h : (fullT m)[j]? = some e) : j < m ∧ e = ⟨1, (j : Int), true⟩ := by
  have hj : j < m := by have := (List.getElem?_eq_some_iff.1 h).1; rw [fullT_len] at this; exact this
  rw [fullT_at hj] at h; cases h; exact ⟨hj, rfl⟩
theorem fullT_ok {m : Nat} (h : m ≤ 64) : okT (fullT m) = true := okT_iff.2 ⟨by rw [fullT_len]; exact h, fun k e he => by
  obtain ⟨_, rfl⟩ := fullT_mem he
  exact enB_iff.2 ⟨by simp only; omega, by simp only; omega, fun h => by cases h⟩⟩
theorem fullT_next (m : Nat) : nextV (fullT m) = m := nextV_is _ m (fun j e hj he => by
  obtain ⟨_, rfl⟩ := fullT_mem he
  exact fun h => by cases h.1) (by rw [fullT_len]; exact Nat.le_refl _) (.inl (fullT_len m))
theorem u64wfN {k : Nat} (h : k ≤ 1000) : (Lit.int .u64 (k : Int)).wf = true := by
  have h1 : IntKind.u64.min = 0 := rfl
  have h2 : IntKind.u64.max = 18446744073709551615 := rfl
  simp only [Lit.wf, Bool.and_eq_true, decide_eq_true_eq]
  omega
theorem fullT_wf {m : Nat} (h : m ≤ 64) : WfT (fullT m) := fun k e he => by
  obtain ⟨hk, rfl⟩ := fullT_mem he
  exact u64wfN (by omega)
theorem fullT_new {m : Nat} (h : m < 64) : newT (fullT m) m = fullT (m + 1) ∧ newN (fullT m) = m ∧ newG (fullT m) = 1 ∧ newE (fullT m) = 0 := by
  have h0 : newE (fullT m) = 0 := newE_c (fullT_ok (by omega)) (by rw [fullT_next]; omega)
  obtain ⟨e1, e2, e3⟩ := new_yes (r := (m : Int)) h0
  have hn : (fullT m)[m]? = none := List.getElem?_eq_none (by rw [fullT_len]; exact Nat.le_refl _)
  refine ⟨?_, by rw [e2, fullT_next], ?_, h0⟩
  · rw [e1]; unfold putV; rw [fullT_next, hn]; simp [fullT, List.range_succ]
  · rw [e3]; unfold genV; rw [fullT_next, hn]
theorem fullT_full (r : Int) : newT (fullT 64) r = [] ∧ newN (fullT 64) = 0 ∧ newG (fullT 64) = 0 ∧ newE (fullT 64) = 18 := by
  have h0 : newE (fullT 64) = 18 := newE_b (fullT_ok (Nat.le_refl _)) (fullT_next 64)
  obtain ⟨e1, e2, e3⟩ := new_no (r := r) h0 (by decide)
  exact ⟨e1, e2, e3, h0⟩
/-- One entry without a handle, of generation g. -/
def gapT (k : Nat) (g : Int) : List En := (fullT 64).set k ⟨g, 0, false⟩
theorem gapT_len (k : Nat) (g : Int) : (gapT k g).length = 64 := by unfold gapT; rw [List.length_set, fullT_len]
theorem gapT_at {k : Nat} (g : Int) (h : k < 64) : (gapT k g)[k]? = some ⟨g, 0, false⟩ := by
  unfold gapT; rw [List.getElem?_set, if_pos rfl, if_pos (by rw [fullT_len]; exact h)]
theorem gapT_mem {k j : Nat} {g : Int} {e : En} (h : (gapT k g)[j]? = some e) : (j = k ∧ e = ⟨g, 0, false⟩) ∨ (j ≠ k ∧ e = ⟨1, (j : Int), true⟩) := by
  unfold gapT at h
  rw [List.getElem?_set] at h
  by_cases hj : k = j
  · rw [if_pos hj] at h
    split at h
    · cases h; exact .inl ⟨hj.symm, rfl⟩
    · cases h
  · rw [if_neg hj] at h
    exact .inr ⟨fun e => hj e.symm, (fullT_mem h).2⟩
theorem gapT_ok {k : Nat} {g : Int} (h1 : 1 ≤ g) (h2 : g ≤ 4294967295) : okT (gapT k g) = true := okT_iff.2 ⟨by rw [gapT_len]; exact Nat.le_refl _, fun j e he => by
  rcases gapT_mem he with ⟨_, rfl⟩ | ⟨_, rfl⟩
  · exact enB_iff.2 ⟨h1, h2, fun _ => rfl⟩
  · exact enB_iff.2 ⟨by simp only; omega, by simp only; omega, fun h => by cases h⟩⟩
theorem gapT_wf {k : Nat} {g : Int} : WfT (gapT k g) := fun j e he => by
  have hj : j < 64 := by have := (List.getElem?_eq_some_iff.1 he).1; rw [gapT_len] at this; exact this
  rcases gapT_mem he with ⟨_, rfl⟩ | ⟨_, rfl⟩
  · exact (show (Lit.int .u64 0).wf = true by decide)
  · exact u64wfN (by omega)
theorem gapT_set {k : Nat} {g : Int} (x : Int) : (gapT k g).set k ⟨x, 0, false⟩ = gapT k x := by unfold gapT; rw [List.set_set]
theorem gapT_retired {k : Nat} (hk : k < 64) (r : Int) : newT (gapT k 4294967295) r = [] ∧ newN (gapT k 4294967295) = 0 ∧ newG (gapT k 4294967295) = 0 ∧ newE (gapT k 4294967295) = 18 := by
  have hn : nextV (gapT k 4294967295) = 64 := nextV_is _ 64 (fun j e hj he => by
    rcases gapT_mem he with ⟨_, rfl⟩ | ⟨_, rfl⟩
    · exact fun h => by have := h.2; simp only at this; omega
    · exact fun h => by cases h.1) (by rw [gapT_len]; exact Nat.le_refl _) (.inl (gapT_len _ _))
  have h0 : newE (gapT k 4294967295) = 18 := newE_b (gapT_ok (by decide) (by decide)) hn
  obtain ⟨e1, e2, e3⟩ := new_no (r := r) h0 (by decide)
  exact ⟨e1, e2, e3, h0⟩
theorem gapT_last {k : Nat} (hk : k < 64) : newN (gapT k 4294967294) = k ∧ newG (gapT k 4294967294) = 4294967295 ∧ newE (gapT k 4294967294) = 0 := by
  have hn : nextV (gapT k 4294967294) = k := nextV_is _ k (fun j e hj he => by
    rcases gapT_mem he with ⟨h, _⟩ | ⟨_, rfl⟩
    · omega
    · exact fun h => by cases h.1) (by rw [gapT_len]; omega) (.inr ⟨_, gapT_at _ hk, rfl, by decide⟩)
  have h0 : newE (gapT k 4294967294) = 0 := newE_c (gapT_ok (by decide) (by decide)) (by rw [hn]; omega)
  obtain ⟨e1, e2, e3⟩ := new_yes (r := 1) h0
  refine ⟨by rw [e2, hn], ?_, h0⟩
  rw [e3]; unfold genV; rw [hn, gapT_at _ hk]; rfl

theorem flat_setE0 {sl : List En} {k : Nat} {s : En} (x : Int) (hs : sl[k]? = some s) : (sl.flatMap enC).set (k * 3) (.int .i64 x) = (sl.set k ⟨x, s.rf, s.lv⟩).flatMap enC := by
  have hk := (List.getElem?_eq_some_iff.1 hs).1
  rw [← flat_setS enC enC_len ⟨x, s.rf, s.lv⟩ rfl sl k hk]
  have h1 := flat_at enC 3 enC_len sl k s 1 (by decide) hs
  have h2 := flat_at enC 3 enC_len sl k s 2 (by decide) hs
  apply List.ext_getElem?
  intro i
  simp only [List.getElem?_set, List.length_set]
  have hl : (sl.flatMap enC).length = sl.length * 3 := flat_len enC 3 enC_len sl
  have hk3 : k * 3 + 2 < (sl.flatMap enC).length := by rw [hl]; omega
  by_cases e2 : k * 3 + 2 = i
  · subst e2
    rw [if_neg (by omega), if_pos rfl, if_pos hk3, h2]; rfl
  · rw [if_neg e2]
    by_cases e1 : k * 3 + 1 = i
    · subst e1
      rw [if_neg (by omega), if_pos rfl, if_pos (by omega), h1]; rfl
    · rw [if_neg e1]
theorem own_setGn {w : World} {base g n cap T : Nat} {qs : List En} (h : w.ownsRow base T 3 (.slice (some ⟨g, 0, none⟩) n cap) n (qs.flatMap enC)) {k : Nat} {s : En} (hs : qs[k]? = some s) (x : Int) :
    (w.setCell ⟨g, k * 3, none⟩ (.int .i64 x)).ownsRow base T 3 (.slice (some ⟨g, 0, none⟩) n cap) n ((qs.set k ⟨x, s.rf, s.lv⟩).flatMap enC) := by
  rw [← flat_setE0 x hs]; exact (h.stored _ _).1

set_option maxRecDepth 100000 in
set_option maxHeartbeats 3200000 in
theorem lawFull (a : Int) (w : World) (h1 : -9223372036854775808 ≤ a) (h2 : a ≤ 9223372036854775807) :
    Calls Try.prog 7 #[.int .i64 a] w fun e w' => e = .returned (.bool true) ∧ Below w.heap.size w w' := by
  obtain ⟨K, hK⟩ : ∃ K : Nat, a.tmod 64 % 64 = K := ⟨(a.tmod 64 % 64).toNat, by omega⟩
  have hK64 : K < 64 := by omega
  have ht1 : -64 < a.tmod 64 := Int.lt_tmod_of_pos a (by decide)
  have ht2 : a.tmod 64 < 64 := Int.tmod_lt_of_pos a (by decide)
  obtain ⟨i0, hin, hz0, hz1, hz2⟩ := info_parts infoEn
  go_enter Try.func7, Try.ntmps7
  go_upto_region 3 with fail
  obtain ⟨w1, hw1⟩ : ∃ w1, w.alloc (.cells #[.slice none 0 0] 46) = w1 := ⟨_, rfl⟩
  have HX := Lib.hid (show OwnL w1 w.heap.size [.slice none 0 0] from by rw [← hw1]; exact OwnL.new w _ _)
  have HB := Lib.hid (show Below w.heap.size w w1 from by rw [← hw1]; exact below_box)
  rw [hw1]
  obtain ⟨BT, hBT⟩ : ∃ BT, w.heap.size = BT := ⟨_, rfl⟩
  have hWT : w.heap.size ≤ BT := by omega
  rw [hBT] at HX ⊢
  clear hw1 hBT
  go_loopw [4] (fun i wr => ∃ (k : Nat) (p : Option Addr) (n c : Nat), k ≤ 64 ∧ i = .int .i64 k ∧ OwnL wr BT [.slice p n c] ∧ VRow wr 3 p n c ((fullT k).flatMap enC) ∧ Below w.heap.size w wr) (fun i _ => 64 - (RowKit.intOf i).toNat)
  case atStart => exact ⟨0, none, 0, 0, by omega, rfl, HX.out, VRow.nil _ _ _, HB.out⟩
  case round =>
    clear HX HB
    obtain ⟨k, p, n, c, hk, rfl, hX, hR, hb⟩ := hrel
    have HX := Lib.hid hX
    have HR := Lib.hid hR
    have HB := Lib.hid hb
    have hn64 : n = k := by have := hR.lenT; rw [fullT_len] at this; omega
    subst hn64
    have hBl := boxLt hX
    obtain ⟨x0, f0⟩ := own1S hX
    clear hX hR hb
    by_cases hlt : n < 64
    · have hlt2 : (n : Int) < 64 := by omega
      have hnw := Lib.hid (fun w h => slNew_any p n c (fullT n) n w h (fullT_wf (by omega)) (u64wfN (by omega)))
      obtain ⟨e1, e2, e3, e4⟩ := fullT_new hlt
      rw [e1, e2, e3, e4] at hnw
      clear e1 e2 e3 e4
      go_wp2_with fail
      refine (hnw.out _ HR.out).mono ?_
      rintro e w2 ⟨⟨q, m, d, rfl, hT⟩, hb2⟩
      have HX2 := Lib.hid (HX.out.keep hb2 hBl)
      have HB2 := Lib.hid (bthen HB.out hb2)
      have hT2 := hT.r
      clear x0 f0 hT
      obtain ⟨x0, f0⟩ := own1S HX2.out
      have hBl2 := boxLt HX2.out
      go_upto_region 6 with fail
      obtain ⟨w3, hw3⟩ : ∃ w3, w2.alloc (.cells #[.slice q m d] 46) = w3 := ⟨_, rfl⟩
      have hb3 : Below w2.heap.size w2 w3 := by rw [← hw3]; exact below_box
      have HN := Lib.hid (show OwnL w3 w2.heap.size [.slice q m d] from by rw [← hw3]; exact OwnL.new w2 _ _)
      rw [hw3]
      have HX3 := Lib.hid (HX2.out.keep hb3 hBl2)
      have HR3 := Lib.hid (hT2.keep hb3)
      have HB3 := Lib.hid (bthen HB2.out hb3)
      obtain ⟨BN, hBN⟩ : ∃ BN, w2.heap.size = BN := ⟨_, rfl⟩
      rw [hBN] at HN hBl2 ⊢
      clear hw3 hb3 hBN hT2 hb2 x0 f0 HX2 HB2
      obtain ⟨x0, f0⟩ := own1S HX3.out
      obtain ⟨y0, g0⟩ := own1S HN.out
      have hnn : ((n : Int) == (n : Int)) = true := beq_self_eq_true _
      go_wp2
      go_roundw
      case rel => exact ⟨n + 1, q, m, d, by omega, by go_num, HX3.out.set 0 _ (by simp), HR3.out.setSl _ _ x0 (enC_noS _ _ _ _), HB3.out.setCell (by simp only; omega) _⟩
      case measure => first | omega | (simp [RowKit.intOf]; omega)
    · obtain rfl : n = 64 := by omega
      have hnw := Lib.hid (fun w h => slNew_any p 64 c (fullT 64) 1 w h (fullT_wf (by omega)) (by decide))
      obtain ⟨e1, e2, e3, e4⟩ := fullT_full 1
      rw [e1, e2, e3, e4] at hnw
      clear e1 e2 e3 e4
      go_wp2_with fail
      refine (hnw.out _ HR.out).mono ?_
      rintro e w2 ⟨⟨q, m, d, rfl, -⟩, hb2⟩
      have hb3 := bthen hb2 (below_box (o := .cells #[.slice q m d] 46))
      have HX2 := Lib.hid (HX.out.keep hb3 hBl)
      have HR2 := Lib.hid (HR.out.keep hb3)
      have HB2 := Lib.hid (bthen HB.out hb3)
      clear x0 f0 HX HR HB hnw
      have hs2 := hb2.size
      clear hb2 hb3
      obtain ⟨x0, f0⟩ := own1S HX2.out
      go_upto_region 12 with fail
      obtain ⟨w3, hw3⟩ : ∃ w3, w2.alloc (.cells #[.slice q m d] 46) = w3 := ⟨_, rfl⟩
      rw [hw3] at HX2 HR2 HB2 ⊢
      clear hw3 x0 f0
      obtain ⟨x0, f0⟩ := own1S HX2.out
      have hBl2 := boxLt HX2.out
      go_wp2_with (at_builtin; refine wpList_append_vrow rfl _ _ 44 rfl w3.heap.size 65 i0 _ 3 24 Try.underlying44 hin hz0 hz1 hz2 rfl (by decide) (.slice (some ⟨w3.heap.size, 0, none⟩) 0 0) 0 [] rfl (noneS w3 65 3) p 64 c ((fullT 64).flatMap enC) rfl ?src (enC_one _) ?c3 ?c4 ?c5 ?_)
      case src => exact HR2.out.keep below_box
      case c3 => unfold maxLen; omega
      case c4 => omega
      case c5 => simp
      intro v' w4 hown hgrow
      have hb0 : Below w3.heap.size w3 w4 := (below_box).grown hgrow (by simp) (fun k h => by simp [Value.ownBlock] at h; omega)
      try simp only [Nat.zero_add, List.nil_append] at hown
      obtain ⟨qq, cc, rfl⟩ := formS hown
      obtain ⟨g, rfl, hg1, hg2⟩ := someS hown (by omega)
      have HG4 := Lib.hid hown
      have HX4 := Lib.hid (HX2.out.keep hb0 hBl2)
      have HB4 := Lib.hid (bthen HB2.out hb0)
      have hgT : BT < g := by omega
      clear hown hgrow hb0 x0 f0 HX2 HR2 HB2
      obtain ⟨x0, f0⟩ := own1S HX4.out
      go_upto_region 14 with fail
      obtain ⟨w5, hw⟩ : ∃ w5, w4.setCell ⟨BT, 0, none⟩ (.slice (some ⟨g, 0, none⟩) 64 cc) = w5 := ⟨_, rfl⟩
      have HX5 := Lib.hid (show OwnL w5 BT [.slice (some ⟨g, 0, none⟩) 64 cc] from by rw [← hw]; exact HX4.out.set 0 _ (by simp))
      have HG5 := Lib.hid (show w5.ownsRow w3.heap.size 65 3 (.slice (some ⟨g, 0, none⟩) 64 cc) 64 ((fullT 64).flatMap enC) from by rw [← hw]; exact cellS HG4.out _ _ (fun e => by simp [Value.ownBlock] at e; omega))
      have HB5 := Lib.hid (show Below w.heap.size w w5 from by rw [← hw]; exact HB4.out.setCell (by simp only; omega) _)
      rw [hw]
      clear hw x0 f0 HX4 HG4 HB4
      obtain ⟨x0, f0⟩ := own1S HX5.out
      obtain ⟨⟨c0, c1, c2⟩, f1, f2, f3⟩ := own_en HG5.out (fullT_at hK64)
      have hK2 : (K : Int) < 64 := by omega
      go_upto_region 15 with fail
      obtain ⟨w6, hw⟩ : ∃ w6, ((w5.setCell ⟨g, K * 3, none⟩ (.int .i64 4294967295)).setCell ⟨g, K * 3 + 1, none⟩ (.int .u64 0)).setCell ⟨g, K * 3 + 2, none⟩ (.bool false) = w6 := ⟨_, rfl⟩
      have HX6 := Lib.hid (show OwnL w6 BT [.slice (some ⟨g, 0, none⟩) 64 cc] from by rw [← hw]; exact box_far3 HX5.out _ _ _ _ _ _ (by omega))
      have HG6 := Lib.hid (show w6.ownsRow w3.heap.size 65 3 (.slice (some ⟨g, 0, none⟩) 64 cc) 64 ((gapT K 4294967295).flatMap enC) from by rw [← hw]; exact own_setEn HG5.out K (by rw [fullT_len]; exact hK64) ⟨4294967295, 0, false⟩)
      have HB6 := Lib.hid (show Below w.heap.size w w6 from by rw [← hw]; exact below_far3 HB5.out (by omega) _ _ _ _ _ _)
      rw [hw]
      clear hw x0 f0 c0 c1 c2 f1 f2 f3 HX5 HG5 HB5
      obtain ⟨x0, f0⟩ := own1S HX6.out
      have hnw := Lib.hid (fun w h => slNew_any (some ⟨g, 0, none⟩) 64 cc (gapT K 4294967295) 1 w h gapT_wf (by decide))
      obtain ⟨e1, e2, e3, e4⟩ := gapT_retired hK64 1
      rw [e1, e2, e3, e4] at hnw
      clear e1 e2 e3 e4
      have hBl6 := boxLt HX6.out
      go_wp2_with fail
      refine (hnw.out _ (vrowS HG6.out)).mono ?_
      rintro e w7 ⟨⟨q2, m2, d2, rfl, -⟩, hb2⟩
      have hb3 := bthen hb2 (below_box (o := .cells #[.slice q2 m2 d2] 46))
      have HX7 := Lib.hid (HX6.out.keep hb3 hBl6)
      have HG7 := Lib.hid (own_below HG6.out hb3)
      have HB7 := Lib.hid (bthen HB6.out hb3)
      clear x0 f0 HX6 HG6 HB6 hnw hb2 hb3
      obtain ⟨x0, f0⟩ := own1S HX7.out
      go_upto_region 18 with fail
      obtain ⟨w8, hw3⟩ : ∃ w8, w7.alloc (.cells #[.slice q2 m2 d2] 46) = w8 := ⟨_, rfl⟩
      rw [hw3] at HX7 HG7 HB7 ⊢
      clear hw3 x0 f0
      obtain ⟨x0, f0⟩ := own1S HX7.out
      obtain ⟨⟨c0, c1, c2⟩, f1, f2, f3⟩ := own_en HG7.out (gapT_at _ hK64)
      go_upto_region 19 with fail
      obtain ⟨w9, hw⟩ : ∃ w9, w8.setCell ⟨g, K * 3, none⟩ (.int .i64 4294967294) = w9 := ⟨_, rfl⟩
      have HX9 := Lib.hid (show OwnL w9 BT [.slice (some ⟨g, 0, none⟩) 64 cc] from by rw [← hw]; exact HX7.out.other _ _ (by simp only; omega))
      have HG9 := Lib.hid (show w9.ownsRow w3.heap.size 65 3 (.slice (some ⟨g, 0, none⟩) 64 cc) 64 ((gapT K 4294967294).flatMap enC) from by
        rw [← hw, ← gapT_set (g := 4294967295)]
        exact own_setGn HG7.out (gapT_at _ hK64) 4294967294)
      have HB9 := Lib.hid (show Below w.heap.size w w9 from by rw [← hw]; exact HB7.out.setCell (by simp only; omega) _)
      rw [hw]
      clear hw x0 f0 c0 c1 c2 f1 f2 f3 HX7 HG7 HB7
      obtain ⟨x0, f0⟩ := own1S HX9.out
      have hnw := Lib.hid (fun w h => slNew_any (some ⟨g, 0, none⟩) 64 cc (gapT K 4294967294) 1 w h gapT_wf (by decide))
      obtain ⟨e2, e3, e4⟩ := gapT_last hK64
      rw [e2, e3, e4] at hnw
      clear e2 e3 e4
      go_wp2_with fail
      refine (hnw.out _ (vrowS HG9.out)).mono ?_
      rintro e w10 ⟨⟨q3, m3, d3, rfl, -⟩, hb2⟩
      have HB10 := Lib.hid (bthen (bthen HB9.out hb2) (below_box (o := .cells #[.slice q3 m3 d3] 46)))
      clear hb2 x0 f0
      go_wp2_with fail
      refine (awake15 _).mono ?_
      rintro e w11 ⟨rfl, hb3⟩
      go_wp2
      go_ret
      exact ⟨rfl, bthen HB10.out hb3⟩
end Go.Proofs.Ytapfbnhcndifhaa
