/- Contracts of package slots: Set, Delete. -/
import Derived.Test.YtggaaobpaodigaaSlD
set_option linter.unusedVariables false
set_option linter.unusedSimpArgs false
namespace Go.Proofs.Ytggaaobpaodigaa
open Go.RowKit

theorem setT_yes {t : List En} {j : Nat} {e : En} {q r : Int} (h : findE t j q = 0) (he : t[j]? = some e) (hq : e.gn = q) : setT t j q r = tabOf (gs t) (upd (tf t) j (some r)) := by
  obtain ⟨_, _, _, hok, _⟩ := findE_zero h
  unfold setT
  rw [if_pos h, Int.toNat_natCast, tabOf_upd hok he, hq]; rfl
theorem delT_yes {t : List En} {j : Nat} {e : En} {q : Int} (h : findE t j q = 0) (he : t[j]? = some e) (hq : e.gn = q) : delT t j q = tabOf (gs t) (upd (tf t) j none) := by
  obtain ⟨_, _, _, hok, _⟩ := findE_zero h
  unfold delT
  rw [if_pos h, Int.toNat_natCast, tabOf_upd hok he, hq]; rfl

set_option maxRecDepth 100000 in
set_option maxHeartbeats 1600000 in
theorem slSet_any (p : Option Addr) (n cap : Nat) (t : List En) (i q r : Int) (w : World) (hr : VRow w 3 p n cap (t.flatMap enC)) (hwf : WfT t) (hrw : (Lit.int .u64 r).wf = true) :
    Calls Try.prog 6 #[.agg #[.slice p n cap], .int .i64 i, .int .i64 q, .int .u64 r] w fun e w' => RetT w.heap.size (setT t i q r) (findE t i q) e w' ∧ Below w.heap.size w w' := by
  have Hr := Lib.hid (fun w' (h : Below w.heap.size w w') => hr.keep h)
  have hf := Lib.hid (fun w h => find_any15 p n cap t i q w h hwf)
  have hn63 := hr.i63.2
  have Hlen := Lib.hid hr.lenT
  have HRw := Lib.hid hrw
  obtain ⟨hX1, hY1, hB1, hs1⟩ := start15 (w := w) (p := p) (n := n) (c := cap) (T := 25) (T2 := 25) (vs := [.slice none 0 0])
  clear hr hwf hrw
  by_cases h0 : findE t i q = 0
  · obtain ⟨j, e, rfl, hok, he, hq, -, hl⟩ := findE_zero h0
    have hj : j < t.length := (List.getElem?_eq_some_iff.1 he).1
    have h64 := (okT_iff.1 hok).1
    have HS := Lib.hid (setT_yes (r := r) h0 he hq)
    rw [HS.out]
    rw [h0] at hf ⊢
    have hj2 : j ≤ 1000 := by omega
    have hn64 : n ≤ 64 := by have := Hlen.out; omega
    clear h0 he hl hj hok hq
    go_enter Try.func6, Try.ntmps6
    go_wp2_with fail
    refine (hf.out _ (Hr.out _ hB1)).mono ?_
    rintro e w2 ⟨hret, hb2⟩
    rcases hret with ⟨-, pg, ng, cg, B, rfl, hpo⟩ | ⟨h, -⟩
    · have hng : ng ≤ 64 := by have h := hpo.len; rw [gs_len] at h; omega
      go_upto_region 4 with fail
      obtain ⟨w3, hw3⟩ : ∃ w3, w2.alloc (.cells #[.slice pg ng cg, .map (some B)] 47) = w3 := ⟨_, rfl⟩
      have hb3 : Below w2.heap.size w2 w3 := by rw [← hw3]; exact below_box
      have hpo1 : w.heap.size + 2 ≤ B := by rw [hs1]; exact hpo.hB
      have hG1 : ∀ x, (Value.slice pg ng cg).ownBlock = some x → w.heap.size + 2 ≤ x := fun x hx => by rw [hs1]; exact (hpo.G.lt x hx).1
      have HX3 := Lib.hid (show OwnL w3 w2.heap.size [.slice pg ng cg, .map (some B)] from by rw [← hw3]; exact OwnL.new w2 _ _)
      have HY3 := Lib.hid ((hY1.keep hb2 (by omega)).keep hb3 (by have := hb2.size; omega))
      have HP3 := Lib.hid (hpo.keep hb3)
      have HB3 := Lib.hid (bthen (bthen hB1 hb2) hb3)
      have hs2 := hb2.size
      rw [← hs1] at hs2
      rw [hw3]
      obtain ⟨S, hS⟩ : ∃ S, w2.heap.size = S := ⟨_, rfl⟩
      rw [hS] at HX3 hs2 ⊢
      have hSl := boxLt HX3.out
      have hYl := boxLt HY3.out
      have hBS : B ≠ S := HP3.out.M.box HX3.out
      clear hw3 hb3 hb2 hS hpo hX1 hY1 hB1
      obtain ⟨x0, x1, -, -⟩ := own2S HX3.out
      go_wp2_with (at_mapUpdate; refine wpList_put_mr rfl _ _ _ rfl rfl HP3.out.M (by omega) j hj2 r HRw.out rfl rfl ?_)
      intro w4 hM4 hg4
      have hs4 := hg4.size
      have hne : some B ≠ (Value.slice pg ng cg).ownBlock := HP3.out.M.row HP3.out.G
      have HX4 := Lib.hid (boxG HX3.out hg4 hSl (by simp; omega))
      have HY4 := Lib.hid (boxG HY3.out hg4 hYl (by simp; omega))
      have HP4 := Lib.hid (show PO w4 _ pg ng cg B 65 (gs t) (upd (tf t) j (some r)) from ⟨grownS HP3.out.G hg4 (.inr (Ne.symm hne)), hM4, HP3.out.hB⟩)
      have HB4 := Lib.hid (belowM HB3.out hg4 (by omega) (by omega))
      clear hM4 hg4 x0 x1 HX3 HY3 HP3 HB3
      obtain ⟨x0, x1, -, -⟩ := own2S HX4.out
      go_wp2_with fail
      refine (table_any _ pg ng cg B 65 (gs t) _ w4 HP4.out (by omega)).mono ?_
      rintro e w5 ⟨⟨p5, c5, rfl, hT5⟩, hb5⟩
      have HT5 := Lib.hid hT5
      have HY5 := Lib.hid (HY4.out.keep hb5 (by omega))
      have HB5 := Lib.hid (bthen HB4.out hb5)
      clear hT5 hb5 x0 x1
      obtain ⟨y0, v0⟩ := own1S HY5.out
      go_wp2
      exact bodyPost_ret (v := .tuple #[.agg #[.slice p5 ng c5], .int .i64 0]) (by simp [results, Try.results6, go_sem, y0]) rfl ⟨⟨p5, ng, c5, rfl, (HT5.out.cell _ _ (by simp only; omega)).mono (by omega)⟩, HB5.out.setCell (by simp) _⟩
    · exact absurd rfl h
  · obtain ⟨F, hF⟩ : ∃ F, findE t i q = F := ⟨_, rfl⟩
    have HS := Lib.hid (show setT t i q r = [] from by unfold setT; rw [if_neg h0])
    rw [HS.out]
    rw [hF] at hf h0 ⊢
    have hne : (F != 0) = true := bne_iff_ne.2 h0
    clear hF HS
    go_enter Try.func6, Try.ntmps6
    go_wp2_with fail
    refine (hf.out _ (Hr.out _ hB1)).mono ?_
    rintro e w2 ⟨hret, hb2⟩
    rcases hret with ⟨h, -⟩ | ⟨-, rfl⟩
    · exact absurd h h0
    · have hb3 := below_box (w := w2) (o := .cells #[.slice none 0 0, .map none] 47)
      have hs2 := hb2.size
      rw [← hs1] at hs2
      have HY3 := Lib.hid ((hY1.keep hb2 (by omega)).keep hb3 (by omega))
      have HB3 := Lib.hid (bthen (bthen hB1 hb2) hb3)
      clear hb3 hb2 h0 hX1 hY1 hB1 hs1
      obtain ⟨y0, v0⟩ := own1S HY3.out
      go_wp2
      exact bodyPost_ret (v := .tuple #[.agg #[.slice none 0 0], .int .i64 F]) (by simp [results, Try.results6, go_sem, y0]) rfl ⟨RetT.zero _ _ _, HB3.out.setCell (by simp) _⟩
set_option maxRecDepth 100000 in
set_option maxHeartbeats 1600000 in
theorem slDelete_any (p : Option Addr) (n cap : Nat) (t : List En) (i q : Int) (w : World) (hr : VRow w 3 p n cap (t.flatMap enC)) (hwf : WfT t) :
    Calls Try.prog 5 #[.agg #[.slice p n cap], .int .i64 i, .int .i64 q] w fun e w' => RetT w.heap.size (delT t i q) (findE t i q) e w' ∧ Below w.heap.size w w' := by
  have Hr := Lib.hid (fun w' (h : Below w.heap.size w w') => hr.keep h)
  have hf := Lib.hid (fun w h => find_any15 p n cap t i q w h hwf)
  have hn63 := hr.i63.2
  have Hlen := Lib.hid hr.lenT
  obtain ⟨hX1, hY1, hB1, hs1⟩ := start15 (w := w) (p := p) (n := n) (c := cap) (T := 25) (T2 := 25) (vs := [.slice none 0 0])
  clear hr hwf
  by_cases h0 : findE t i q = 0
  · obtain ⟨j, e, rfl, hok, he, hq, -, hl⟩ := findE_zero h0
    have hj : j < t.length := (List.getElem?_eq_some_iff.1 he).1
    have h64 := (okT_iff.1 hok).1
    have HS := Lib.hid (delT_yes h0 he hq)
    rw [HS.out]
    rw [h0] at hf ⊢
    have hj2 : j ≤ 1000 := by omega
    have hn64 : n ≤ 64 := by have := Hlen.out; omega
    clear h0 he hl hj hok hq
    go_enter Try.func5, Try.ntmps5
    go_wp2_with fail
    refine (hf.out _ (Hr.out _ hB1)).mono ?_
    rintro e w2 ⟨hret, hb2⟩
    rcases hret with ⟨-, pg, ng, cg, B, rfl, hpo⟩ | ⟨h, -⟩
    · have hng : ng ≤ 64 := by have h := hpo.len; rw [gs_len] at h; omega
      go_upto_region 4 with fail
      obtain ⟨w3, hw3⟩ : ∃ w3, w2.alloc (.cells #[.slice pg ng cg, .map (some B)] 47) = w3 := ⟨_, rfl⟩
      have hb3 : Below w2.heap.size w2 w3 := by rw [← hw3]; exact below_box
      have hpo1 : w.heap.size + 2 ≤ B := by rw [hs1]; exact hpo.hB
      have hG1 : ∀ x, (Value.slice pg ng cg).ownBlock = some x → w.heap.size + 2 ≤ x := fun x hx => by rw [hs1]; exact (hpo.G.lt x hx).1
      have HX3 := Lib.hid (show OwnL w3 w2.heap.size [.slice pg ng cg, .map (some B)] from by rw [← hw3]; exact OwnL.new w2 _ _)
      have HY3 := Lib.hid ((hY1.keep hb2 (by omega)).keep hb3 (by have := hb2.size; omega))
      have HP3 := Lib.hid (hpo.keep hb3)
      have HB3 := Lib.hid (bthen (bthen hB1 hb2) hb3)
      have hs2 := hb2.size
      rw [← hs1] at hs2
      rw [hw3]
      obtain ⟨S, hS⟩ : ∃ S, w2.heap.size = S := ⟨_, rfl⟩
      rw [hS] at HX3 hs2 ⊢
      have hSl := boxLt HX3.out
      have hYl := boxLt HY3.out
      have hBS : B ≠ S := HP3.out.M.box HX3.out
      clear hw3 hb3 hb2 hS hpo hX1 hY1 hB1
      obtain ⟨x0, x1, -, -⟩ := own2S HX3.out
      go_wp2_with (at_delete; refine wpList_drop_mr rfl _ _ rfl rfl HP3.out.M j hj2 rfl ?_)
      intro w4 hM4 hg4
      have hs4 := hg4.size
      have hne : some B ≠ (Value.slice pg ng cg).ownBlock := HP3.out.M.row HP3.out.G
      have HX4 := Lib.hid (boxG HX3.out hg4 hSl (by simp; omega))
      have HY4 := Lib.hid (boxG HY3.out hg4 hYl (by simp; omega))
      have HP4 := Lib.hid (show PO w4 _ pg ng cg B 64 (gs t) (upd (tf t) j none) from ⟨grownS HP3.out.G hg4 (.inr (Ne.symm hne)), hM4, HP3.out.hB⟩)
      have HB4 := Lib.hid (belowM HB3.out hg4 (by omega) (by omega))
      clear hM4 hg4 x0 x1 HX3 HY3 HP3 HB3
      obtain ⟨x0, x1, -, -⟩ := own2S HX4.out
      go_wp2_with fail
      refine (table_any _ pg ng cg B 64 (gs t) _ w4 HP4.out (by omega)).mono ?_
      rintro e w5 ⟨⟨p5, c5, rfl, hT5⟩, hb5⟩
      have HT5 := Lib.hid hT5
      have HY5 := Lib.hid (HY4.out.keep hb5 (by omega))
      have HB5 := Lib.hid (bthen HB4.out hb5)
      clear hT5 hb5 x0 x1
      obtain ⟨y0, v0⟩ := own1S HY5.out
      go_wp2
      exact bodyPost_ret (v := .tuple #[.agg #[.slice p5 ng c5], .int .i64 0]) (by simp [results, Try.results5, go_sem, y0]) rfl ⟨⟨p5, ng, c5, rfl, (HT5.out.cell _ _ (by simp only; omega)).mono (by omega)⟩, HB5.out.setCell (by simp) _⟩
    · exact absurd rfl h
  · obtain ⟨F, hF⟩ : ∃ F, findE t i q = F := ⟨_, rfl⟩
    have HS := Lib.hid (show delT t i q = [] from by unfold delT; rw [if_neg h0])
    rw [HS.out]
    rw [hF] at hf h0 ⊢
    have hne : (F != 0) = true := bne_iff_ne.2 h0
    clear hF HS
    go_enter Try.func5, Try.ntmps5
    go_wp2_with fail
    refine (hf.out _ (Hr.out _ hB1)).mono ?_
    rintro e w2 ⟨hret, hb2⟩
    rcases hret with ⟨h, -⟩ | ⟨-, rfl⟩
    · exact absurd h h0
    · have hb3 := below_box (w := w2) (o := .cells #[.slice none 0 0, .map none] 47)
      have hs2 := hb2.size
      rw [← hs1] at hs2
      have HY3 := Lib.hid ((hY1.keep hb2 (by omega)).keep hb3 (by omega))
      have HB3 := Lib.hid (bthen (bthen hB1 hb2) hb3)
      clear hb3 hb2 h0 hX1 hY1 hB1 hs1
      obtain ⟨y0, v0⟩ := own1S HY3.out
      go_wp2
      exact bodyPost_ret (v := .tuple #[.agg #[.slice none 0 0], .int .i64 F]) (by simp [results, Try.results5, go_sem, y0]) rfl ⟨RetT.zero _ _ _, HB3.out.setCell (by simp) _⟩
end Go.Proofs.Ytggaaobpaodigaa
