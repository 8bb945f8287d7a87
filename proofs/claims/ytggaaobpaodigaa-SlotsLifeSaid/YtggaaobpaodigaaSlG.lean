/- Contract of package slots: New. -/
import Derived.Test.YtggaaobpaodigaaSlE
import Derived.Test.YtggaaobpaodigaaDraw
set_option linter.unusedVariables false
set_option linter.unusedSimpArgs false
namespace Go.Proofs.Ytggaaobpaodigaa
open Go.RowKit

theorem newE_a {t : List En} (h : okT t = false) : newE t = 1 := by unfold newE; rw [if_pos h]
theorem newE_b {t : List En} (h : okT t = true) (h2 : nextV t = 64) : newE t = 18 := by unfold newE; rw [if_neg (by rw [h]; decide), if_pos h2]
theorem newE_c {t : List En} (h : okT t = true) (h2 : nextV t ≠ 64) : newE t = 0 := by unfold newE; rw [if_neg (by rw [h]; decide), if_neg h2]
theorem new_no {t : List En} {r e : Int} (h : newE t = e) (he : e ≠ 0) : newT t r = [] ∧ newN t = 0 ∧ newG t = 0 := by
  unfold newT newN newG
  rw [if_neg (by omega), if_neg (by omega), if_neg (by omega)]
  exact ⟨rfl, rfl, rfl⟩
theorem new_yes {t : List En} {r : Int} (h : newE t = 0) : newT t r = putV t r ∧ newN t = nextV t ∧ newG t = genV t := by
  unfold newT newN newG
  rw [if_pos h, if_pos h, if_pos h]
  exact ⟨rfl, rfl, rfl⟩
theorem gs_set {t : List En} {k : Nat} {e : En} (h : t[k]? = some e) (x : Int) : (gs (t.set k ⟨x, e.rf, e.lv⟩)) = (gs t).set k x := by
  unfold gs; rw [List.map_set]
theorem put_old {t : List En} {r : Int} {e : En} (h : okT t = true) (he : t[nextV t]? = some e) : tabOf ((gs t).set (nextV t) (e.gn + 1)) (upd (tf t) (nextV t) (some r)) = putV t r ∧ genV t = e.gn + 1 := by
  unfold putV genV
  rw [tabOf_set h he, he]
  exact ⟨rfl, rfl⟩
theorem put_new {t : List En} {r : Int} (h : okT t = true) (he : nextV t = t.length) : tabOf (gs t ++ [1]) (upd (tf t) (nextV t) (some r)) = putV t r ∧ genV t = 1 := by
  unfold putV genV
  rw [he, List.getElem?_eq_none (Nat.le_refl _), tabOf_snoc h]
  exact ⟨rfl, rfl⟩
theorem setI {w : World} {base g n cap : Nat} {e : TypeId} {xs : List Int} (h : w.ownsRow base e 1 (.slice (some ⟨g, 0, none⟩) n cap) n (ivals .i64 xs)) (j : Nat) (u : Int) :
    (w.setCell ⟨g, j, none⟩ (.int .i64 u)).ownsRow base e 1 (.slice (some ⟨g, 0, none⟩) n cap) n (ivals .i64 (xs.set j u)) := by
  have h1 := (h.stored j (.int .i64 u)).1
  rw [ivals_set] at h1; exact h1
theorem someS {w : World} {B T s n c : Nat} {p : Option Addr} {vs : List Value} (h : w.ownsRow B T s (.slice p n c) n vs) (hn : 0 < n) : ∃ g, p = some ⟨g, 0, none⟩ ∧ B ≤ g ∧ g < w.heap.size := by
  have hl := h.lt
  rcases h.2 with ⟨_, h0⟩ | ⟨g, cap, cur, he, hg, _⟩
  · omega
  · cases he; exact ⟨g, rfl, hg, (hl g (by simp [Value.ownBlock])).2⟩
theorem cellI {w : World} {B T n c g : Nat} {xs : List Int} {k : Nat} {x : Int} (h : w.ownsRow B T 1 (.slice (some ⟨g, 0, none⟩) n c) n (ivals .i64 xs)) (hx : xs[k]? = some x) : w.cell? ⟨g, k, none⟩ = some (.int .i64 x) ∧ w.frozen? ⟨g, k, none⟩ = false := by
  have hl := h.1
  rw [ivals_len] at hl
  have hk := (List.getElem?_eq_some_iff.1 hx).1
  exact ⟨by rw [h.cellAt _ (by omega)]; exact ivals_at hx, h.frozenAt _⟩

set_option maxRecDepth 100000 in
set_option maxHeartbeats 3200000 in
theorem slNew_any (p : Option Addr) (n cap : Nat) (t : List En) (r : Int) (w : World) (hr : VRow w 3 p n cap (t.flatMap enC)) (hwf : WfT t) (hrw : (Lit.int .u64 r).wf = true) :
    Calls Try.prog 4 #[.agg #[.slice p n cap], .int .u64 r] w fun e w' => RetNT w.heap.size (newT t r) (newN t) (newG t) (newE t) e w' ∧ Below w.heap.size w w' := by
  have Hr := Lib.hid (fun w' (h : Below w.heap.size w w') => hr.keep h)
  have hv := Lib.hid (fun w h => slValid_any p n cap t w h)
  have hn63 := hr.i63.2
  have Hlen := Lib.hid hr.lenT
  have HRw := Lib.hid hrw
  have Hwf := Lib.hid hwf
  obtain ⟨i1, hin1, hy0, hy1, hy2⟩ := info_parts infoInt
  obtain ⟨hX1, hY1, hB1, hs1⟩ := start15 (w := w) (p := p) (n := n) (c := cap) (T := 25) (T2 := 25) (vs := [.slice none 0 0])
  clear hr hwf hrw
  cases ho : okT t
  · obtain ⟨e1, e2, e3⟩ := new_no (r := r) (newE_a ho) (by decide)
    rw [e1, e2, e3, newE_a ho]
    rw [ho] at hv
    clear e1 e2 e3
    go_enter Try.func4, Try.ntmps4
    go_wp2_with fail
    refine (hv.out _ (Hr.out _ hB1)).mono ?_
    rintro e w2 ⟨rfl, hb2⟩
    have HY2 := Lib.hid (hY1.keep hb2 (by omega))
    have HB2 := Lib.hid (bthen hB1 hb2)
    clear hX1 hY1 hB1 hs1 hb2
    obtain ⟨y0, v0⟩ := own1S HY2.out
    go_wp2
    exact bodyPost_ret (v := .tuple #[.agg #[.slice none 0 0], .int .i64 0, .int .i64 0, .int .i64 1]) (by simp [results, Try.results4, go_sem, y0]) rfl ⟨RetNT.zero _ _ _, HB2.out.setCell (by simp) _⟩
  · have Ho := Lib.hid ho
    have h64 := (okT_iff.1 ho).1
    have hn64 : n ≤ 64 := by have := Hlen.out; omega
    rw [ho] at hv
    have hpo := Lib.hid (fun w h => partsOf_any p n cap t w h ho Hwf.out)
    obtain ⟨T0, hT0⟩ : ∃ T0, Hid (newT t r = T0) := ⟨_, Lib.hid rfl⟩
    obtain ⟨I0, hI0⟩ : ∃ I0, Hid (newN t = I0) := ⟨_, Lib.hid rfl⟩
    obtain ⟨GG, hGG⟩ : ∃ GG, Hid (newG t = GG) := ⟨_, Lib.hid rfl⟩
    obtain ⟨E0, hE0⟩ : ∃ E0, Hid (newE t = E0) := ⟨_, Lib.hid rfl⟩
    rw [hT0.out, hI0.out, hGG.out, hE0.out]
    have hnl := nextV_le t
    have HTo := Lib.hid (fun e he => put_old (r := r) (e := e) ho he)
    have HTn := Lib.hid (fun he => put_new (r := r) ho he)
    have HEb := Lib.hid (newE_b ho)
    have HEc := Lib.hid (newE_c ho)
    have HNe := Lib.hid (show ∀ e, t[nextV t]? = some e → e.gn ≤ 4294967295 from fun e he => (enB_iff.1 ((okT_iff.1 ho).2 _ e he)).2.1)
    clear ho
    go_enter Try.func4, Try.ntmps4
    go_wp2_with fail
    refine (hv.out _ (Hr.out _ hB1)).mono ?_
    rintro e w2 ⟨rfl, hb2⟩
    have HX2 := Lib.hid (hX1.keep hb2 (by omega))
    have HY2 := Lib.hid (hY1.keep hb2 (by omega))
    have HB2 := Lib.hid (bthen hB1 hb2)
    have hs2 := hb2.size
    rw [← hs1] at hs2
    clear hX1 hY1 hB1 hs1 hb2
    obtain ⟨x0, -⟩ := own1S HX2.out
    go_wp2_with fail
    refine (hpo.out _ (Hr.out _ HB2.out)).mono ?_
    rintro e w3 ⟨⟨pg, ng, cg, B, rfl, hpo3⟩, hb3⟩
    have hng : ng = n := by have h := hpo3.len; rw [gs_len, Hlen.out] at h; omega
    subst hng
    have HY3 := Lib.hid (HY2.out.keep hb3 (by omega))
    have HB3 := Lib.hid (bthen HB2.out hb3)
    have HP3 := Lib.hid hpo3
    have hs3 := hb3.size
    clear hpo3 hb3 x0 HX2 HY2 HB2 hpo
    go_upto_region 4 with fail
    obtain ⟨w4, hw4⟩ : ∃ w4, w3.alloc (.cells #[.slice pg ng cg, .map (some B)] 47) = w4 := ⟨_, rfl⟩
    have hb4 : Below w3.heap.size w3 w4 := by rw [← hw4]; exact below_box
    have HX4 := Lib.hid (show OwnL w4 w3.heap.size [.slice pg ng cg, .map (some B)] from by rw [← hw4]; exact OwnL.new w3 _ _)
    rw [hw4]
    have HY4 := Lib.hid (HY3.out.keep hb4 (by omega))
    have HB4 := Lib.hid (bthen HB3.out hb4)
    have HP4 := Lib.hid (HP3.out.keep hb4)
    have hsz : ∀ x, (Value.slice pg ng cg).ownBlock = some x → x < w3.heap.size := fun x hx => (HP3.out.G.lt x hx).2
    obtain ⟨S, hS⟩ : ∃ S, w3.heap.size = S := ⟨_, rfl⟩
    rw [hS] at HX4 hs3 hsz ⊢
    have hSl := boxLt HX4.out
    have hYl := boxLt HY4.out
    have hnx := Lib.hid (next_any15 w2.heap.size pg ng cg B 64 t w4 HP4.out (by omega))
    have hBS : B ≠ S := HP4.out.M.box HX4.out
    clear hw4 hb4 hS HY3 HB3 HP3
    obtain ⟨x0, x1, -, -⟩ := own2S HX4.out
    obtain ⟨K, hK⟩ : ∃ K, nextV t = K := ⟨_, rfl⟩
    rw [hK] at hnx hnl HTo HTn HEb HEc HNe
    have hKn : K ≤ ng := by have := Hlen.out; omega
    go_wp2_with fail
    refine hnx.out.mono ?_
    rintro e w5 ⟨rfl, hb5⟩
    have HX5 := Lib.hid (HX4.out.keep hb5 hSl)
    have HY5 := Lib.hid (HY4.out.keep hb5 hYl)
    have HB5 := Lib.hid (bthen HB4.out hb5)
    have HP5 := Lib.hid (HP4.out.keep hb5)
    have hs5 := hb5.size
    clear hb5 x0 x1 hnx HX4 HY4 HB4 HP4
    obtain ⟨x0, x1, u0, u1⟩ := own2S HX5.out
    obtain ⟨y0, v0⟩ := own1S HY5.out
    by_cases hK64 : K = 64
    · obtain ⟨e1, e2, e3⟩ := new_no (r := r) (HEb.out hK64) (by decide)
      obtain rfl : T0 = [] := hT0.out.symm.trans e1
      obtain rfl : I0 = 0 := hI0.out.symm.trans e2
      obtain rfl : GG = 0 := hGG.out.symm.trans e3
      obtain rfl : E0 = 18 := hE0.out.symm.trans (HEb.out hK64)
      clear e1 e2 e3
      subst hK64
      go_wp2
      exact bodyPost_ret (v := .tuple #[.agg #[.slice none 0 0], .int .i64 0, .int .i64 0, .int .i64 18]) (by simp [results, Try.results4, go_sem, y0]) rfl ⟨RetNT.zero _ _ _, HB5.out.setCell (by simp) _⟩
    · obtain ⟨e1, e2, e3⟩ := new_yes (r := r) (HEc.out hK64)
      rw [hK] at e2
      obtain rfl : I0 = (K : Int) := hI0.out.symm.trans e2
      obtain rfl : E0 = 0 := hE0.out.symm.trans (HEc.out hK64)
      have hK2 : ¬ (K : Int) = 64 := by omega
      by_cases hkn : K < ng
      · obtain ⟨e, he⟩ : ∃ e, t[K]? = some e := ⟨_, List.getElem?_eq_getElem (by have := Hlen.out; omega)⟩
        obtain ⟨hT, hG⟩ := HTo.out e he
        have hgm := HNe.out e he
        obtain ⟨G, hGe⟩ : ∃ G, e.gn = G := ⟨_, rfl⟩
        rw [hGe] at hT hG
        obtain ⟨G1, hG1⟩ : ∃ G1, G + 1 = G1 := ⟨_, rfl⟩
        obtain ⟨GL, hGL⟩ : ∃ GL, Hid ((gs t).set K G1 = GL) := ⟨_, Lib.hid rfl⟩
        rw [hG1] at hT hG
        rw [hGL.out] at hT
        obtain rfl : T0 = tabOf GL (upd (tf t) K (some r)) := hT0.out.symm.trans (e1.trans hT.symm)
        obtain rfl : GG = G1 := hGG.out.symm.trans (e3.trans hG)
        clear e1 e2 e3
        have hgx : (gs t)[K]? = some G := by rw [gs_get, he, ← hGe]; rfl
        have hgl : 1 ≤ G := by rw [← hGe]; exact (enB_iff.1 ((okT_iff.1 Ho.out).2 K e he)).1
        rw [hGe] at hgm
        obtain ⟨g, rfl, hg1, hg2⟩ := someS HP5.out.G (by omega)
        obtain ⟨c0, f0⟩ := cellI HP5.out.G hgx
        have hkn2 : (K : Int) < ng := by omega
        have hkn3 : ¬ (K : Int) = ng := by omega
        have hgS : g < S := hsz g rfl
        have hBg : B ≠ g := HP5.out.M.apart c0
        clear he hT hG hGe hgx HTo HTn HEb HEc HNe hK hnl
        go_upto_region 10 with fail
        obtain ⟨w7, hw⟩ : ∃ w7, w5.setCell ⟨g, K, none⟩ (.int .i64 GG) = w7 := ⟨_, rfl⟩
        have HX7 := Lib.hid (show OwnL w7 S [.slice (some ⟨g, 0, none⟩) ng cg, .map (some B)] from by rw [← hw]; exact HX5.out.other _ _ (by simp only; omega))
        have HY7 := Lib.hid (show OwnL w7 (w.heap.size + 1) [.slice none 0 0] from by rw [← hw]; exact HY5.out.other _ _ (by simp only; omega))
        have HB7 := Lib.hid (show Below w.heap.size w w7 from by rw [← hw]; exact HB5.out.setCell (by simp only; omega) _)
        have HP7 := Lib.hid (show PO w7 w2.heap.size (some ⟨g, 0, none⟩) ng cg B 64 GL (tf t) from by rw [← hw, ← hGL.out]; exact ⟨setI HP5.out.G K GG, HP5.out.M.cell _ _ hBg, HP5.out.hB⟩)
        have hs7 : w5.heap.size = w7.heap.size := by rw [← hw]; simp
        have c7 : w7.cell? ⟨g, K, none⟩ = some (.int .i64 GG) := (cellI (x := GG) HP7.out.G (by rw [← hGL.out, List.getElem?_set, if_pos rfl, if_pos (by rw [gs_len, Hlen.out]; exact hkn)])).1
        rw [hw]
        clear hw x0 x1 u0 u1 y0 v0 c0 f0 HX5 HY5 HB5 HP5
        clear hGL hG1
        have hs7' : S < w7.heap.size := boxLt HX7.out
        obtain ⟨x0, x1, u0, u1⟩ := own2S HX7.out
        go_wp2_with (at_mapUpdate; refine wpList_put_mr rfl _ _ _ rfl rfl HP7.out.M (by omega) K (by omega) r HRw.out rfl rfl ?_)
        intro w8 hM8 hg8
        have hs8 := hg8.size
        have hne : some B ≠ (Value.slice (some ⟨g, 0, none⟩) ng cg).ownBlock := HP7.out.M.row HP7.out.G
        have HX8 := Lib.hid (boxG HX7.out hg8 hs7' (by simp; omega))
        have HY8 := Lib.hid (boxG HY7.out hg8 (by omega) (by have := HP7.out.hB; simp; omega))
        have HP8 := Lib.hid (show PO w8 w2.heap.size (some ⟨g, 0, none⟩) ng cg B 65 GL (upd (tf t) K (some r)) from ⟨grownS HP7.out.G hg8 (.inr (Ne.symm hne)), hM8, HP7.out.hB⟩)
        have HB8 := Lib.hid (belowM HB7.out hg8 (by have := HP7.out.hB; omega) (by omega))
        have c8 : w8.cell? ⟨g, K, none⟩ = some (.int .i64 GG) := hg8.cell c7 (by simp; omega)
        clear hM8 hg8 x0 x1 u0 u1 c7 HX7 HY7 HP7 HB7
        obtain ⟨x0, x1, u0, u1⟩ := own2S HX8.out
        have htab := Lib.hid (fun W (h : Below w8.heap.size w8 W) => table_any w2.heap.size (some ⟨g, 0, none⟩) ng cg B 65 GL _ W (HP8.out.keep h) (by omega))
        have hSof := Lib.hid (fun W (hB : Below w8.heap.size w8 W) => (⟨cell_keep hB x0, cell_keep hB x1, cell_keep hB c8⟩ : (fun w' => w'.cell? ⟨S, 0, none⟩ = some (.slice (some ⟨g, 0, none⟩) ng cg) ∧ w'.cell? ⟨S, 1, none⟩ = some (.map (some B)) ∧ w'.cell? ⟨g, K, none⟩ = some (.int .i64 GG)) W))
        go_upto_region 11 with fail
        refine wp_region_held_drew (S := fun w' => w'.cell? ⟨S, 0, none⟩ = some (.slice (some ⟨g, 0, none⟩) ng cg) ∧ w'.cell? ⟨S, 1, none⟩ = some (.map (some B)) ∧ w'.cell? ⟨g, K, none⟩ = some (.int .i64 GG)) (by kernel_rfl) (hSof.out _ (Below.drew (Below.refl _ _))) (fun hHeld => ?_)
        refine draw_take 0 41 (v := ?_) rfl rfl (by kernel_rfl) (by kernel_rfl) (by kernel_rfl) (fun _ _ _ h => h) (by kernel_rfl) ?hy hHeld ?_
        case hy => (intro w hSw; (try dsimp only at hSw); go_simp; try (with_reducible rfl))
        simp only [Act.put, List.setIfInBounds_toArray, List.set_cons_zero, List.set_cons_succ]
        refine draw_take 2 43 (v := ?_) rfl rfl (by kernel_rfl) (by kernel_rfl) (by kernel_rfl) (fun _ _ _ h => h) (by kernel_rfl) ?hy hHeld ?_
        case hy => (intro w hSw; (try dsimp only at hSw); go_simp; try (with_reducible rfl))
        simp only [Act.put, List.setIfInBounds_toArray, List.set_cons_zero, List.set_cons_succ]
        refine draw_take 3 44 (v := ?_) rfl rfl (by kernel_rfl) (by kernel_rfl) (by kernel_rfl) (fun _ _ _ h => h) (by kernel_rfl) ?hy hHeld ?_
        case hy => (intro w hSw; (try dsimp only at hSw); go_simp; try (with_reducible rfl))
        simp only [Act.put, List.setIfInBounds_toArray, List.set_cons_zero, List.set_cons_succ]
        refine draw_take 4 45 (v := ?_) rfl rfl (by kernel_rfl) (by kernel_rfl) (by kernel_rfl) (fun _ _ _ h => h) (by kernel_rfl) ?hy hHeld ?_
        case hy => (intro w hSw; (try dsimp only at hSw); go_simp; try (with_reducible rfl))
        simp only [Act.put, List.setIfInBounds_toArray, List.set_cons_zero, List.set_cons_succ]
        refine draw_take 5 46 (v := ?_) rfl rfl (by kernel_rfl) (by kernel_rfl) (by kernel_rfl) (fun _ _ _ h => h) (by kernel_rfl) ?hy hHeld ?_
        case hy => (intro w hSw; (try dsimp only at hSw); go_simp; try (with_reducible rfl))
        simp only [Act.put, List.setIfInBounds_toArray, List.set_cons_zero, List.set_cons_succ]
        refine draw_take 6 47 (v := ?_) rfl rfl (by kernel_rfl) (by kernel_rfl) (by kernel_rfl) (fun _ _ _ h => h) (by kernel_rfl) ?hy hHeld ?_
        case hy => (intro w hSw; (try dsimp only at hSw); go_simp; try (with_reducible rfl))
        simp only [Act.put, List.setIfInBounds_toArray, List.set_cons_zero, List.set_cons_succ]
        refine draw_take 7 48 (v := ?_) rfl rfl (by kernel_rfl) (by kernel_rfl) (by kernel_rfl) (fun _ _ _ h => h) (by kernel_rfl) ?hy hHeld ?_
        case hy => (intro w hSw; (try dsimp only at hSw); go_simp; try (with_reducible rfl))
        simp only [Act.put, List.setIfInBounds_toArray, List.set_cons_zero, List.set_cons_succ]
        refine wpAnyH_ready (rs := [1]) (by kernel_rfl) (by simp) ?_
        refine AllReadyH.cons rfl (fun K' hK' => ?_) AllReadyH.nil
        go_simp
        (go_at_call 12; refine (htab.out _ ((Below.refl _ _).drew)).mono ?_; rintro e w9 ⟨⟨p5, c5, rfl, hT5⟩, hb9⟩)
        have hb2 : Below w8.heap.size w8 w9 := (Below.refl _ _).drew.trans (by simpa using hb9)
        have HT5 := Lib.hid hT5
        have HX9 := Lib.hid (HX8.out.keep hb2 (by omega))
        have HY9 := Lib.hid (HY8.out.keep hb2 (by omega))
        have HB9 := Lib.hid (bthen HB8.out hb2)
        have c9 := cell_keep hb2 c8
        obtain ⟨y0, v0⟩ := own1S HY9.out
        go_wp2_with fail
        refine hK'.out _ _ (hSof.out _ hb2) (fun hHeld => ?_)
        clear hK' K'
        try simp only [Act.put, List.setIfInBounds_toArray, List.set_cons_zero, List.set_cons_succ]
        refine wpAnyH_ready (rs := [8]) (by kernel_rfl) (by simp) ?_
        refine AllReadyH.cons rfl (fun K' hK' => ?_) AllReadyH.nil
        go_simp
        refine hK'.out _ _ ⟨(HX9.out.other _ _ (by simp only; omega)).cell 0 _ rfl, (HX9.out.other _ _ (by simp only; omega)).cell 1 _ rfl, by rw [World.cell?_setCell_other _ _ _ _ (by intro e; injection e with e; omega)]; exact c9⟩ (fun hHeld => ?_)
        clear hK' K'
        try simp only [Act.put, List.setIfInBounds_toArray, List.set_cons_zero, List.set_cons_succ]
        refine draw_take 9 5 (v := ?_) rfl rfl (by kernel_rfl) (by kernel_rfl) (by kernel_rfl) (fun _ _ _ h => h) (by kernel_rfl) ?hy hHeld ?_
        case hy => (intro w hSw; (try dsimp only at hSw); go_simp; try (with_reducible rfl))
        simp only [Act.put, List.setIfInBounds_toArray, List.set_cons_zero, List.set_cons_succ]
        refine draw_take 10 6 (v := ?_) rfl rfl (by kernel_rfl) (by kernel_rfl) (by kernel_rfl) (fun _ _ _ h => h) (by kernel_rfl) ?hy hHeld ?_
        case hy => (intro w hSw; (try dsimp only at hSw); go_simp; try (with_reducible rfl))
        simp only [Act.put, List.setIfInBounds_toArray, List.set_cons_zero, List.set_cons_succ]
        refine draw_take 11 7 (v := ?_) rfl rfl (by kernel_rfl) (by kernel_rfl) (by kernel_rfl) (fun _ _ _ h => h) (by kernel_rfl) ?hy hHeld ?_
        case hy => (intro w hSw; (try dsimp only at hSw); go_simp; try (with_reducible rfl))
        simp only [Act.put, List.setIfInBounds_toArray, List.set_cons_zero, List.set_cons_succ]
        refine wpAnyH_done (by kernel_rfl) ?_ _
        go_wp2
        exact bodyPost_ret (v := .tuple #[.agg #[.slice p5 (ng) c5], .int .i64 K, .int .i64 GG, .int .i64 0]) (by simp [results, Try.results4, go_sem, y0]) rfl ⟨⟨p5, ng, c5, rfl, (HT5.out.cell _ _ (by simp only [World.size_drew]; omega)).mono (by simp only [World.size_drew]; omega)⟩, HB9.out.setCell (by simp) _⟩
      · obtain rfl : ng = K := by omega
        obtain ⟨hT, hG⟩ := HTn.out Hlen.out.symm
        obtain ⟨GL, hGL⟩ : ∃ GL, Hid (gs t ++ [1] = GL) := ⟨_, Lib.hid rfl⟩
        rw [hGL.out] at hT
        obtain rfl : T0 = tabOf GL (upd (tf t) ng (some r)) := hT0.out.symm.trans (e1.trans hT.symm)
        obtain rfl : GG = 1 := hGG.out.symm.trans (e3.trans hG)
        clear e1 e2 e3
        have hgx : (gs t ++ [(0 : Int)])[ng]? = some 0 := by
          have h1 := gs_len t
          have h2 := Hlen.out
          rw [List.getElem?_append_right (by omega), show ng - (gs t).length = 0 by omega]; rfl
        have hgt : (gs t ++ [(0 : Int)]).set ng 1 = gs t ++ [1] := by
          have h1 := gs_len t
          have h2 := Hlen.out
          rw [List.set_append_right _ _ (by omega), show ng - (gs t).length = 0 by omega]; rfl
        clear hT hG HTo HTn HEb HEc HNe hK hnl
        have hkn2 : (ng : Int) < (ng : Int) + 1 := by omega
        go_wp2_with (at_builtin; refine wpList_append_own_at _ rfl _ _ 44 rfl w2.heap.size 3 i1 _ 1 8 Try.underlying44 hin1 hy0 hy1 hy2 rfl (by decide) (.slice pg ng cg) ng (ivals .i64 (gs t)) rfl (HP5.out.G.alloc _) ⟨w5.heap.size, 0, none⟩ 1 1 [.int .i64 0] rfl rfl (World.news_of_block (cs := #[.int .i64 0]) (fr := (0, 0)) (heap_alloc_new w5 _)) ?m2 ?m3 ?m4 ?m5 ?_)
        case m2 => simp [Value.oneCell']
        case m3 => unfold maxLen; omega
        case m4 => omega
        case m5 => first | omega | (simp; omega)
        intro v' w6 hown hgrow _ hat
        obtain ⟨q4, c4, rfl⟩ := formS hown
        have hbb := below_box (w := w5) (o := .cells #[.int .i64 0] 3)
        have hgE : ∀ x, (Value.slice pg ng cg).ownBlock = some x → w2.heap.size ≤ x ∧ x < S := fun x hx => ⟨(HP5.out.G.lt x hx).1, hsz x hx⟩
        have hBr : some B ≠ (Value.slice pg ng cg).ownBlock := HP5.out.M.row HP5.out.G
        have HX6 := Lib.hid (boxG (HX5.out.keep hbb (by omega)) hgrow (by simp; omega) (fun e => by have := (hgE _ e.symm).2; omega))
        have HY6 := Lib.hid (boxG (HY5.out.keep hbb (by omega)) hgrow (by simp; omega) (fun e => by have := (hgE _ e.symm).1; omega))
        have HM6 := Lib.hid ((HP5.out.M.keep hbb).grown hgrow hBr)
        have HB6 := Lib.hid (belowG (bthen HB5.out hbb) (HP5.out.G.alloc _) hgrow (by omega) (by simp; omega))
        have HG6 := Lib.hid (show w6.ownsRow w2.heap.size 3 1 (.slice q4 (ng + 1) c4) (ng + 1) (ivals .i64 (gs t ++ [0])) from by rw [← ivals_snoc]; exact hown)
        have hs6 : w5.heap.size ≤ w6.heap.size := by have := hgrow.size; simp at this; omega
        have hq4 : ∀ x, (Value.slice q4 (ng + 1) c4).ownBlock = some x → x ≠ S := by
          intro x hx e
          rcases hat with h | h
          · rw [h] at hx; have := (hgE x hx).2; omega
          · rw [h] at hx; simp at hx; omega
        have hB6 := HP5.out.hB
        clear hown hgrow hat hbb x0 x1 u0 u1 y0 v0 HX5 HY5 HB5
        obtain ⟨x0, x1, u0, u1⟩ := own2S HX6.out
        obtain ⟨g, rfl, hg1, hg2⟩ := someS HG6.out (by omega)
        obtain ⟨c0, f0⟩ := cellI HG6.out hgx
        have hgS : g ≠ S := hq4 g rfl
        have hBg : B ≠ g := HM6.out.apart c0
        have hSg : S ≠ g := Ne.symm hgS
        go_upto_region 9 with fail
        obtain ⟨w6b, hw⟩ : ∃ w6b, w6.setCell ⟨S, 0, none⟩ (.slice (some ⟨g, 0, none⟩) (ng + 1) c4) = w6b := ⟨_, rfl⟩
        have HX6b := Lib.hid (show OwnL w6b S [.slice (some ⟨g, 0, none⟩) (ng + 1) c4, .map (some B)] from by rw [← hw]; exact HX6.out.set 0 _ (by simp))
        have HY6b := Lib.hid (show OwnL w6b (w.heap.size + 1) [.slice none 0 0] from by rw [← hw]; exact HY6.out.other _ _ (by simp only; omega))
        have HM6b := Lib.hid (show MR w6b B 64 (tf t) from by rw [← hw]; exact HM6.out.cell _ _ hBS)
        have HG6b := Lib.hid (show w6b.ownsRow w2.heap.size 3 1 (.slice (some ⟨g, 0, none⟩) (ng + 1) c4) (ng + 1) (ivals .i64 (gs t ++ [0])) from by rw [← hw]; exact cellS HG6.out _ _ (fun e => by simp [Value.ownBlock] at e; omega))
        have HB6b := Lib.hid (show Below w.heap.size w w6b from by rw [← hw]; exact HB6.out.setCell (by simp only; omega) _)
        have hs6b : w6.heap.size = w6b.heap.size := by rw [← hw]; simp
        rw [hw]
        clear hw x0 x1 u0 u1 c0 f0 HX6 HY6 HM6 HG6 HB6
        obtain ⟨x0, x1, u0, u1⟩ := own2S HX6b.out
        obtain ⟨c0, f0⟩ := cellI HG6b.out hgx
        go_upto_region 10 with fail
        obtain ⟨w7, hw⟩ : ∃ w7, w6b.setCell ⟨g, ng, none⟩ (.int .i64 1) = w7 := ⟨_, rfl⟩
        have HX7 := Lib.hid (show OwnL w7 S [.slice (some ⟨g, 0, none⟩) (ng + 1) c4, .map (some B)] from by rw [← hw]; exact HX6b.out.other _ _ (by simp only; omega))
        have HY7 := Lib.hid (show OwnL w7 (w.heap.size + 1) [.slice none 0 0] from by rw [← hw]; exact HY6b.out.other _ _ (by simp only; omega))
        have HB7 := Lib.hid (show Below w.heap.size w w7 from by rw [← hw]; exact HB6b.out.setCell (by simp only; omega) _)
        have HP7 := Lib.hid (show PO w7 w2.heap.size (some ⟨g, 0, none⟩) (ng + 1) c4 B 64 GL (tf t) from by rw [← hw, ← hGL.out]; exact ⟨by have h := setI HG6b.out ng 1; rw [hgt] at h; exact h, HM6b.out.cell _ _ hBg, hB6⟩)
        have hs7 : w6b.heap.size = w7.heap.size := by rw [← hw]; simp
        have c7 : w7.cell? ⟨g, ng, none⟩ = some (.int .i64 1) := (cellI (x := 1) HP7.out.G (by rw [← hGL.out, ← hgt, List.getElem?_set, if_pos rfl, if_pos (List.getElem?_eq_some_iff.1 hgx).1])).1
        rw [hw]
        clear hw x0 x1 u0 u1 c0 f0 HX6b HY6b HM6b HG6b HB6b hgx hgt
        clear hGL
        have hs7' : S < w7.heap.size := boxLt HX7.out
        obtain ⟨x0, x1, u0, u1⟩ := own2S HX7.out
        go_wp2_with (at_mapUpdate; refine wpList_put_mr rfl _ _ _ rfl rfl HP7.out.M (by omega) ng (by omega) r HRw.out rfl rfl ?_)
        intro w8 hM8 hg8
        have hs8 := hg8.size
        have hne : some B ≠ (Value.slice (some ⟨g, 0, none⟩) (ng + 1) c4).ownBlock := HP7.out.M.row HP7.out.G
        have HX8 := Lib.hid (boxG HX7.out hg8 hs7' (by simp; omega))
        have HY8 := Lib.hid (boxG HY7.out hg8 (by omega) (by have := HP7.out.hB; simp; omega))
        have HP8 := Lib.hid (show PO w8 w2.heap.size (some ⟨g, 0, none⟩) (ng + 1) c4 B 65 GL (upd (tf t) ng (some r)) from ⟨grownS HP7.out.G hg8 (.inr (Ne.symm hne)), hM8, HP7.out.hB⟩)
        have HB8 := Lib.hid (belowM HB7.out hg8 (by have := HP7.out.hB; omega) (by omega))
        have c8 : w8.cell? ⟨g, ng, none⟩ = some (.int .i64 1) := hg8.cell c7 (by simp; omega)
        clear hM8 hg8 x0 x1 u0 u1 c7 HX7 HY7 HP7 HB7
        obtain ⟨x0, x1, u0, u1⟩ := own2S HX8.out
        have htab := Lib.hid (fun W (h : Below w8.heap.size w8 W) => table_any w2.heap.size (some ⟨g, 0, none⟩) (ng + 1) c4 B 65 GL _ W (HP8.out.keep h) (by omega))
        have hSof := Lib.hid (fun W (hB : Below w8.heap.size w8 W) => (⟨cell_keep hB x0, cell_keep hB x1, cell_keep hB c8⟩ : (fun w' => w'.cell? ⟨S, 0, none⟩ = some (.slice (some ⟨g, 0, none⟩) (ng + 1) c4) ∧ w'.cell? ⟨S, 1, none⟩ = some (.map (some B)) ∧ w'.cell? ⟨g, ng, none⟩ = some (.int .i64 1)) W))
        go_upto_region 11 with fail
        refine wp_region_held_drew (S := fun w' => w'.cell? ⟨S, 0, none⟩ = some (.slice (some ⟨g, 0, none⟩) (ng + 1) c4) ∧ w'.cell? ⟨S, 1, none⟩ = some (.map (some B)) ∧ w'.cell? ⟨g, ng, none⟩ = some (.int .i64 1)) (by kernel_rfl) (hSof.out _ (Below.drew (Below.refl _ _))) (fun hHeld => ?_)
        refine draw_take 0 41 (v := ?_) rfl rfl (by kernel_rfl) (by kernel_rfl) (by kernel_rfl) (fun _ _ _ h => h) (by kernel_rfl) ?hy hHeld ?_
        case hy => (intro w hSw; (try dsimp only at hSw); go_simp; try (with_reducible rfl))
        simp only [Act.put, List.setIfInBounds_toArray, List.set_cons_zero, List.set_cons_succ]
        refine draw_take 2 43 (v := ?_) rfl rfl (by kernel_rfl) (by kernel_rfl) (by kernel_rfl) (fun _ _ _ h => h) (by kernel_rfl) ?hy hHeld ?_
        case hy => (intro w hSw; (try dsimp only at hSw); go_simp; try (with_reducible rfl))
        simp only [Act.put, List.setIfInBounds_toArray, List.set_cons_zero, List.set_cons_succ]
        refine draw_take 3 44 (v := ?_) rfl rfl (by kernel_rfl) (by kernel_rfl) (by kernel_rfl) (fun _ _ _ h => h) (by kernel_rfl) ?hy hHeld ?_
        case hy => (intro w hSw; (try dsimp only at hSw); go_simp; try (with_reducible rfl))
        simp only [Act.put, List.setIfInBounds_toArray, List.set_cons_zero, List.set_cons_succ]
        refine draw_take 4 45 (v := ?_) rfl rfl (by kernel_rfl) (by kernel_rfl) (by kernel_rfl) (fun _ _ _ h => h) (by kernel_rfl) ?hy hHeld ?_
        case hy => (intro w hSw; (try dsimp only at hSw); go_simp; try (with_reducible rfl))
        simp only [Act.put, List.setIfInBounds_toArray, List.set_cons_zero, List.set_cons_succ]
        refine draw_take 5 46 (v := ?_) rfl rfl (by kernel_rfl) (by kernel_rfl) (by kernel_rfl) (fun _ _ _ h => h) (by kernel_rfl) ?hy hHeld ?_
        case hy => (intro w hSw; (try dsimp only at hSw); go_simp; try (with_reducible rfl))
        simp only [Act.put, List.setIfInBounds_toArray, List.set_cons_zero, List.set_cons_succ]
        refine draw_take 6 47 (v := ?_) rfl rfl (by kernel_rfl) (by kernel_rfl) (by kernel_rfl) (fun _ _ _ h => h) (by kernel_rfl) ?hy hHeld ?_
        case hy => (intro w hSw; (try dsimp only at hSw); go_simp; try (with_reducible rfl))
        simp only [Act.put, List.setIfInBounds_toArray, List.set_cons_zero, List.set_cons_succ]
        refine draw_take 7 48 (v := ?_) rfl rfl (by kernel_rfl) (by kernel_rfl) (by kernel_rfl) (fun _ _ _ h => h) (by kernel_rfl) ?hy hHeld ?_
        case hy => (intro w hSw; (try dsimp only at hSw); go_simp; try (with_reducible rfl))
        simp only [Act.put, List.setIfInBounds_toArray, List.set_cons_zero, List.set_cons_succ]
        refine wpAnyH_ready (rs := [1]) (by kernel_rfl) (by simp) ?_
        refine AllReadyH.cons rfl (fun K' hK' => ?_) AllReadyH.nil
        go_simp
        (go_at_call 12; refine (htab.out _ ((Below.refl _ _).drew)).mono ?_; rintro e w9 ⟨⟨p5, c5, rfl, hT5⟩, hb9⟩)
        have hb2 : Below w8.heap.size w8 w9 := (Below.refl _ _).drew.trans (by simpa using hb9)
        have HT5 := Lib.hid hT5
        have HX9 := Lib.hid (HX8.out.keep hb2 (by omega))
        have HY9 := Lib.hid (HY8.out.keep hb2 (by omega))
        have HB9 := Lib.hid (bthen HB8.out hb2)
        have c9 := cell_keep hb2 c8
        obtain ⟨y0, v0⟩ := own1S HY9.out
        go_wp2_with fail
        refine hK'.out _ _ (hSof.out _ hb2) (fun hHeld => ?_)
        clear hK' K'
        try simp only [Act.put, List.setIfInBounds_toArray, List.set_cons_zero, List.set_cons_succ]
        refine wpAnyH_ready (rs := [8]) (by kernel_rfl) (by simp) ?_
        refine AllReadyH.cons rfl (fun K' hK' => ?_) AllReadyH.nil
        go_simp
        refine hK'.out _ _ ⟨(HX9.out.other _ _ (by simp only; omega)).cell 0 _ rfl, (HX9.out.other _ _ (by simp only; omega)).cell 1 _ rfl, by rw [World.cell?_setCell_other _ _ _ _ (by intro e; injection e with e; omega)]; exact c9⟩ (fun hHeld => ?_)
        clear hK' K'
        try simp only [Act.put, List.setIfInBounds_toArray, List.set_cons_zero, List.set_cons_succ]
        refine draw_take 9 5 (v := ?_) rfl rfl (by kernel_rfl) (by kernel_rfl) (by kernel_rfl) (fun _ _ _ h => h) (by kernel_rfl) ?hy hHeld ?_
        case hy => (intro w hSw; (try dsimp only at hSw); go_simp; try (with_reducible rfl))
        simp only [Act.put, List.setIfInBounds_toArray, List.set_cons_zero, List.set_cons_succ]
        refine draw_take 10 6 (v := ?_) rfl rfl (by kernel_rfl) (by kernel_rfl) (by kernel_rfl) (fun _ _ _ h => h) (by kernel_rfl) ?hy hHeld ?_
        case hy => (intro w hSw; (try dsimp only at hSw); go_simp; try (with_reducible rfl))
        simp only [Act.put, List.setIfInBounds_toArray, List.set_cons_zero, List.set_cons_succ]
        refine draw_take 11 7 (v := ?_) rfl rfl (by kernel_rfl) (by kernel_rfl) (by kernel_rfl) (fun _ _ _ h => h) (by kernel_rfl) ?hy hHeld ?_
        case hy => (intro w hSw; (try dsimp only at hSw); go_simp; try (with_reducible rfl))
        simp only [Act.put, List.setIfInBounds_toArray, List.set_cons_zero, List.set_cons_succ]
        refine wpAnyH_done (by kernel_rfl) ?_ _
        go_wp2
        exact bodyPost_ret (v := .tuple #[.agg #[.slice p5 ((ng + 1)) c5], .int .i64 ng, .int .i64 1, .int .i64 0]) (by simp [results, Try.results4, go_sem, y0]) rfl ⟨⟨p5, (ng + 1), c5, rfl, (HT5.out.cell _ _ (by simp only [World.size_drew]; omega)).mono (by simp only [World.size_drew]; omega)⟩, HB9.out.setCell (by simp) _⟩
end Go.Proofs.Ytggaaobpaodigaa
