/- Contracts of package slots: Refs, Move. -/
import Derived.Test.YtapfbnhcndifhaaSlG
import Derived.Test.YtapfbnhcndifhaaSlL
set_option linter.unusedVariables false
set_option linter.unusedSimpArgs false
namespace Go.Proofs.Ytapfbnhcndifhaa
open Go.RowKit

theorem MR.run_put {w : World} {B n : Nat} {f : Nat → Option Int} (h : MR w B n f) (hn : n < 1000) {i : Nat} (hi : i ≤ 1000) {r : Int} (hwf : (Lit.int .u64 r).wf = true) :
    ∃ w', (Instr.mapUpdate 80 (.map (some B)) (.int .i64 i) (.int .u64 r)).run Try.prog w = .ok () w' ∧ MR w' B (n + 1) (upd f i (some r)) ∧ w.grownBy w' (some B) := by
  obtain ⟨D, h1, h2⟩ := h
  obtain ⟨w', hrun, r1, r2⟩ := h1.update keyed Try.underlying80 (by unfold maxLen; omega) (key_nat hi) (plainElem_int Try.underlying38 hwf)
  exact ⟨w', hrun, ⟨_, r1, h2.put h1.isMap hi r⟩, r2⟩
theorem SRow.mapG {w w' : World} {kd : IntKind} {p : Option Addr} {n c B m : Nat} {xs : List Int} {f : Nat → Option Int} (h : SRow w kd p n c xs) (hm : MR w B m f) (hg : w.grownBy w' (some B)) : SRow w' kd p n c xs :=
  ⟨h.len, h.le, h.max, fun i x hx => by
    obtain ⟨b, off, hp, hc⟩ := h.row i x hx
    exact ⟨b, off, hp, hg.cell hc (fun e => hm.apart hc (Option.some.inj e).symm)⟩⟩
theorem tf_rf {t : List En} {i : Nat} {e : En} (he : t[i]? = some e) (hl : e.lv = true) : tf t i = some e.rf := by rw [tf_some he]; unfold rfO; rw [if_pos hl]
theorem infoU : (Try.prog.info? 38).map (fun i => (i.zero, i.size, i.bytes)) = some (some (.int .u64 0), 1, 8) := by kernel_rfl

set_option maxRecDepth 100000 in
set_option maxHeartbeats 1600000 in
theorem slRefs_any (p : Option Addr) (n cap : Nat) (t : List En) (w : World) (hr : VRow w 3 p n cap (t.flatMap enC)) (hwf : WfT t) :
    Calls Try.prog 19 #[.agg #[.slice p n cap]] w fun e w' => (∃ q m c, e = .returned (.slice q m c) ∧ SRow w' .u64 q m c (refsT t)) ∧ Below w.heap.size w w' := by
  have Hr := Lib.hid (fun w' (h : Below w.heap.size w w') => hr.keep h)
  have hv := Lib.hid (fun w h => slValid_any p n cap t w h)
  have hn63 := hr.i63.2
  have Hlen := Lib.hid hr.lenT
  have Hwf := Lib.hid hwf
  obtain ⟨i1, hin1, hy0, hy1, hy2⟩ := info_parts infoU
  have hX1 := OwnL.new w [.slice p n cap] 46
  have hB1 := below_box (w := w) (o := .cells #[.slice p n cap] 46)
  have hs1 : w.heap.size + 1 = (w.alloc (.cells #[.slice p n cap] 46)).heap.size := by simp
  clear hr hwf
  unfold refsT
  cases ho : okT t
  · rw [if_neg (by decide)]
    rw [ho] at hv
    go_enter Try.func19, Try.ntmps19
    go_wp2_with fail
    refine (hv.out _ (Hr.out _ hB1)).mono ?_
    rintro e w2 ⟨rfl, hb2⟩
    have HB2 := Lib.hid (bthen hB1 hb2)
    clear hX1 hB1 hs1 hb2
    go_wp2
    go_ret
    exact ⟨⟨none, 0, 0, rfl, SRow.nil _ _ _⟩, HB2.out⟩
  · rw [if_pos rfl]
    have h64 := (okT_iff.1 ho).1
    have hn64 : n ≤ 64 := by have := Hlen.out; omega
    rw [ho] at hv
    have hpo := Lib.hid (fun w h => partsOf_any p n cap t w h ho Hwf.out)
    have hrl := refs_le t
    clear ho
    go_enter Try.func19, Try.ntmps19
    go_wp2_with fail
    refine (hv.out _ (Hr.out _ hB1)).mono ?_
    rintro e w2 ⟨rfl, hb2⟩
    have HX2 := Lib.hid (hX1.keep hb2 (by omega))
    have HB2 := Lib.hid (bthen hB1 hb2)
    clear hX1 hB1 hs1 hb2
    obtain ⟨x0, -⟩ := own1S HX2.out
    go_wp2_with fail
    refine (hpo.out _ (Hr.out _ HB2.out)).mono ?_
    rintro e w3 ⟨⟨pg, ng, cg, B, rfl, hpo3⟩, hb3⟩
    have HB3 := Lib.hid (bthen HB2.out hb3)
    have HP3 := Lib.hid hpo3
    clear hpo3 hb3 x0 HX2 HB2 hpo
    go_upto_region 5 with fail
    obtain ⟨w4, hw4⟩ : ∃ w4, w3.alloc (.cells #[.slice pg ng cg, .map (some B)] 82) = w4 := ⟨_, rfl⟩
    have hb4 : Below w3.heap.size w3 w4 := by rw [← hw4]; exact below_box
    have HX4 := Lib.hid (show OwnL w4 w3.heap.size [.slice pg ng cg, .map (some B)] from by rw [← hw4]; exact OwnL.new w3 _ _)
    rw [hw4]
    have HB4 := Lib.hid (bthen HB3.out hb4)
    have HP4 := Lib.hid (HP3.out.keep hb4)
    obtain ⟨S, hS⟩ : ∃ S, w3.heap.size = S := ⟨_, rfl⟩
    rw [hS] at HX4 ⊢
    have hSl := boxLt HX4.out
    have hlv := Lib.hid (live_any w2.heap.size pg ng cg B 64 t w4 HP4.out (by omega))
    clear hw4 hb4 hS HB3 HP3
    obtain ⟨x0, x1, -, -⟩ := own2S HX4.out
    go_wp2_with fail
    refine hlv.out.mono ?_
    rintro e w5 ⟨⟨ql, m, cl, rfl, hL⟩, hb5⟩
    have hml : (refsOf t).length = m := by rw [← live_len]; exact hL.len
    have hm63 : (m : Int) ≤ 64 := by omega
    have HX5 := Lib.hid (HX4.out.keep hb5 hSl)
    have HB5 := Lib.hid (bthen HB4.out hb5)
    have HP5 := Lib.hid (HP4.out.keep hb5)
    have HL5 := Lib.hid hL
    have hSl5 := boxLt HX5.out
    clear hb5 hL hlv x0 x1 HX4 HB4 HP4 hSl
    go_upto_region 6 with fail
    go_loopw [3, 15] (fun rf i wr => ∃ (k : Nat) (pr : Option Addr) (cr : Nat), k ≤ m ∧ rf = .slice pr k cr ∧ i = .int .i64 k ∧ wr.ownsRow w5.heap.size 38 1 (.slice pr k cr) k (ivals .u64 ((refsOf t).take k)) ∧ Below w5.heap.size w5 wr) (fun _ i _ => m - (RowKit.intOf i).toNat)
    case atStart => exact ⟨0, none, 0, by omega, rfl, rfl, World.ownsRow_nil _ _ _ _, Below.refl _ _⟩
    case round =>
      obtain ⟨k, pr, cr, hk, rfl, rfl, hG, hb⟩ := hrel
      have HG := Lib.hid hG
      have HBw := Lib.hid hb
      have HP := Lib.hid (HP5.out.keep hb)
      obtain ⟨x0, x1, -, -⟩ := own2S (HX5.out.keep hb hSl5)
      have hwl := hb.size
      clear hG hb
      by_cases hlt : k < m
      · obtain ⟨y, b, off, hx, rfl, c0⟩ := (HL5.out.keep HBw.out).at_ hlt
        have hlt2 : (k : Int) < m := by omega
        obtain ⟨i, e, rfl, he, hl, -, hrf⟩ := live_at t 0 k y hx
        have hi : i ≤ 1000 := by have := (List.getElem?_eq_some_iff.1 he).1; omega
        have HV := Lib.hid (show (tf t i).getD 0 = e.rf from by rw [tf_rf he hl]; rfl)
        have HT := Lib.hid (show ivals .u64 ((refsOf t).take k) ++ [Value.int .u64 e.rf] = ivals .u64 ((refsOf t).take (k + 1)) from by rw [ivals_snoc, ← take_snoc' hrf])
        obtain ⟨V, hV⟩ : ∃ V, e.rf = V := ⟨_, rfl⟩
        rw [hV] at HV HT
        rw [Nat.zero_add] at c0
        clear hx he hl hrf hV
        go_wp2_with (first
          | (at_lookup; refine wpList_get_mr rfl _ _ rfl rfl HP.out.M i hi rfl ?_; rw [HV.out])
          | (at_builtin; refine wpList_append_own_at _ rfl _ _ 23 rfl w5.heap.size 38 i1 _ 1 8 Try.underlying23 hin1 hy0 hy1 hy2 rfl (by decide) (.slice pr k cr) k (ivals .u64 ((refsOf t).take k)) rfl (HG.out.alloc _) ⟨wr.heap.size, 0, none⟩ 1 1 [.int .u64 V] rfl rfl (World.news_of_block (cs := #[.int .u64 V]) (fr := (0, 0)) (heap_alloc_new wr _)) ?m2 ?m3 ?m4 ?m5 ?_))
        case m2 => simp [Value.oneCell']
        case m3 => unfold maxLen; omega
        case m4 => omega
        case m5 => first | omega | (simp; omega)
        intro v' w6 hown hgrow _ hat
        obtain ⟨q4, c4, rfl⟩ := formS hown
        rw [HT.out] at hown
        have hb6 := belowG (bthen HBw.out below_box) (HG.out.alloc _) hgrow (Nat.le_refl _) (by simp; omega)
        go_wp2
        go_roundw
        case rel => exact ⟨k + 1, q4, c4, by omega, rfl, by go_num, hown, hb6⟩
        case measure => first | omega | (simp [RowKit.intOf]; omega)
      · obtain rfl : k = m := by omega
        have HT : (refsOf t).take k = refsOf t := List.take_of_length_le (by omega)
        rw [HT] at HG
        go_wp2
        go_ret
        exact ⟨⟨pr, k, cr, rfl, srowS HG.out⟩, bthen HB5.out HBw.out⟩

set_option maxRecDepth 100000 in
set_option maxHeartbeats 3200000 in
theorem slMove_any (p : Option Addr) (n cap : Nat) (t : List En) (pr : Option Addr) (nr cr : Nat) (xs : List Int) (w : World) (hr : VRow w 3 p n cap (t.flatMap enC)) (hwf : WfT t) (hx : SRow w .u64 pr nr cr xs) (hxw : ∀ x ∈ xs, (Lit.int .u64 x).wf = true) :
    Calls Try.prog 30 #[.agg #[.slice p n cap], .slice pr nr cr] w fun e w' => RetT w.heap.size (moveT t xs) (moveR t xs.length) e w' ∧ Below w.heap.size w w' := by
  have Hr := Lib.hid (fun w' (h : Below w.heap.size w w') => hr.keep h)
  have Hx := Lib.hid (fun w' (h : Below w.heap.size w w') => hx.keep h)
  have hv := Lib.hid (fun w h => slValid_any p n cap t w h)
  have hn63 := hr.i63.2
  have hr63 := hx.i63.2
  have Hlen := Lib.hid hr.lenT
  have HLx := Lib.hid hx.len
  have Hwf := Lib.hid hwf
  have Hxw := Lib.hid (fun k x (h : xs[k]? = some x) => hxw x (List.mem_of_getElem? h))
  obtain ⟨hX1, hY1, hB1, hs1⟩ := start15 (w := w) (p := p) (n := n) (c := cap) (T := 46) (T2 := 46) (vs := [.slice none 0 0])
  clear hr hwf hx hxw
  obtain ⟨T0, hT0⟩ : ∃ T0, Hid (moveT t xs = T0) := ⟨_, Lib.hid rfl⟩
  obtain ⟨E0, hE0⟩ : ∃ E0, Hid (moveR t xs.length = E0) := ⟨_, Lib.hid rfl⟩
  rw [hT0.out, hE0.out]
  cases ho : okT t
  · have h1 : moveR t xs.length = 1 := by unfold moveR; rw [if_pos (.inl ho)]
    obtain rfl : E0 = 1 := hE0.out.symm.trans h1
    obtain rfl : T0 = [] := hT0.out.symm.trans (by unfold moveT; rw [h1, if_neg (by decide)])
    rw [ho] at hv
    clear h1 ho
    go_enter Try.func30, Try.ntmps30
    go_wp2_with fail
    refine (hv.out _ (Hr.out _ hB1)).mono ?_
    rintro e w2 ⟨rfl, hb2⟩
    have HY2 := Lib.hid (hY1.keep hb2 (by omega))
    have HB2 := Lib.hid (bthen hB1 hb2)
    clear hX1 hY1 hB1 hs1 hb2
    obtain ⟨y0, v0⟩ := own1S HY2.out
    go_wp2
    exact bodyPost_ret (v := .tuple #[.agg #[.slice none 0 0], .int .i64 1]) (by simp [results, Try.results30, go_sem, y0]) rfl ⟨RetT.zero _ _ _, HB2.out.setCell (by simp) _⟩
  · have Ho := Lib.hid ho
    have h64 := (okT_iff.1 ho).1
    have hn64 : n ≤ 64 := by have := Hlen.out; omega
    rw [ho] at hv
    have hpo := Lib.hid (fun w h => partsOf_any p n cap t w h ho Hwf.out)
    have hrl := refs_le t
    clear ho
    go_enter Try.func30, Try.ntmps30
    go_wp2_with fail
    refine (hv.out _ (Hr.out _ hB1)).mono ?_
    rintro e w2 ⟨rfl, hb2⟩
    have HX2 := Lib.hid (hX1.keep hb2 (by omega))
    have HY2 := Lib.hid (hY1.keep hb2 (by omega))
    have HB2 := Lib.hid (bthen hB1 hb2)
    have hs2 := hb2.size
    rw [← hs1] at hs2
    clear hX1 hY1 hB1 hs1 hb2
    obtain ⟨x0, -⟩ := own1S HX2.out
    go_wp2_with fail
    refine (hpo.out _ (Hr.out _ HB2.out)).mono ?_
    rintro e w3 ⟨⟨pg, ng, cg, B, rfl, hpo3⟩, hb3⟩
    have hng : ng = n := by have h := hpo3.len; rw [gs_len, Hlen.out] at h; omega
    subst hng
    have HY3 := Lib.hid (HY2.out.keep hb3 (by omega))
    have HB3 := Lib.hid (bthen HB2.out hb3)
    have HP3 := Lib.hid hpo3
    have hs3 := hb3.size
    clear hpo3 hb3 x0 HX2 HY2 HB2 hpo
    go_upto_region 4 with fail
    obtain ⟨w4, hw4⟩ : ∃ w4, w3.alloc (.cells #[.slice pg ng cg, .map (some B)] 82) = w4 := ⟨_, rfl⟩
    have hb4 : Below w3.heap.size w3 w4 := by rw [← hw4]; exact below_box
    have HX4 := Lib.hid (show OwnL w4 w3.heap.size [.slice pg ng cg, .map (some B)] from by rw [← hw4]; exact OwnL.new w3 _ _)
    rw [hw4]
    have HY4 := Lib.hid (HY3.out.keep hb4 (by omega))
    have HB4 := Lib.hid (bthen HB3.out hb4)
    have HP4 := Lib.hid (HP3.out.keep hb4)
    obtain ⟨S, hS⟩ : ∃ S, w3.heap.size = S := ⟨_, rfl⟩
    rw [hS] at HX4 hs3 ⊢
    have hSl := boxLt HX4.out
    have hYl := boxLt HY4.out
    have hlv := Lib.hid (live_any w2.heap.size pg ng cg B 64 t w4 HP4.out (by omega))
    have hBS : B ≠ S := HP4.out.M.box HX4.out
    clear hw4 hb4 hS HY3 HB3 HP3
    obtain ⟨x0, x1, -, -⟩ := own2S HX4.out
    obtain ⟨y0, v0⟩ := own1S HY4.out
    obtain ⟨m, hm⟩ : ∃ m, (refsOf t).length = m := ⟨_, rfl⟩
    by_cases hnm : nr = m
    · subst hnm
      have h1 : moveR t xs.length = 0 := by unfold moveR; rw [if_neg (by rw [Ho.out, HLx.out, hm]; simp)]
      obtain rfl : E0 = 0 := hE0.out.symm.trans h1
      obtain ⟨FM, hFM⟩ : ∃ FM, Hid (mvTo t xs nr = FM) := ⟨_, Lib.hid rfl⟩
      obtain rfl : T0 = tabOf (gs t) FM := hT0.out.symm.trans (by unfold moveT mvT; rw [h1, if_pos rfl, hm, hFM.out])
      have hl2 : (liveI t).length = nr := by rw [live_len, hm]
      have HM4 := Lib.hid HP4.out.M
      rw [hm] at hrl
      clear h1
      go_upto_region 6 with (at_len; refine wpList_len_mr rfl _ rfl rfl HM4.out ?_; rw [hm])
      go_wp2_with fail
      refine hlv.out.mono ?_
      rintro e w5 ⟨⟨ql, ml, cl, rfl, hL⟩, hb5⟩
      obtain rfl : ml = nr := hL.len.symm.trans hl2
      have HX5 := Lib.hid (HX4.out.keep hb5 hSl)
      have HY5 := Lib.hid (HY4.out.keep hb5 hYl)
      have HB5 := Lib.hid (bthen HB4.out hb5)
      have HP5 := Lib.hid (HP4.out.keep hb5)
      have HL5 := Lib.hid hL
      have hs5 := hb5.size
      clear hb5 hL hlv x0 x1 y0 v0 HX4 HY4 HB4 HP4 HM4 hl2
      go_upto_region 7 with fail
      go_loopw [25] (fun i wr => ∃ (k : Nat), k ≤ ml ∧ i = .int .i64 k ∧ OwnL wr S [.slice pg ng cg, .map (some B)] ∧ OwnL wr (w.heap.size + 1) [.slice none 0 0] ∧ PO wr w2.heap.size pg ng cg B (64 + k) (gs t) (mvTo t xs k) ∧ SRow wr .i64 ql ml cl (liveI t) ∧ Below w.heap.size w wr ∧ w5.heap.size ≤ wr.heap.size) (fun i _ => ml - (RowKit.intOf i).toNat)
      case atStart => exact ⟨0, by omega, rfl, HX5.out, HY5.out, by rw [mvTo_zero]; exact HP5.out, HL5.out, HB5.out, Nat.le_refl _⟩
      case round =>
        clear HX5 HY5 HB5 HP5 HL5
        obtain ⟨k, hk, rfl, hX, hY, hP, hL, hb, hws⟩ := hrel
        have HX := Lib.hid hX
        have HY := Lib.hid hY
        have HP := Lib.hid hP
        have HL := Lib.hid hL
        have HB := Lib.hid hb
        obtain ⟨x0, x1, -, -⟩ := own2S hX
        obtain ⟨y0, v0⟩ := own1S hY
        clear hX hY hP hL hb
        by_cases hlt : k < ml
        · obtain ⟨y, b, off, hx, rfl, c0⟩ := HL.out.at_ hlt
          obtain ⟨x, b2, off2, hx2, rfl, r0⟩ := (Hx.out _ HB.out).at_ hlt
          have hlt2 : (k : Int) < ml := by omega
          obtain ⟨i, e, rfl, he, hl, hrk, hrf⟩ := live_at t 0 k y hx
          have hi : i ≤ 1000 := by have := (List.getElem?_eq_some_iff.1 he).1; omega
          have HMv := Lib.hid (show mvTo t xs (k + 1) = upd (mvTo t xs k) i (some x) from by
            have h := mvTo_step (xs := xs) (x := x) he hl (by unfold rankV; rw [hrk]; exact hx2)
            unfold rankV at h
            rw [hrk] at h; exact h)
          have hwx := Hxw.out k x hx2
          obtain ⟨w7, hrun, hM7, hg7⟩ := MR.run_put HP.out.M.drew (by omega) hi hwx
          have hne : some B ≠ (Value.slice pg ng cg).ownBlock := HP.out.M.row HP.out.G
          have hBb : B ≠ b2 := HP.out.M.apart r0
          have hBb0 : B ≠ b := HP.out.M.apart c0
          rw [Nat.zero_add] at c0
          clear hx hx2 he hl hrk hrf hwx
          go_upto_region 9 with fail
          refine wp_region_held_drew (S := fun w' => w'.cell? ⟨S, 1, none⟩ = some (.map (some B)) ∧ w'.cell? ⟨b2, off2 + k, none⟩ = some (.int .u64 x)) (by kernel_rfl) ⟨x1, r0⟩ (fun hHeld => ?_)
          refine draw_take 0 30 (v := ?_) rfl rfl (by kernel_rfl) (by kernel_rfl) (by kernel_rfl) (fun _ _ _ h => h) (by kernel_rfl) ?hy hHeld ?_
          case hy => (intro w hSw; (try dsimp only at hSw); go_simp; try (with_reducible rfl))
          simp only [Act.put, List.setIfInBounds_toArray, List.set_cons_zero, List.set_cons_succ]
          refine draw_take 1 31 (v := ?_) rfl rfl (by kernel_rfl) (by kernel_rfl) (by kernel_rfl) (fun _ _ _ h => h) (by kernel_rfl) ?hy hHeld ?_
          case hy => (intro w hSw; (try dsimp only at hSw); go_simp; try (with_reducible rfl))
          simp only [Act.put, List.setIfInBounds_toArray, List.set_cons_zero, List.set_cons_succ]
          refine draw_take 2 32 (v := ?_) rfl rfl (by kernel_rfl) (by kernel_rfl) (by kernel_rfl) (fun _ _ _ h => h) (by kernel_rfl) ?hy hHeld ?_
          case hy => (intro w hSw; (try dsimp only at hSw); go_simp; try (with_reducible rfl))
          simp only [Act.put, List.setIfInBounds_toArray, List.set_cons_zero, List.set_cons_succ]
          refine draw_take 3 33 (v := ?_) rfl rfl (by kernel_rfl) (by kernel_rfl) (by kernel_rfl) (fun _ _ _ h => h) (by kernel_rfl) ?hy hHeld ?_
          case hy => (intro w hSw; (try dsimp only at hSw); go_simp; try (with_reducible rfl))
          simp only [Act.put, List.setIfInBounds_toArray, List.set_cons_zero, List.set_cons_succ]
          refine draw_take 4 34 (v := ?_) rfl rfl (by kernel_rfl) (by kernel_rfl) (by kernel_rfl) (fun _ _ _ h => h) (by kernel_rfl) ?hy hHeld ?_
          case hy => (intro w hSw; (try dsimp only at hSw); go_simp; try (with_reducible rfl))
          simp only [Act.put, List.setIfInBounds_toArray, List.set_cons_zero, List.set_cons_succ]
          refine draw_take 5 35 (v := ?_) rfl rfl (by kernel_rfl) (by kernel_rfl) (by kernel_rfl) (fun _ _ _ h => h) (by kernel_rfl) ?hy hHeld ?_
          case hy => (intro w hSw; (try dsimp only at hSw); go_simp; try (with_reducible rfl))
          simp only [Act.put, List.setIfInBounds_toArray, List.set_cons_zero, List.set_cons_succ]
          refine draw_take 6 36 (v := ?_) rfl rfl (by kernel_rfl) (by kernel_rfl) (by kernel_rfl) (fun _ _ _ h => h) (by kernel_rfl) ?hy hHeld ?_
          case hy => (intro w hSw; (try dsimp only at hSw); go_simp; try (with_reducible rfl))
          simp only [Act.put, List.setIfInBounds_toArray, List.set_cons_zero, List.set_cons_succ]
          refine wpAnyH_ready (rs := [7]) (by kernel_rfl) (by simp) ?_
          refine AllReadyH.cons rfl (fun K hK => ?_) AllReadyH.nil
          go_simp
          refine hK.out _ _ ⟨hg7.cell x1 (by simp; omega), hg7.cell r0 (by simp; omega)⟩ (fun hHeld => ?_)
          clear hK K
          try simp only [Act.put, List.setIfInBounds_toArray, List.set_cons_zero, List.set_cons_succ]
          refine wpAnyH_done (by kernel_rfl) ?_ _
          have hd : Below wr.heap.size wr wr.drew := Below.drew (Below.refl _ _)
          go_wp2
          go_roundw
          case rel => exact ⟨k + 1, by omega, by go_num, boxG (HX.out.keep hd (by omega)) hg7 (by simp; omega) (by simp; omega), boxG (HY.out.keep hd (by omega)) hg7 (by simp; omega) (by have := HP.out.hB; simp; omega), by rw [HMv.out]; exact ⟨grownS (own_below HP.out.G hd) hg7 (.inr (Ne.symm hne)), hM7, HP.out.hB⟩, (HL.out.keep hd).mapG HP.out.M.drew hg7, belowM (bthen HB.out hd) hg7 (by have := HP.out.hB; omega) (by simp; omega), by have := hg7.size; simp at this; omega⟩
          case measure => first | omega | (simp [RowKit.intOf]; omega)
        · obtain rfl : k = ml := by omega
          rw [hFM.out] at HP
          go_wp2_with fail
          refine (table_any _ pg ng cg B (64 + k) (gs t) _ wr HP.out (by omega)).mono ?_
          rintro e w9 ⟨⟨p5, c5, rfl, hT5⟩, hb5⟩
          have HT5 := Lib.hid hT5
          have HY5 := Lib.hid (HY.out.keep hb5 (by omega))
          have HB5 := Lib.hid (bthen HB.out hb5)
          clear hT5 hb5 x0 x1 y0 v0
          obtain ⟨y0, v0⟩ := own1S HY5.out
          go_wp2
          exact bodyPost_ret (v := .tuple #[.agg #[.slice p5 ng c5], .int .i64 0]) (by simp [results, Try.results30, go_sem, y0]) rfl ⟨⟨p5, ng, c5, rfl, (HT5.out.cell _ _ (by simp only; omega)).mono (by omega)⟩, HB5.out.setCell (by simp) _⟩
    · have h1 : moveR t xs.length = 1 := by unfold moveR; rw [if_pos (.inr (by rw [HLx.out, hm]; exact hnm))]
      obtain rfl : E0 = 1 := hE0.out.symm.trans h1
      obtain rfl : T0 = [] := hT0.out.symm.trans (by unfold moveT; rw [h1, if_neg (by decide)])
      have hq : ((nr : Int) != (m : Int)) = true := bne_iff_ne.2 (by omega)
      have HM4 := Lib.hid HP4.out.M
      clear h1
      go_wp2_with (at_len; refine wpList_len_mr rfl _ rfl rfl HM4.out ?_; rw [hm])
      exact bodyPost_ret (v := .tuple #[.agg #[.slice none 0 0], .int .i64 1]) (by simp [results, Try.results30, go_sem, y0]) rfl ⟨RetT.zero _ _ _, HB4.out.setCell (by simp) _⟩
end Go.Proofs.Ytapfbnhcndifhaa
