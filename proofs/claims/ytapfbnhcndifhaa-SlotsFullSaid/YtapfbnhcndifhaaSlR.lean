/- Contract of the reference of layer 15: Move. -/
import Derived.Test.YtapfbnhcndifhaaSlQ
set_option linter.unusedVariables false
set_option linter.unusedSimpArgs false
namespace Go.Proofs.Ytapfbnhcndifhaa
open Go.RowKit

theorem flat_setE1 {sl : List En} {k : Nat} {s : En} (x : Int) (hs : sl[k]? = some s) : (sl.flatMap enC).set (k * 3 + 1) (.int .u64 x) = (sl.set k ⟨s.gn, x, s.lv⟩).flatMap enC := by
  have hk := (List.getElem?_eq_some_iff.1 hs).1
  rw [← flat_setS enC enC_len ⟨s.gn, x, s.lv⟩ rfl sl k hk]
  have h0 := flat_at enC 3 enC_len sl k s 0 (by decide) hs
  have h2 := flat_at enC 3 enC_len sl k s 2 (by decide) hs
  apply List.ext_getElem?
  intro i
  simp only [List.getElem?_set, List.length_set]
  have hl : (sl.flatMap enC).length = sl.length * 3 := flat_len enC 3 enC_len sl
  have hk3 : k * 3 + 2 < (sl.flatMap enC).length := by rw [hl]; omega
  by_cases e2 : k * 3 + 2 = i
  · subst e2
    rw [if_neg (by omega), if_pos rfl, if_pos hk3, h2]; rfl
  · rw [if_neg e2]
    by_cases e1 : k * 3 + 1 = i
    · rw [if_pos e1, if_pos e1]
    · rw [if_neg e1, if_neg e1]
      by_cases e0 : k * 3 = i
      · subst e0
        rw [if_pos rfl, if_pos (by omega)]
        rw [Nat.add_zero] at h0; rw [h0]; rfl
      · rw [if_neg e0]
theorem own_setRfE {w : World} {base g n cap T : Nat} {qs : List En} (h : w.ownsRow base T 3 (.slice (some ⟨g, 0, none⟩) n cap) n (qs.flatMap enC)) {k : Nat} {s : En} (hs : qs[k]? = some s) (x : Int) :
    (w.setCell ⟨g, k * 3 + 1, none⟩ (.int .u64 x)).ownsRow base T 3 (.slice (some ⟨g, 0, none⟩) n cap) n ((qs.set k ⟨s.gn, x, s.lv⟩).flatMap enC) := by
  rw [← flat_setE1 x hs]; exact (h.stored _ _).1

/-- The table of which the first i entries are done. -/
def mvA (t : List En) (xs : List Int) (i : Nat) : List En := (mvT t xs).take i ++ t.drop i
theorem mvT_len (t : List En) (xs : List Int) : (mvT t xs).length = t.length := by unfold mvT; rw [tabOf_len, gs_len]
theorem mvA_len (t : List En) (xs : List Int) (i : Nat) : (mvA t xs i).length = t.length := by
  unfold mvA; rw [List.length_append, List.length_take, List.length_drop, mvT_len]; omega
theorem mvA_zero (t : List En) (xs : List Int) : mvA t xs 0 = t := by unfold mvA; simp
theorem mvA_end (t : List En) (xs : List Int) {i : Nat} (h : t.length = i) : mvA t xs i = mvT t xs := by
  unfold mvA; rw [List.take_of_length_le (by rw [mvT_len]; omega), List.drop_of_length_le (by omega), List.append_nil]
theorem mvA_at {t : List En} {xs : List Int} {i : Nat} {e : En} (h : t[i]? = some e) : (mvA t xs i)[i]? = some e := by
  have hl := (List.getElem?_eq_some_iff.1 h).1
  unfold mvA
  rw [List.getElem?_append_right (by rw [List.length_take]; omega), List.length_take, mvT_len, List.getElem?_drop]
  rw [show i + (i - min i t.length) = i by omega]; exact h
theorem mvA_step {t : List En} {xs : List Int} {i : Nat} {e y : En} (h : t[i]? = some e) (hy : (mvT t xs)[i]? = some y) : (mvA t xs i).set i y = mvA t xs (i + 1) := by
  have hl := (List.getElem?_eq_some_iff.1 h).1
  apply List.ext_getElem?
  intro j
  rw [List.getElem?_set]
  have hlen : ((mvT t xs).take i).length = i := by rw [List.length_take, mvT_len]; omega
  have hlen2 : ((mvT t xs).take (i + 1)).length = i + 1 := by rw [List.length_take, mvT_len]; omega
  by_cases hj : i = j
  · subst hj
    rw [if_pos rfl, if_pos (by rw [mvA_len]; exact hl)]
    unfold mvA
    rw [List.getElem?_append_left (by omega), List.getElem?_take, if_pos (by omega), hy]
  · rw [if_neg hj]
    unfold mvA
    by_cases h1 : j < i
    · rw [List.getElem?_append_left (by omega), List.getElem?_append_left (by omega), List.getElem?_take, List.getElem?_take, if_pos h1, if_pos (by omega)]
    · rw [List.getElem?_append_right (by omega), List.getElem?_append_right (by omega), hlen, hlen2, List.getElem?_drop, List.getElem?_drop]
      congr 1; omega
theorem mvT_live {t : List En} {xs : List Int} {i : Nat} {e : En} {x : Int} (h : t[i]? = some e) (hl : e.lv = true) (hx : xs[rankV t i]? = some x) : (mvT t xs)[i]? = some ⟨e.gn, x, e.lv⟩ := by
  unfold mvT
  rw [tabOf_get, gs_get, h]
  simp only [Option.map_some]
  unfold mvTo
  rw [h]
  simp only
  rw [if_pos hl, if_pos (rank_lt h hl), List.getD, hx, hl]; rfl
theorem mvT_dead {t : List En} {xs : List Int} {i : Nat} {e : En} (ho : okT t = true) (h : t[i]? = some e) (hl : e.lv = false) : (mvT t xs)[i]? = some e := by
  unfold mvT
  rw [tabOf_get, gs_get, h]
  simp only [Option.map_some]
  unfold mvTo
  rw [h]
  simp only
  rw [if_neg (by rw [hl]; decide)]
  have := (enB_iff.1 ((okT_iff.1 ho).2 i e h)).2.2 hl
  obtain ⟨g, r, l⟩ := e
  simp only at this hl
  subst this hl; rfl
theorem mvA_dead {t : List En} {xs : List Int} {i : Nat} {e : En} (ho : okT t = true) (h : t[i]? = some e) (hl : e.lv = false) : mvA t xs i = mvA t xs (i + 1) := by
  rw [← mvA_step h (mvT_dead ho h hl)]
  apply List.ext_getElem?
  intro j
  rw [List.getElem?_set]
  by_cases hj : i = j
  · subst hj
    rw [if_pos rfl, if_pos (by rw [mvA_len]; exact (List.getElem?_eq_some_iff.1 h).1)]; exact mvA_at h
  · rw [if_neg hj]

set_option maxRecDepth 100000 in
set_option maxHeartbeats 3200000 in
theorem refMove15 (p : Option Addr) (n cap : Nat) (t : List En) (pr : Option Addr) (nr cr : Nat) (xs : List Int) (w : World) (hr : VRow w 3 p n cap (t.flatMap enC)) (hx : SRow w .u64 pr nr cr xs) :
    Calls Try.prog 31 #[.agg #[.slice p n cap], .slice pr nr cr] w fun e w' => RetT w.heap.size (moveT t xs) (moveR t xs.length) e w' ∧ Below w.heap.size w w' := by
  have Hr := Lib.hid (fun w' (h : Below w.heap.size w w') => hr.keep h)
  have Hx := Lib.hid (fun w' (h : Below w.heap.size w w') => hx.keep h)
  have hv := Lib.hid (fun w h => refValid15 p n cap t w h)
  have hrf := Lib.hid (fun w h => refRefs15 p n cap t w h)
  have hn63 := hr.i63.2
  have hr63 := hx.i63.2
  have Hlen := Lib.hid hr.lenT
  have HLx := Lib.hid hx.len
  obtain ⟨i0, hin, hz0, hz1, hz2⟩ := info_parts infoEn
  obtain ⟨hX1, hY1, hB1, hs1⟩ := start15 (w := w) (p := p) (n := n) (c := cap) (T := 46) (T2 := 46) (vs := [.slice none 0 0])
  clear hr hx
  obtain ⟨T0, hT0⟩ : ∃ T0, Hid (moveT t xs = T0) := ⟨_, Lib.hid rfl⟩
  obtain ⟨E0, hE0⟩ : ∃ E0, Hid (moveR t xs.length = E0) := ⟨_, Lib.hid rfl⟩
  rw [hT0.out, hE0.out]
  cases ho : okT t
  · have h1 : moveR t xs.length = 1 := by unfold moveR; rw [if_pos (.inl ho)]
    obtain rfl : E0 = 1 := hE0.out.symm.trans h1
    obtain rfl : T0 = [] := hT0.out.symm.trans (by unfold moveT; rw [h1, if_neg (by decide)])
    rw [ho] at hv
    clear h1 ho
    go_enter Try.func31, Try.ntmps31
    go_wp2_with fail
    refine (hv.out _ (Hr.out _ hB1)).mono ?_
    rintro e w2 ⟨rfl, hb2⟩
    have HY2 := Lib.hid (hY1.keep hb2 (by omega))
    have HB2 := Lib.hid (bthen hB1 hb2)
    clear hX1 hY1 hB1 hs1 hb2
    obtain ⟨y0, v0⟩ := own1S HY2.out
    go_wp2
    exact bodyPost_ret (v := .tuple #[.agg #[.slice none 0 0], .int .i64 1]) (by simp [results, Try.results31, go_sem, y0]) rfl ⟨RetT.zero _ _ _, HB2.out.setCell (by simp) _⟩
  · have Ho := Lib.hid ho
    have h64 := (okT_iff.1 ho).1
    have hn64 : n ≤ 64 := by have := Hlen.out; omega
    rw [ho] at hv
    have hrt : refsT t = refsOf t := by unfold refsT; rw [if_pos ho]
    rw [hrt] at hrf
    obtain ⟨m, hm⟩ : ∃ m, (refsOf t).length = m := ⟨_, rfl⟩
    clear ho hrt
    go_enter Try.func31, Try.ntmps31
    go_wp2_with fail
    refine (hv.out _ (Hr.out _ hB1)).mono ?_
    rintro e w2 ⟨rfl, hb2⟩
    have HX2 := Lib.hid (hX1.keep hb2 (by omega))
    have HY2 := Lib.hid (hY1.keep hb2 (by omega))
    have HB2 := Lib.hid (bthen hB1 hb2)
    have hs2 := hb2.size
    rw [← hs1] at hs2
    clear hX1 hY1 hB1 hs1 hb2
    obtain ⟨x0, -⟩ := own1S HX2.out
    go_wp2_with fail
    refine (hrf.out _ (Hr.out _ HB2.out)).mono ?_
    rintro e w3 ⟨⟨ql, ml, cl, rfl, hL⟩, hb3⟩
    obtain rfl : ml = m := hL.len.symm.trans hm
    have HX3 := Lib.hid (HX2.out.keep hb3 (by omega))
    have HY3 := Lib.hid (HY2.out.keep hb3 (by omega))
    have HB3 := Lib.hid (bthen HB2.out hb3)
    have hs3 := hb3.size
    clear hL hb3 x0 HX2 HY2 HB2
    obtain ⟨x0, -⟩ := own1S HX3.out
    obtain ⟨y0, v0⟩ := own1S HY3.out
    by_cases hnm : nr = ml
    · subst hnm
      have h1 : moveR t xs.length = 0 := by unfold moveR; rw [if_neg (by rw [Ho.out, HLx.out, hm]; simp)]
      obtain rfl : E0 = 0 := hE0.out.symm.trans h1
      obtain ⟨TM, hTM⟩ : ∃ TM, Hid (mvT t xs = TM) := ⟨_, Lib.hid rfl⟩
      obtain rfl : T0 = TM := hT0.out.symm.trans (by unfold moveT; rw [h1, if_pos rfl, hTM.out])
      have hal := boxLt HX3.out
      clear h1
      go_wp2_with (at_builtin; refine wpList_append_vrow rfl _ _ 44 rfl w3.heap.size 65 i0 _ 3 24 Try.underlying44 hin hz0 hz1 hz2 rfl (by decide) (.slice (some ⟨w3.heap.size, 0, none⟩) 0 0) 0 [] rfl (noneS w3 65 3) p n cap (t.flatMap enC) rfl ?src (enC_one t) ?c3 ?c4 ?c5 ?_)
      case src => exact Hr.out _ (bthen HB3.out below_box)
      case c3 => unfold maxLen; omega
      case c4 => omega
      case c5 => simp
      intro v' w4 hown hgrow
      have hb0 : Below w3.heap.size w3 w4 := (below_box).grown hgrow (by simp) (fun k h => by simp [Value.ownBlock] at h; omega)
      try simp only [Nat.zero_add, List.nil_append] at hown
      obtain ⟨q, c, rfl⟩ := formS hown
      have HG4 := Lib.hid hown
      have HY4 := Lib.hid (HY3.out.keep hb0 (by omega))
      have HB4 := Lib.hid (bthen HB3.out hb0)
      have hs4 := hb0.size
      clear hown hgrow hb0 x0 y0 v0 hal HX3 HY3 HB3
      go_upto_region 6 with fail
      obtain ⟨S, hS⟩ : ∃ S, w.heap.size + 1 = S := ⟨_, rfl⟩
      rw [hS] at HY4 ⊢
      have hS1 : w.heap.size < S ∧ S < w3.heap.size := by omega
      obtain ⟨hS1, hS2⟩ := hS1
      clear hS
      go_loopw [7, 8] (fun kk i wr => ∃ (k : Nat), k ≤ n ∧ kk = .int .i64 (rankV t k) ∧ i = .int .i64 k ∧ wr.ownsRow w3.heap.size 65 3 (.slice q n c) n ((mvA t xs k).flatMap enC) ∧ OwnL wr S [.slice none 0 0] ∧ Below w.heap.size w wr ∧ w4.heap.size ≤ wr.heap.size) (fun _ i _ => n - (RowKit.intOf i).toNat)
      case atStart => exact ⟨0, by omega, rfl, rfl, by rw [mvA_zero]; exact HG4.out, HY4.out, HB4.out, Nat.le_refl _⟩
      case round =>
        clear HG4 HY4 HB4
        obtain ⟨k, hk, rfl, rfl, hG, hY, hb, hws⟩ := hrel
        have HG := Lib.hid hG
        have HY := Lib.hid hY
        have HB := Lib.hid hb
        obtain ⟨y0, v0⟩ := own1S hY
        clear hG hY hb
        by_cases hlt : k < n
        · obtain ⟨g, rfl, hg1, hg2⟩ := someS HG.out (by omega)
          obtain ⟨e, he⟩ : ∃ e, t[k]? = some e := ⟨_, List.getElem?_eq_getElem (by have := Hlen.out; omega)⟩
          have hA := mvA_at (xs := xs) he
          obtain ⟨⟨c0, c1, c2⟩, f0, f1, f2⟩ := own_en HG.out hA
          have hlt2 : (k : Int) < n := by omega
          have HRk := Lib.hid (rank_succ he)
          have hSg : S < g := by omega
          cases hl : e.lv
          · have HD := Lib.hid (mvA_dead (xs := xs) Ho.out he hl)
            rw [hl] at c2 HRk
            obtain ⟨R0, hR0⟩ : ∃ R0, Hid (rankV t k = R0) := ⟨_, Lib.hid rfl⟩
            rw [hR0.out] at HRk ⊢
            clear he hA hl
            go_wp2
            go_roundw
            case rel => exact ⟨k + 1, by omega, by rw [HRk.out]; rfl, by go_num, by rw [← HD.out]; exact HG.out, HY.out, HB.out, hws⟩
            case measure => first | omega | (simp [RowKit.intOf]; omega)
          · have hrk := rank_lt he hl
            rw [hm] at hrk
            obtain ⟨x, b2, off2, hx2, rfl, r0⟩ := (Hx.out _ HB.out).at_ hrk
            have HD := Lib.hid ((mvA_step he (mvT_live he hl hx2)))
            have HS := Lib.hid (own_setRfE HG.out hA x)
            rw [HD.out] at HS
            rw [hl] at c2 HRk
            obtain ⟨R0, hR0⟩ : ∃ R0, Hid (rankV t k = R0) := ⟨_, Lib.hid rfl⟩
            rw [hR0.out] at HRk r0 hrk ⊢
            have hrk2 : (R0 : Int) < nr := by omega
            clear he hA hl hx2
            go_wp2
            go_roundw
            case rel => exact ⟨k + 1, by omega, by rw [HRk.out]; go_num, by go_num, HS.out, HY.out.other _ _ (by simp only; omega), HB.out.setCell (by simp only; omega) _, by simp; omega⟩
            case measure => first | omega | (simp [RowKit.intOf]; omega)
        · obtain rfl : k = n := by omega
          have HE := Lib.hid (mvA_end t xs Hlen.out)
          rw [HE.out, hTM.out] at HG
          go_wp2
          exact bodyPost_ret (v := .tuple #[.agg #[.slice q k c], .int .i64 0]) (by simp [results, Try.results31, go_sem, y0]) rfl ⟨⟨q, k, c, rfl, ((FT.own HG.out).cell _ _ (by first | omega | (simp only; omega))).mono (by omega)⟩, HB.out.setCell (by first | omega | (simp only; omega)) _⟩
    · have h1 : moveR t xs.length = 1 := by unfold moveR; rw [if_pos (.inr (by rw [HLx.out, hm]; exact hnm))]
      obtain rfl : E0 = 1 := hE0.out.symm.trans h1
      obtain rfl : T0 = [] := hT0.out.symm.trans (by unfold moveT; rw [h1, if_neg (by decide)])
      have hq : ((nr : Int) != (ml : Int)) = true := bne_iff_ne.2 (by omega)
      clear h1
      go_wp2
      exact bodyPost_ret (v := .tuple #[.agg #[.slice none 0 0], .int .i64 1]) (by simp [results, Try.results31, go_sem, y0]) rfl ⟨RetT.zero _ _ _, HB3.out.setCell (by simp) _⟩
end Go.Proofs.Ytapfbnhcndifhaa
