/- Contract of the reference of layer 15: New. -/
import Derived.Test.YtapfbnhcndifhaaSlO
set_option linter.unusedVariables false
set_option linter.unusedSimpArgs false
namespace Go.Proofs.Ytapfbnhcndifhaa
open Go.RowKit

set_option maxRecDepth 100000 in
set_option maxHeartbeats 3200000 in
theorem refNew15 (p : Option Addr) (n cap : Nat) (t : List En) (r : Int) (w : World) (hr : VRow w 3 p n cap (t.flatMap enC)) :
    Calls Try.prog 22 #[.agg #[.slice p n cap], .int .u64 r] w fun e w' => RetNT w.heap.size (newT t r) (newN t) (newG t) (newE t) e w' ∧ Below w.heap.size w w' := by
  have Hr := Lib.hid (fun w' (h : Below w.heap.size w w') => hr.keep h)
  have hv := Lib.hid (fun w h => refValid15 p n cap t w h)
  have hn63 := hr.i63.2
  have Hlen := Lib.hid hr.lenT
  obtain ⟨i0, hin, hz0, hz1, hz2⟩ := info_parts infoEn
  obtain ⟨hX1, hY1, hB1, hs1⟩ := start15 (w := w) (p := p) (n := n) (c := cap) (T := 46) (T2 := 46) (vs := [.slice none 0 0])
  clear hr
  obtain ⟨T0, hT0⟩ : ∃ T0, Hid (newT t r = T0) := ⟨_, Lib.hid rfl⟩
  obtain ⟨I0, hI0⟩ : ∃ I0, Hid (newN t = I0) := ⟨_, Lib.hid rfl⟩
  obtain ⟨GG, hGG⟩ : ∃ GG, Hid (newG t = GG) := ⟨_, Lib.hid rfl⟩
  obtain ⟨E0, hE0⟩ : ∃ E0, Hid (newE t = E0) := ⟨_, Lib.hid rfl⟩
  rw [hT0.out, hI0.out, hGG.out, hE0.out]
  cases ho : okT t
  · obtain ⟨e1, e2, e3⟩ := new_no (r := r) (newE_a ho) (by decide)
    obtain rfl : T0 = [] := hT0.out.symm.trans e1
    obtain rfl : I0 = 0 := hI0.out.symm.trans e2
    obtain rfl : GG = 0 := hGG.out.symm.trans e3
    obtain rfl : E0 = 1 := hE0.out.symm.trans (newE_a ho)
    rw [ho] at hv
    clear e1 e2 e3
    go_enter Try.func22, Try.ntmps22
    go_wp2_with fail
    refine (hv.out _ (Hr.out _ hB1)).mono ?_
    rintro e w2 ⟨rfl, hb2⟩
    have HY2 := Lib.hid (hY1.keep hb2 (by omega))
    have HB2 := Lib.hid (bthen hB1 hb2)
    clear hX1 hY1 hB1 hs1 hb2
    obtain ⟨y0, v0⟩ := own1S HY2.out
    go_wp2
    exact bodyPost_ret (v := .tuple #[.agg #[.slice none 0 0], .int .i64 0, .int .i64 0, .int .i64 1]) (by simp [results, Try.results22, go_sem, y0]) rfl ⟨RetNT.zero _ _ _, HB2.out.setCell (by simp) _⟩
  · have Ho := Lib.hid ho
    have h64 := (okT_iff.1 ho).1
    have hn64 : n ≤ 64 := by have := Hlen.out; omega
    rw [ho] at hv
    clear ho
    go_enter Try.func22, Try.ntmps22
    go_wp2_with fail
    refine (hv.out _ (Hr.out _ hB1)).mono ?_
    rintro e w2 ⟨rfl, hb2⟩
    have HX2 := Lib.hid (hX1.keep hb2 (by omega))
    have HY2 := Lib.hid (hY1.keep hb2 (by omega))
    have HB2 := Lib.hid (bthen hB1 hb2)
    have hs2 := hb2.size
    rw [← hs1] at hs2
    clear hX1 hY1 hB1 hs1 hb2
    obtain ⟨x0, -⟩ := own1S HX2.out
    have hal := boxLt HX2.out
    go_wp2_with (at_builtin; refine wpList_append_vrow rfl _ _ 44 rfl w2.heap.size 65 i0 _ 3 24 Try.underlying44 hin hz0 hz1 hz2 rfl (by decide) (.slice (some ⟨w2.heap.size, 0, none⟩) 0 0) 0 [] rfl (noneS w2 65 3) p n cap (t.flatMap enC) rfl ?src (enC_one t) ?c3 ?c4 ?c5 ?_)
    case src => exact Hr.out _ (bthen HB2.out below_box)
    case c3 => unfold maxLen; omega
    case c4 => omega
    case c5 => simp
    intro v' w3 hown hgrow
    have hb0 : Below w2.heap.size w2 w3 := (below_box).grown hgrow (by simp) (fun k h => by simp [Value.ownBlock] at h; omega)
    try simp only [Nat.zero_add, List.nil_append] at hown
    obtain ⟨q, c, rfl⟩ := formS hown
    have HG3 := Lib.hid hown
    have HY3 := Lib.hid (HY2.out.keep hb0 (by omega))
    have HB3 := Lib.hid (bthen HB2.out hb0)
    have hs3 := hb0.size
    clear hown hgrow hb0 x0 hal HX2 HY2 HB2
    go_upto_region 5 with fail
    obtain ⟨S, hS⟩ : ∃ S, w.heap.size + 1 = S := ⟨_, rfl⟩
    rw [hS] at HY3 ⊢
    have hS1 : w.heap.size < S ∧ S < w2.heap.size := by omega
    obtain ⟨hS1, hS2⟩ := hS1
    clear hS
    go_loopw [9] (fun i wr => ∃ k : Nat, k ≤ n ∧ (∀ (j : Nat) (e : En), j < k → t[j]? = some e → ¬ (e.lv = false ∧ e.gn < 4294967295)) ∧ i = .int .i64 k ∧ Below w3.heap.size w3 wr) (fun i _ => n - (intOf i).toNat)
    case atStart => exact ⟨0, by omega, fun j e h => absurd h (Nat.not_lt_zero _), rfl, Below.refl _ _⟩
    case round =>
      obtain ⟨k, hk, hf, rfl, hb⟩ := hrel
      have Hf := Lib.hid hf
      have HBw := Lib.hid hb
      have HG := Lib.hid (own_below HG3.out hb)
      have HY := Lib.hid (HY3.out.keep hb (by omega))
      have HB := Lib.hid (bthen HB3.out hb)
      have hws := hb.size
      clear hf hb
      by_cases hlt : k < n
      · obtain ⟨g, rfl, hg1, hg2⟩ := someS HG.out (by omega)
        obtain ⟨e, he⟩ : ∃ e, t[k]? = some e := ⟨_, List.getElem?_eq_getElem (by have := Hlen.out; omega)⟩
        have He := Lib.hid he
        obtain ⟨⟨c0, c1, c2⟩, f0, f1, f2⟩ := own_en HG.out he
        have hlt2 : (k : Int) < n := by omega
        have hgn := (enB_iff.1 ((okT_iff.1 Ho.out).2 k e he)).1
        clear he
        obtain ⟨g0, r0, l0⟩ := e
        simp only at c0 c1 c2 hgn
        have hSg : S < g := by omega
        by_cases hfree : l0 = false ∧ g0 < 4294967295
        · obtain ⟨rfl, hg0⟩ := hfree
          have HK := Lib.hid (nextV_is t k Hf.out (by have := Hlen.out; omega) (.inr ⟨_, He.out, rfl, hg0⟩))
          have hK64 : nextV t ≠ 64 := by rw [HK.out]; omega
          obtain ⟨e1, e2, e3⟩ := new_yes (r := r) (newE_c Ho.out hK64)
          obtain ⟨G1, hG1⟩ : ∃ G1, g0 + 1 = G1 := ⟨_, rfl⟩
          have hput : putV t r = t.set k ⟨G1, r, true⟩ := by unfold putV; rw [HK.out, He.out, ← hG1]
          have hgen : genV t = G1 := by unfold genV; rw [HK.out, He.out, ← hG1]
          rw [HK.out] at e2
          obtain rfl : T0 = t.set k ⟨G1, r, true⟩ := hT0.out.symm.trans (e1.trans hput)
          obtain rfl : I0 = (k : Int) := hI0.out.symm.trans e2
          obtain rfl : GG = G1 := hGG.out.symm.trans (e3.trans hgen)
          obtain rfl : E0 = 0 := hE0.out.symm.trans (newE_c Ho.out hK64)
          clear e1 e2 e3 hput hgen hK64
          go_upto_region 9 with fail
          obtain ⟨w4, hw⟩ : ∃ w4, ((wr.setCell ⟨g, k * 3, none⟩ (.int .i64 GG)).setCell ⟨g, k * 3 + 1, none⟩ (.int .u64 r)).setCell ⟨g, k * 3 + 2, none⟩ (.bool true) = w4 := ⟨_, rfl⟩
          have HG4 := Lib.hid (show w4.ownsRow w2.heap.size 65 3 (.slice (some ⟨g, 0, none⟩) n c) n ((t.set k ⟨GG, r, true⟩).flatMap enC) from by rw [← hw]; exact own_setEn HG.out k (by have := Hlen.out; omega) ⟨GG, r, true⟩)
          have HY4 := Lib.hid (show OwnL w4 S [.slice none 0 0] from by rw [← hw]; exact box_far3 HY.out _ _ _ _ _ _ (by omega))
          have HB4 := Lib.hid (show Below w.heap.size w w4 from by rw [← hw]; exact below_far3 HB.out (by omega) _ _ _ _ _ _)
          rw [hw]
          clear hw c0 c1 c2 f0 f1 f2 hG1
          obtain ⟨⟨c0, c1, c2⟩, f0, f1, f2⟩ := own_en (x := ⟨GG, r, true⟩) HG4.out (by rw [List.getElem?_set, if_pos rfl, if_pos (by have := Hlen.out; omega)])
          simp only at c0
          obtain ⟨y0, v0⟩ := own1S HY4.out
          go_region
          go_wp2
          exact bodyPost_ret (v := .tuple #[.agg #[.slice (some ⟨g, 0, none⟩) n c], .int .i64 k, .int .i64 GG, .int .i64 0]) (by simp [results, Try.results22, go_sem, y0]) rfl ⟨⟨_, n, c, rfl, (((FT.own HG4.out).keep (Below.drew (Below.refl _ _))).cell _ _ (by first | omega | (simp only; omega))).mono (by omega)⟩, HB4.out.drew.setCell (by first | omega | (simp only; omega)) _⟩
        · have H := Lib.hid (show ∀ (j : Nat) (e : En), j < k + 1 → t[j]? = some e → ¬ (e.lv = false ∧ e.gn < 4294967295) from fun j e hj hy => by
            by_cases e1 : j = k
            · subst e1; rw [He.out] at hy; cases hy; exact hfree
            · exact Hf.out j e (by omega) hy)
          cases l0
          · have hg0 : ¬ g0 < 4294967295 := fun h => hfree ⟨rfl, h⟩
            clear hfree
            go_wp2
            go_roundw
            case rel => exact ⟨k + 1, by omega, H.out, by go_num, HBw.out⟩
            case measure => first | omega | (simp [intOf]; omega)
          · clear hfree
            go_wp2
            go_roundw
            case rel => exact ⟨k + 1, by omega, H.out, by go_num, HBw.out⟩
            case measure => first | omega | (simp [intOf]; omega)
      · obtain rfl : k = n := by omega
        have HK := Lib.hid (nextV_is t k Hf.out (by have := Hlen.out; omega) (.inl Hlen.out))
        obtain ⟨y0, v0⟩ := own1S HY.out
        by_cases h64' : k = 64
        · obtain ⟨e1, e2, e3⟩ := new_no (r := r) (newE_b Ho.out (by rw [HK.out]; exact h64')) (by decide)
          obtain rfl : T0 = [] := hT0.out.symm.trans e1
          obtain rfl : I0 = 0 := hI0.out.symm.trans e2
          obtain rfl : GG = 0 := hGG.out.symm.trans e3
          obtain rfl : E0 = 18 := hE0.out.symm.trans (newE_b Ho.out (by rw [HK.out]; exact h64'))
          have hq : ((k : Int) == 64) = true := beq_iff_eq.2 (by omega)
          clear e1 e2 e3 h64'
          go_wp2
          exact bodyPost_ret (v := .tuple #[.agg #[.slice none 0 0], .int .i64 0, .int .i64 0, .int .i64 18]) (by simp [results, Try.results22, go_sem, y0]) rfl ⟨RetNT.zero _ _ _, HB.out.setCell (by first | omega | (simp only; omega)) _⟩
        · obtain ⟨e1, e2, e3⟩ := new_yes (r := r) (newE_c Ho.out (by rw [HK.out]; exact h64'))
          have hnone : t[k]? = none := List.getElem?_eq_none (by have := Hlen.out; omega)
          have hput : putV t r = t ++ [⟨1, r, true⟩] := by unfold putV; rw [HK.out, hnone]
          have hgen : genV t = 1 := by unfold genV; rw [HK.out, hnone]
          rw [HK.out] at e2
          obtain rfl : T0 = t ++ [⟨1, r, true⟩] := hT0.out.symm.trans (e1.trans hput)
          obtain rfl : I0 = (k : Int) := hI0.out.symm.trans e2
          obtain rfl : GG = 1 := hGG.out.symm.trans (e3.trans hgen)
          obtain rfl : E0 = 0 := hE0.out.symm.trans (newE_c Ho.out (by rw [HK.out]; exact h64'))
          have hq : ((k : Int) == 64) = false := beq_eq_false_iff_ne.2 (by omega)
          have hyl := boxLt HY.out
          clear e1 e2 e3 h64' hput hgen hnone
          go_wp2_with (at_builtin; refine wpList_append_own_at _ rfl _ _ 44 rfl w2.heap.size 65 i0 _ 3 24 Try.underlying44 hin hz0 hz1 hz2 rfl (by decide) (.slice q k c) k (t.flatMap enC) rfl (HG.out.alloc _) ⟨wr.heap.size, 0, none⟩ 1 1 [.int .i64 1, .int .u64 r, .bool true] rfl rfl (World.news_of_block (cs := #[.int .i64 1, .int .u64 r, .bool true]) (fr := (0, 0)) (heap_alloc_new wr _)) ?m2 ?m3 ?m4 ?m5 ?_)
          case m2 => simp [Value.oneCell']
          case m3 => unfold maxLen; omega
          case m4 => omega
          case m5 => first | omega | (simp; omega)
          intro v' w6 hown hgrow _ hat
          obtain ⟨q4, c4, rfl⟩ := formS hown
          have hbb := below_box (w := wr) (o := .cells #[.int .i64 1, .int .u64 r, .bool true] 65)
          have hgE : ∀ x, (Value.slice q k c).ownBlock = some x → w2.heap.size ≤ x := fun x hx => (HG.out.lt x hx).1
          have HY6 := Lib.hid (boxG (HY.out.keep hbb (by omega)) hgrow (by simp; omega) (fun e => by have := hgE _ e.symm; omega))
          have HB6 := Lib.hid (belowG (bthen HB.out hbb) (HG.out.alloc _) hgrow (by omega) (by simp; omega))
          have HG6 := Lib.hid (show w6.ownsRow w2.heap.size 65 3 (.slice q4 (k + 1) c4) (k + 1) ((t ++ [(⟨1, r, true⟩ : En)]).flatMap enC) from by rw [← flat_snoc]; exact hown)
          clear hown hgrow hat hbb y0 v0
          obtain ⟨y0, v0⟩ := own1S HY6.out
          go_wp2
          exact bodyPost_ret (v := .tuple #[.agg #[.slice q4 (k + 1) c4], .int .i64 k, .int .i64 1, .int .i64 0]) (by simp [results, Try.results22, go_sem, y0]) rfl ⟨⟨_, k + 1, c4, rfl, ((FT.own HG6.out).cell _ _ (by first | omega | (simp only; omega))).mono (by omega)⟩, HB6.out.setCell (by first | omega | (simp only; omega)) _⟩
end Go.Proofs.Ytapfbnhcndifhaa
