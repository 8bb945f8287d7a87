/- Contract of the reference's Move of layer 14. -/
import Derived.Test.YtjnpmfkkagchjaaScMv
import Derived.Test.YtjnpmfkkagchjaaScZ
set_option linter.unusedVariables false
set_option linter.unusedSimpArgs false
namespace Go.Proofs.Ytjnpmfkkagchjaa
open Go.RowKit

set_option maxRecDepth 100000 in
set_option maxHeartbeats 6400000 in
theorem refMove_any (pa : Option Addr) (na ca : Nat) (pb : Option Addr) (nb cb : Nat) (pc : Option Addr) (nc cc : Nat) (l : Loc) (pr : Option Addr) (nr cr : Nat) (xs : List Int) (w : World) (hr : LRow w pa na ca pb nb cb pc nc cc l) (hx : SRow w .u64 pr nr cr xs) :
    Calls Try.prog 32 #[.agg #[.slice pa na ca, .slice pb nb cb, .slice pc nc cc], .slice pr nr cr] w fun e w' => RetL (moveL l xs) (moveE l xs) e w' ∧ Below w.heap.size w w' := by
  have Hl := Lib.hid hr.lens
  obtain ⟨h63a, h63b, h63c⟩ := hr.i63
  have Hr := Lib.hid (fun w' (h : Below w.heap.size w w') => hr.keep h)
  have hv := Lib.hid (fun w h => refVal_any pa na ca pb nb cb pc nc cc l w h)
  have Hx := Lib.hid (fun w' (h : Below w.heap.size w w') => hx.keep h)
  have hrf := Lib.hid (fun w h => refRefs_any pa na ca pb nb cb pc nc cc l w h)
  have hr63 := hx.i63.2
  have HxL := Lib.hid hx.len
  clear hr hx
  cases ho : okB l
  · have E : moveE l xs = 1 := by unfold moveE; rw [if_pos ho]
    rw [moveL_no E (by decide), E]
    rw [ho] at hv
    clear E ho
    go_enter Try.func32, Try.ntmps32
    go_wp2_with (((go_at_call 12; refine (hv.out _ (Hr.out _ (bthen below_box below_box))).mono ?_); rintro e w2 ⟨rfl, hb2⟩; (obtain ⟨hX, hY, hB2, hs2⟩ := start2 hb2); have HX := Lib.hid hX; have HY := Lib.hid hY; have HB := Lib.hid hB2; (obtain ⟨x0, x1, x2⟩ := own3c hX); (obtain ⟨y0, y1, y2, z0, z1, z2⟩ := own6 hY); clear hX hY hB2 hb2))
    exact bodyPost_ret (v := .tuple #[.agg #[.slice none 0 0, .slice none 0 0, .slice none 0 0], .int .i64 1]) (by simp [results, Try.results32, go_sem, y0, y1, y2]) rfl ⟨RetL.zero _ _, ((HB.out.setCell (by simp) _).setCell (by simp) _).setCell (by simp) _⟩
  · rw [ho] at hv
    have hnot : ¬ okB l = false := by rw [ho]; decide
    obtain ⟨k1, k2, k3⟩ := lens_ok ho
    have k4 := k1
    rw [Hl.out.1] at k1
    rw [Hl.out.2.1] at k2
    rw [Hl.out.2.2] at k3
    have hcl := cnt_le l.sl
    rw [Hl.out.1] at hcl
    obtain ⟨C, hC⟩ : ∃ C, Hid (cnt l.sl = C) := ⟨_, rfl⟩
    rw [hC.out] at hcl
    have hRl := Lib.hid (show (refsV l).length = C from by unfold refsV; rw [if_pos ho, refsOf_len, hC.out])
    by_cases h1 : nr = C
    · have hq1 : ((nr : Int) != (C : Int)) = false := by simp [h1]
      have Hnr := Lib.hid h1
      have E : moveE l xs = if (0 : Int) ∈ xs then 1 else 0 := by unfold moveE; rw [if_neg hnot, if_neg (by rw [HxL.out, hC.out]; simp [h1])]
      have HE1 := Lib.hid (fun (h : (0 : Int) ∈ xs) => show moveE l xs = 1 ∧ moveL l xs = loc0 from by
        have e : moveE l xs = 1 := by rw [E, if_pos h]
        exact ⟨e, moveL_no e (by decide)⟩)
      have HE0 := Lib.hid (fun (h : ¬ (0 : Int) ∈ xs) => show moveE l xs = 0 ∧ moveL l xs = ⟨mv l.sl xs l.sl.length, l.sc, l.is⟩ from by
        have e : moveE l xs = 0 := by rw [E, if_neg h]
        exact ⟨e, by unfold moveL; rw [if_pos e]⟩)
      obtain ⟨ME, hME⟩ : ∃ ME, Hid (moveE l xs = ME) := ⟨_, rfl⟩
      obtain ⟨ML, hML⟩ : ∃ ML, Hid (moveL l xs = ML) := ⟨_, rfl⟩
      rw [hME.out, hML.out]
      clear E ho hnot h1
      go_enter Try.func32, Try.ntmps32
      go_upto_region 3 with (first | ((go_at_call 12; refine (hv.out _ (Hr.out _ (bthen below_box below_box))).mono ?_); rintro e w2 ⟨rfl, hb2⟩; (obtain ⟨hX, hY, hB2, hs2⟩ := start2 hb2); have HX := Lib.hid hX; have HY := Lib.hid hY; have HB := Lib.hid hB2; (obtain ⟨x0, x1, x2⟩ := own3c hX); (obtain ⟨y0, y1, y2, z0, z1, z2⟩ := own6 hY); clear hX hY hB2 hb2) | ((go_at_call 15; refine (hrf.out _ (Hr.out _ HB.out)).mono ?_); rintro e w2b ⟨⟨qR, mR, cR, rfl, hqR⟩, hb2b⟩; (obtain rfl : mR = C := (hqR.len.symm.trans hRl.out)); have HXb := Lib.hid (HX.out.keep hb2b (by omega)); have HYb := Lib.hid (HY.out.keep hb2b (by omega)); have HBb := Lib.hid (bthen HB.out hb2b); have hs2b : w.heap.size + 2 ≤ w2b.heap.size := (by have := hb2b.size; omega); clear x0 x1 x2 y0 y1 y2 z0 z1 z2 hb2b hqR; (obtain ⟨x0, x1, x2, u0, u1, u2⟩ := own6 HXb.out); (obtain ⟨y0, y1, y2, z0, z1, z2⟩ := own6 HYb.out)))
      obtain ⟨i0, hin, hz0, hz1, hz2⟩ := info_parts infoSl
      have hneW : w.heap.size < w2b.heap.size := by omega
      go_wp2_with (at_builtin; refine wpList_append_vrow rfl _ _ 22 rfl w2b.heap.size 56 i0 _ 3 24 Try.underlying22 hin hz0 hz1 hz2 rfl (by decide) (.slice (some ⟨w2b.heap.size, 0, none⟩) 0 0) 0 [] rfl (own_none w2b 56 3) pa na ca ((l.sl).flatMap slC) rfl (((Hr.out _ HBb.out).sl.keep below_box)) (slC_one _) ?m3 ?m4 ?m5 ?_)
      case m3 => unfold maxLen; omega
      case m4 => omega
      case m5 => simp
      intro v' w3 hown hgrow
      have hbY := (below_box (w := w2b) (o := .cells #[] 56)).grown hgrow (by simp) (fun k h => by simp [Value.ownBlock] at h; omega)
      try simp only [Nat.zero_add, List.nil_append] at hown
      obtain ⟨q', c', rfl⟩ := own_form hown
      have HOW := Lib.hid hown
      have HBY := Lib.hid hbY
      have hsY := hbY.size
      clear hown hgrow hbY hneW
      have HX3 := Lib.hid (HXb.out.keep HBY.out (by omega))
      have HY3 := Lib.hid (HYb.out.keep HBY.out (by omega))
      have HB3 := Lib.hid (bthen HBb.out HBY.out)
      clear HXb HYb HBb HX HY HB
      clear x0 x1 x2 u0 u1 u2 y0 y1 y2 z0 z1 z2
      obtain ⟨x0, x1, x2, u0, u1, u2⟩ := own6 HX3.out
      obtain ⟨y0, y1, y2, z0, z1, z2⟩ := own6 HY3.out
      go_upto_region 4 with fail
      obtain ⟨w4, hw4⟩ : ∃ w4, w3.setCell ⟨w.heap.size, 0, none⟩ (.slice q' na c') = w4 := ⟨_, rfl⟩
      have HX4 := Lib.hid (show OwnL w4 w.heap.size [.slice q' na c', .slice pb nb cb, .slice pc nc cc] from by rw [← hw4]; exact HX3.out.set 0 _ (by simp))
      have HY4 := Lib.hid (show OwnL w4 (w.heap.size + 1) [.slice none 0 0, .slice none 0 0, .slice none 0 0] from by rw [← hw4]; exact HY3.out.other _ _ (by simp))
      have HB4 := Lib.hid (show Below w.heap.size w w4 from by rw [← hw4]; exact HB3.out.setCell (Nat.le_refl _) _)
      have HO4 := Lib.hid (show w4.ownsRow w2b.heap.size 56 3 (.slice q' na c') na (l.sl.flatMap slC) from by rw [← hw4]; exact own_cell HOW.out _ _ (fun e => by have := (HOW.out.lt _ e).1; simp at this; omega))
      have hs4 : w2b.heap.size ≤ w4.heap.size := by rw [← hw4]; simpa using hsY
      rw [hw4]
      clear hw4 HX3 HY3 HB3 HOW HBY hsY
      clear x0 x1 x2 u0 u1 u2 y0 y1 y2 z0 z1 z2
      obtain ⟨x0, x1, x2, u0, u1, u2⟩ := own6 HX4.out
      obtain ⟨y0, y1, y2, z0, z1, z2⟩ := own6 HY4.out
      go_wp2
      go_loopw [6, 7] (fun nx i wr => ∃ k m : Nat, k ≤ na ∧ m = cnt (l.sl.take k) ∧ m ≤ k ∧ nx = .int .i64 m ∧ i = .int .i64 k ∧ (∀ j x, j < m → xs[j]? = some x → x ≠ 0) ∧ wr.ownsRow w2b.heap.size 56 3 (.slice q' na c') na ((mv l.sl xs k).flatMap slC) ∧ OwnL wr w.heap.size [.slice q' na c', .slice pb nb cb, .slice pc nc cc] ∧ OwnL wr (w.heap.size + 1) [.slice none 0 0, .slice none 0 0, .slice none 0 0] ∧ Below w.heap.size w wr) (fun _ i _ => na - (intOf i).toNat)
      case atStart => exact ⟨0, 0, by omega, by simp [cnt], by omega, rfl, rfl, fun j x h => absurd h (Nat.not_lt_zero _), HO4.out, HX4.out, HY4.out, HB4.out⟩
      case round =>
        clear x0 x1 x2 u0 u1 u2 y0 y1 y2 z0 z1 z2 HO4 HX4 HY4 HB4
        obtain ⟨k, m, hk, hm, hmk, rfl, rfl, hnz, hO, hX, hY, hB⟩ := hrel
        have HX4 := Lib.hid hX
        have HY4 := Lib.hid hY
        have HB4 := Lib.hid hB
        have Hm := Lib.hid hm
        have Hnz := Lib.hid hnz
        clear hX hY hB hm hnz
        obtain ⟨x0, x1, x2, u0, u1, u2⟩ := own6 HX4.out
        obtain ⟨y0, y1, y2, z0, z1, z2⟩ := own6 HY4.out
        by_cases hlt : k < na
        · have hlt2 : (k : Int) < na := by omega
          have hsl : l.sl[k]? = some (l.sl[k]'(by have := Hl.out.1; omega)) := List.getElem?_eq_getElem _
          obtain ⟨s, hs⟩ : ∃ s, s = l.sl[k]'(by have := Hl.out.1; omega) := ⟨_, rfl⟩
          rw [← hs] at hsl
          have hmk2 : (mv l.sl xs k)[k]? = some s := (mv_ge _ _ _ _ (Nat.le_refl _)).trans hsl
          obtain ⟨g, c4, he, hg, hlg⟩ := World.ownsRow.form hO (by omega)
          cases he
          obtain ⟨⟨r0, r1, r2⟩, s0, s1, s2⟩ := own_slot hO hmk2
          have hgb : g ≠ w.heap.size := by omega
          have hgb1 : g ≠ w.heap.size + 1 := by omega
          have HO4 := Lib.hid hO
          have HSl := Lib.hid hsl
          have HMk := Lib.hid hmk2
          clear hO hs hsl hmk2
          cases hv2 : s.lv
          · rw [hv2] at r2
            have HT := Lib.hid (cnt_take HSl.out)
            rw [hv2] at HT
            have HD := Lib.hid (mv_dead (xs := xs) HSl.out hv2)
            clear hv2
            go_wp2
            go_roundw
            case rel => exact ⟨k + 1, m, by omega, by rw [HT.out, Hm.out]; simp, by omega, rfl, by go_num, Hnz.out, by rw [HD.out]; exact HO4.out, HX4.out, HY4.out, HB4.out⟩
            case measure => simp [intOf]; omega
          · have hmC := cnt_lt HSl.out hv2
            rw [← Hm.out, hC.out, ← Hnr.out] at hmC
            obtain ⟨x, b2, off2, hx2, rfl, c0⟩ := (Hx.out wr HB4.out).at_ hmC
            have hmC2 : (m : Int) < nr := by omega
            have hm0 : (0 : Int) ≤ m := Int.natCast_nonneg _
            have hk0 : (0 : Int) ≤ k := Int.natCast_nonneg _
            rw [hv2] at r2
            have HT := Lib.hid (cnt_take HSl.out)
            rw [hv2] at HT
            have HLv := Lib.hid (mv_live HSl.out hv2 (by rw [← Hm.out]; exact hx2))
            have Hv2 := Lib.hid hv2
            have HX2 := Lib.hid hx2
            have HOn := Lib.hid (show (wr.setCell ⟨g, k * 3 + 1, none⟩ (.int .u64 x)).ownsRow w2b.heap.size 56 3 (.slice (some ⟨g, 0, none⟩) na c') na ((mv l.sl xs (k + 1)).flatMap slC) from by rw [HLv.out, ← Hv2.out]; exact own_setRf HO4.out HMk.out x)
            clear hv2 hx2
            by_cases hx0 : x = 0
            · have hb0 : (x == 0) = true := beq_iff_eq.2 hx0
              have HF := Lib.hid (HE1.out (by rw [← hx0]; exact List.mem_of_getElem? HX2.out))
              have HF1 := Lib.hid (hME.out.symm.trans HF.out.1)
              have HF2 := Lib.hid (hML.out.symm.trans HF.out.2)
              clear hx0 HOn HLv
              go_wp2
              exact bodyPost_ret (v := .tuple #[.agg #[.slice none 0 0, .slice none 0 0, .slice none 0 0], .int .i64 1]) (by simp [results, Try.results32, go_sem, y0, y1, y2]) rfl ⟨by rw [HF1.out, HF2.out]; exact RetL.zero _ _, ((HB4.out.setCell (by simp) _).setCell (by simp) _).setCell (by simp) _⟩
            · have hb0 : (x == 0) = false := beq_eq_false_iff_ne.2 hx0
              have Hx0 := Lib.hid hx0
              clear hx0
              go_wp2
              go_region
              go_wp2
              go_roundw
              case rel => exact ⟨k + 1, m + 1, by omega, by rw [HT.out, ← Hm.out]; simp, by omega, by go_num, by go_num, fun j y hj hy => by
                  by_cases e : j = m
                  · subst e; rw [HX2.out] at hy; cases hy; exact Hx0.out
                  · exact Hnz.out j y (by omega) hy, own_below HOn.out (Below.drew (Below.refl _ _)), (HX4.out.other _ _ hgb).keep (Below.drew (Below.refl _ _)) (by have := cell_lt x0; simpa using this), (HY4.out.other _ _ hgb1).keep (Below.drew (Below.refl _ _)) (by have := cell_lt y0; simpa using this), (HB4.out.setCell (p := ⟨g, k * 3 + 1, none⟩) (by simp; omega) _).drew⟩
              case measure => simp [intOf]; omega
        · obtain rfl : k = na := by omega
          have HNo := Lib.hid (HE0.out (fun h => by
            obtain ⟨j, hj⟩ := List.getElem?_of_mem h
            exact Hnz.out j 0 (by
              have h1 := (List.getElem?_eq_some_iff.1 hj).1
              have h2 := Hm.out
              rw [List.take_of_length_le (by have := Hl.out.1; omega), hC.out] at h2
              have := HxL.out; have := Hnr.out; omega) hj rfl))
          have HF1 := Lib.hid (hME.out.symm.trans HNo.out.1)
          have HF2 := Lib.hid (hML.out.symm.trans HNo.out.2)
          have HR5 := Lib.hid (show LRow wr q' k c' pb nb cb pc nc cc ⟨mv l.sl xs l.sl.length, l.sc, l.is⟩ from ⟨by have h := own_vrow hO; rw [Hl.out.1]; exact h, (Hr.out _ HB4.out).sc, (Hr.out _ HB4.out).is⟩)
          have HR6 := Lib.hid (HR5.out.set3 HY4.out (.slice q' k c') (.slice pb nb cb) (.slice pc nc cc))
          clear hO
          go_wp2
          exact bodyPost_ret (v := .tuple #[.agg #[.slice q' k c', .slice pb nb cb, .slice pc nc cc], .int .i64 0]) (by simp [results, Try.results32, go_sem, y0, y1, y2]) rfl ⟨by rw [HF1.out, HF2.out]; exact ⟨q', _, c', pb, _, cb, pc, _, cc, rfl, HR6.out⟩, set3_below HB4.out (by omega)⟩
    · have hq1 : ((nr : Int) != (C : Int)) = true := bne_iff_ne.2 (by omega)
      have E : moveE l xs = 1 := by unfold moveE; rw [if_neg hnot, if_pos (by rw [HxL.out, hC.out]; exact h1)]
      rw [moveL_no E (by decide), E]
      clear E ho hnot h1
      go_enter Try.func32, Try.ntmps32
      go_wp2_with (first | ((go_at_call 12; refine (hv.out _ (Hr.out _ (bthen below_box below_box))).mono ?_); rintro e w2 ⟨rfl, hb2⟩; (obtain ⟨hX, hY, hB2, hs2⟩ := start2 hb2); have HX := Lib.hid hX; have HY := Lib.hid hY; have HB := Lib.hid hB2; (obtain ⟨x0, x1, x2⟩ := own3c hX); (obtain ⟨y0, y1, y2, z0, z1, z2⟩ := own6 hY); clear hX hY hB2 hb2) | ((go_at_call 15; refine (hrf.out _ (Hr.out _ HB.out)).mono ?_); rintro e w2b ⟨⟨qR, mR, cR, rfl, hqR⟩, hb2b⟩; (obtain rfl : mR = C := (hqR.len.symm.trans hRl.out)); have HXb := Lib.hid (HX.out.keep hb2b (by omega)); have HYb := Lib.hid (HY.out.keep hb2b (by omega)); have HBb := Lib.hid (bthen HB.out hb2b); have hs2b : w.heap.size + 2 ≤ w2b.heap.size := (by have := hb2b.size; omega); clear x0 x1 x2 y0 y1 y2 z0 z1 z2 hb2b hqR; (obtain ⟨x0, x1, x2, u0, u1, u2⟩ := own6 HXb.out); (obtain ⟨y0, y1, y2, z0, z1, z2⟩ := own6 HYb.out)))
      exact bodyPost_ret (v := .tuple #[.agg #[.slice none 0 0, .slice none 0 0, .slice none 0 0], .int .i64 1]) (by simp [results, Try.results32, go_sem, y0, y1, y2]) rfl ⟨RetL.zero _ _, ((HBb.out.setCell (by simp) _).setCell (by simp) _).setCell (by simp) _⟩
end Go.Proofs.Ytjnpmfkkagchjaa
