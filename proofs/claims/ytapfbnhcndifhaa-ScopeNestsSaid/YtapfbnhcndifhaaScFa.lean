/- open, Enter, Push: what they return lies in memory of their own. -/
import Derived.Test.YtapfbnhcndifhaaScFr
set_option linter.unusedVariables false
set_option linter.unusedSimpArgs false
namespace Go.Proofs.Ytapfbnhcndifhaa
open Go.RowKit

set_option maxRecDepth 100000 in
set_option maxHeartbeats 3200000 in
theorem open_fr (pa : Option Addr) (na ca : Nat) (pb : Option Addr) (nb cb : Nat) (pc : Option Addr) (nc cc : Nat) (l : Loc) (c : Int) (base : Bool) (w : World) (hr : LRow w pa na ca pb nb cb pc nc cc l) :
    Calls Try.prog 36 #[.agg #[.slice pa na ca, .slice pb nb cb, .slice pc nc cc], .int .i64 c, .bool base] w fun e w' => RetF w.heap.size (openL l c base) (openE l c base) e w' ∧ Below w.heap.size w w' := by
  have Hl := Lib.hid hr.lens
  obtain ⟨h63a, h63b, h63c⟩ := hr.i63
  have Hr := Lib.hid (fun w' (h : Below w.heap.size w w') => hr.keep h)
  have hv := Lib.hid (fun w h => scValid_any pa na ca pb nb cb pc nc cc l w h)
  have hcp := Lib.hid (fun w => validCap_any c w)
  clear hr
  cases ho : okB l
  · have E : openE l c base = 1 := by unfold openE; rw [if_pos (Or.inl ho)]
    rw [openL_no E (by decide), E]
    rw [ho] at hv
    clear E ho
    go_enter Try.func36, Try.ntmps36
    go_wp2_with (first | ((go_at_call 35; refine (hv.out _ (Hr.out _ (bthen below_box below_box))).mono ?_); rintro e w2 ⟨rfl, hb2⟩; (obtain ⟨hX, hY, hB2, hs2⟩ := start2 hb2); have HX := Lib.hid hX; have HY := Lib.hid hY; have HB := Lib.hid hB2; (obtain ⟨x0, x1, x2⟩ := own3c hX); (obtain ⟨y0, y1, y2, z0, z1, z2⟩ := own6 hY); clear hX hY hB2 hb2))
    exact bodyPost_ret (v := .tuple #[.agg #[.slice none 0 0, .slice none 0 0, .slice none 0 0], .int .i64 1]) (by simp [results, Try.results36, go_sem, y0, y1, y2]) rfl ⟨RetF.zero _ _ _, ((HB.out.setCell (by simp) _).setCell (by simp) _).setCell (by simp) _⟩
  · rw [ho] at hv
    cases hcf : capB c
    · have E : openE l c base = 1 := by unfold openE; rw [if_pos (Or.inr hcf)]
      rw [openL_no E (by decide), E]
      rw [hcf] at hcp
      clear E ho hcf
      go_enter Try.func36, Try.ntmps36
      go_wp2_with (first | ((go_at_call 35; refine (hv.out _ (Hr.out _ (bthen below_box below_box))).mono ?_); rintro e w2 ⟨rfl, hb2⟩; (obtain ⟨hX, hY, hB2, hs2⟩ := start2 hb2); have HX := Lib.hid hX; have HY := Lib.hid hY; have HB := Lib.hid hB2; (obtain ⟨x0, x1, x2⟩ := own3c hX); (obtain ⟨y0, y1, y2, z0, z1, z2⟩ := own6 hY); clear hX hY hB2 hb2) | ((go_at_call 51; refine (hcp.out _).mono ?_); rintro e w2' ⟨rfl, rfl⟩))
      exact bodyPost_ret (v := .tuple #[.agg #[.slice none 0 0, .slice none 0 0, .slice none 0 0], .int .i64 1]) (by simp [results, Try.results36, go_sem, y0, y1, y2]) rfl ⟨RetF.zero _ _ _, ((HB.out.setCell (by simp) _).setCell (by simp) _).setCell (by simp) _⟩
    · rw [hcf] at hcp
      have hn1 : ¬ (okB l = false ∨ capB c = false) := by rw [ho, hcf]; decide
      by_cases h2 : base = false ∧ nb = 0
      · obtain ⟨rfl, h2⟩ := h2
        have E : openE l c false = 9 := by unfold openE; rw [if_neg hn1, if_pos ⟨rfl, by rw [Hl.out.2.1]; exact h2⟩]
        rw [openL_no E (by decide), E]
        have hz : ((nb : Int) == 0) = true := beq_iff_eq.2 (by omega)
        clear E ho hcf hn1 h2
        go_enter Try.func36, Try.ntmps36
        go_wp2_with (first | ((go_at_call 35; refine (hv.out _ (Hr.out _ (bthen below_box below_box))).mono ?_); rintro e w2 ⟨rfl, hb2⟩; (obtain ⟨hX, hY, hB2, hs2⟩ := start2 hb2); have HX := Lib.hid hX; have HY := Lib.hid hY; have HB := Lib.hid hB2; (obtain ⟨x0, x1, x2⟩ := own3c hX); (obtain ⟨y0, y1, y2, z0, z1, z2⟩ := own6 hY); clear hX hY hB2 hb2) | ((go_at_call 51; refine (hcp.out _).mono ?_); rintro e w2' ⟨rfl, rfl⟩))
        exact bodyPost_ret (v := .tuple #[.agg #[.slice none 0 0, .slice none 0 0, .slice none 0 0], .int .i64 9]) (by simp [results, Try.results36, go_sem, y0, y1, y2]) rfl ⟨RetF.zero _ _ _, ((HB.out.setCell (by simp) _).setCell (by simp) _).setCell (by simp) _⟩
      · have hz : base = true ∨ base = false ∧ ((nb : Int) == 0) = false := by
          cases base
          · exact .inr ⟨rfl, beq_eq_false_iff_ne.2 (fun e => h2 ⟨rfl, by omega⟩)⟩
          · exact .inl rfl
        have hn2 : ¬ (base = false ∧ l.sc.length = 0) := by rw [Hl.out.2.1]; exact h2
        by_cases h3 : nb = 64
        · have E : openE l c base = 17 := by unfold openE; rw [if_neg hn1, if_neg hn2, if_pos (by rw [Hl.out.2.1]; exact h3)]
          rw [openL_no E (by decide), E]
          have h64 : ((nb : Int) == 64) = true := beq_iff_eq.2 (by omega)
          clear E ho hcf hn1 hn2 h2 h3
          rcases hz with rfl | ⟨rfl, hz⟩
          all_goals
            go_enter Try.func36, Try.ntmps36
            go_wp2_with (first | ((go_at_call 35; refine (hv.out _ (Hr.out _ (bthen below_box below_box))).mono ?_); rintro e w2 ⟨rfl, hb2⟩; (obtain ⟨hX, hY, hB2, hs2⟩ := start2 hb2); have HX := Lib.hid hX; have HY := Lib.hid hY; have HB := Lib.hid hB2; (obtain ⟨x0, x1, x2⟩ := own3c hX); (obtain ⟨y0, y1, y2, z0, z1, z2⟩ := own6 hY); clear hX hY hB2 hb2) | ((go_at_call 51; refine (hcp.out _).mono ?_); rintro e w2' ⟨rfl, rfl⟩))
            exact bodyPost_ret (v := .tuple #[.agg #[.slice none 0 0, .slice none 0 0, .slice none 0 0], .int .i64 17]) (by simp [results, Try.results36, go_sem, y0, y1, y2]) rfl ⟨RetF.zero _ _ _, ((HB.out.setCell (by simp) _).setCell (by simp) _).setCell (by simp) _⟩
        · have E : openE l c base = 0 := by unfold openE; rw [if_neg hn1, if_neg hn2, if_neg (by rw [Hl.out.2.1]; exact h3)]
          have EL : openL l c base = ⟨l.sl, l.sc ++ [⟨l.sl.length, c, base⟩], l.is⟩ := by unfold openL; rw [if_pos E]
          rw [EL, E]
          have h64 : ((nb : Int) == 64) = false := beq_eq_false_iff_ne.2 (by omega)
          obtain ⟨k1, k2, k3⟩ := lens_ok ho
          have k4 := k1
          have k5 := k2
          have k6 := k3
          rw [Hl.out.1] at k1
          rw [Hl.out.2.1] at k2
          rw [Hl.out.2.2] at k3
          obtain ⟨i0, hin, hz0, hz1, hz2⟩ := info_parts infoSp
          clear E EL ho hcf hn1 hn2 h2 h3
          rcases hz with rfl | ⟨rfl, hz⟩
          · go_enter Try.func36, Try.ntmps36
            go_upto_region 8 with (first | ((go_at_call 35; refine (hv.out _ (Hr.out _ (bthen below_box below_box))).mono ?_); rintro e w2 ⟨rfl, hb2⟩; (obtain ⟨hX, hY, hB2, hs2⟩ := start2 hb2); have HX := Lib.hid hX; have HY := Lib.hid hY; have HB := Lib.hid hB2; (obtain ⟨x0, x1, x2⟩ := own3c hX); (obtain ⟨y0, y1, y2, z0, z1, z2⟩ := own6 hY); clear hX hY hB2 hb2) | ((go_at_call 51; refine (hcp.out _).mono ?_); rintro e w2' ⟨rfl, rfl⟩) | ((go_at_call 38; refine (owned_any _ _ _ _ _ _ _ _ _ _ _ (Hr.out _ HB.out) (by omega) (by omega) (by omega)).mono ?_); rintro e w3 ⟨⟨q1, c1, q2, c2, q3, c3, rfl, hO⟩, hb3⟩; have HO := Lib.hid hO; have HX3 := Lib.hid (HX.out.keep hb3 (by omega)); have HY3 := Lib.hid (HY.out.keep hb3 (by omega)); have HB3 := Lib.hid (HB.out.trans (hb3.mono HB.out.size)); have hs3 := hb3.size; clear x0 x1 x2 y0 y1 y2 z0 z1 z2 hO hb3; (obtain ⟨x0, x1, x2, u0, u1, u2⟩ := own6 HX3.out); (obtain ⟨y0, y1, y2, z0, z1, z2⟩ := own6 HY3.out)))
            obtain ⟨w4, hw4⟩ : ∃ w4, ((w3.setCell ⟨w.heap.size, 0, none⟩ (.slice q1 l.sl.length c1)).setCell ⟨w.heap.size, 1, none⟩ (.slice q2 l.sc.length c2)).setCell ⟨w.heap.size, 2, none⟩ (.slice q3 l.is.length c3) = w4 := ⟨_, rfl⟩
            have HX4 := Lib.hid (show OwnL w4 w.heap.size [.slice q1 l.sl.length c1, .slice q2 l.sc.length c2, .slice q3 l.is.length c3] from by rw [← hw4]; exact set3_own HX3.out)
            have HY4 := Lib.hid (show OwnL w4 (w.heap.size + 1) [.slice none 0 0, .slice none 0 0, .slice none 0 0] from by rw [← hw4]; exact set3_other HY3.out (by omega))
            have HO4 := Lib.hid (show OwnLoc w4 w2.heap.size q1 l.sl.length c1 q2 l.sc.length c2 q3 l.is.length c3 l from by rw [← hw4]; exact set3_loc HO.out (by omega))
            have HB4 := Lib.hid (show Below w.heap.size w w4 from by rw [← hw4]; exact set3_below HB3.out (Nat.le_refl _))
            have hs4 : w2.heap.size ≤ w4.heap.size := by rw [← hw4, set3_size]; exact hs3
            rw [hw4]
            clear hw4 HO HX3 HY3 HB3 HX HY HB hs3 x0 x1 x2 u0 u1 u2 y0 y1 y2 z0 z1 z2
            obtain ⟨x0, x1, x2, u0, u1, u2⟩ := own6 HX4.out
            obtain ⟨y0, y1, y2, z0, z1, z2⟩ := own6 HY4.out
            go_wp2_with (at_builtin; refine wpList_append_own_at _ rfl _ _ 25 rfl w2.heap.size 77 i0 _ 3 24 Try.underlying25 hin hz0 hz1 hz2 rfl (by decide) (.slice q2 l.sc.length c2) (l.sc.length) (l.sc.flatMap spC) rfl (HO4.out.b.alloc _) ⟨w4.heap.size, 0, none⟩ 1 1 (spC ⟨l.sl.length, c, true⟩) rfl rfl (World.news_of_block (cs := #[.int .i64 l.sl.length, .int .i64 c, .bool true]) (fr := (0, 0)) (heap_alloc_new w4 _)) ?m2 ?m3 ?m4 ?m5 ?_)
            case m2 => simp [Value.oneCell', spC]
            case m3 => unfold maxLen; omega
            case m4 => omega
            case m5 => simp; omega
            intro v' w5 hown hgrow _ hat
            obtain ⟨q4, c4, rfl⟩ := own_form hown
            have hO' := HO4.out.keep (below_box (o := .cells #[.int .i64 l.sl.length, .int .i64 c, .bool true] 77))
            have HO5 := Lib.hid (hO'.appB hown hgrow (by rw [World.size_alloc]; exact hat))
            have HX5 := Lib.hid ((HX4.out.keep (below_box (o := .cells #[.int .i64 l.sl.length, .int .i64 c, .bool true] 77)) (by omega)).grown hgrow (by simp; omega) (fun e => by have := (HO4.out.b.lt _ e.symm).1; omega))
            have HY5 := Lib.hid ((HY4.out.keep (below_box (o := .cells #[.int .i64 l.sl.length, .int .i64 c, .bool true] 77)) (by omega)).grown hgrow (by simp; omega) (fun e => by have := (HO4.out.b.lt _ e.symm).1; omega))
            have HB5 := Lib.hid (below_row (bthen HB4.out (below_box (o := .cells #[.int .i64 l.sl.length, .int .i64 c, .bool true] 77))) hO'.b hgrow (by omega) (by simp; omega))
            have hs5 : w2.heap.size ≤ w5.heap.size := by have := hgrow.size; simp at this; omega
            clear hO' hown hgrow hat x0 x1 x2 u0 u1 u2 y0 y1 y2 z0 z1 z2
            obtain ⟨x0, x1, x2, u0, u1, u2⟩ := own6 HX5.out
            obtain ⟨y0, y1, y2, z0, z1, z2⟩ := own6 HY5.out
            go_wp2
            exact bodyPost_ret (v := .tuple #[.agg #[.slice q1 l.sl.length c1, .slice q4 (l.sc.length + 1) c4, .slice q3 l.is.length c3], .int .i64 0]) (by simp [results, Try.results36, go_sem, y0, y1, y2]) rfl ⟨⟨q1, l.sl.length, c1, q4, l.sc.length + 1, c4, q3, l.is.length, c3, rfl, (set3_loc (HO5.out.cell ⟨w.heap.size, 1, none⟩ _ (by simp; omega)) (by omega)).frow (by first | omega | (simp; omega) | (simp; done))⟩, set3_below (HB5.out.setCell (Nat.le_refl _) _) (by omega)⟩
          · go_enter Try.func36, Try.ntmps36
            go_upto_region 8 with (first | ((go_at_call 35; refine (hv.out _ (Hr.out _ (bthen below_box below_box))).mono ?_); rintro e w2 ⟨rfl, hb2⟩; (obtain ⟨hX, hY, hB2, hs2⟩ := start2 hb2); have HX := Lib.hid hX; have HY := Lib.hid hY; have HB := Lib.hid hB2; (obtain ⟨x0, x1, x2⟩ := own3c hX); (obtain ⟨y0, y1, y2, z0, z1, z2⟩ := own6 hY); clear hX hY hB2 hb2) | ((go_at_call 51; refine (hcp.out _).mono ?_); rintro e w2' ⟨rfl, rfl⟩) | ((go_at_call 38; refine (owned_any _ _ _ _ _ _ _ _ _ _ _ (Hr.out _ HB.out) (by omega) (by omega) (by omega)).mono ?_); rintro e w3 ⟨⟨q1, c1, q2, c2, q3, c3, rfl, hO⟩, hb3⟩; have HO := Lib.hid hO; have HX3 := Lib.hid (HX.out.keep hb3 (by omega)); have HY3 := Lib.hid (HY.out.keep hb3 (by omega)); have HB3 := Lib.hid (HB.out.trans (hb3.mono HB.out.size)); have hs3 := hb3.size; clear x0 x1 x2 y0 y1 y2 z0 z1 z2 hO hb3; (obtain ⟨x0, x1, x2, u0, u1, u2⟩ := own6 HX3.out); (obtain ⟨y0, y1, y2, z0, z1, z2⟩ := own6 HY3.out)))
            obtain ⟨w4, hw4⟩ : ∃ w4, ((w3.setCell ⟨w.heap.size, 0, none⟩ (.slice q1 l.sl.length c1)).setCell ⟨w.heap.size, 1, none⟩ (.slice q2 l.sc.length c2)).setCell ⟨w.heap.size, 2, none⟩ (.slice q3 l.is.length c3) = w4 := ⟨_, rfl⟩
            have HX4 := Lib.hid (show OwnL w4 w.heap.size [.slice q1 l.sl.length c1, .slice q2 l.sc.length c2, .slice q3 l.is.length c3] from by rw [← hw4]; exact set3_own HX3.out)
            have HY4 := Lib.hid (show OwnL w4 (w.heap.size + 1) [.slice none 0 0, .slice none 0 0, .slice none 0 0] from by rw [← hw4]; exact set3_other HY3.out (by omega))
            have HO4 := Lib.hid (show OwnLoc w4 w2.heap.size q1 l.sl.length c1 q2 l.sc.length c2 q3 l.is.length c3 l from by rw [← hw4]; exact set3_loc HO.out (by omega))
            have HB4 := Lib.hid (show Below w.heap.size w w4 from by rw [← hw4]; exact set3_below HB3.out (Nat.le_refl _))
            have hs4 : w2.heap.size ≤ w4.heap.size := by rw [← hw4, set3_size]; exact hs3
            rw [hw4]
            clear hw4 HO HX3 HY3 HB3 HX HY HB hs3 x0 x1 x2 u0 u1 u2 y0 y1 y2 z0 z1 z2
            obtain ⟨x0, x1, x2, u0, u1, u2⟩ := own6 HX4.out
            obtain ⟨y0, y1, y2, z0, z1, z2⟩ := own6 HY4.out
            go_wp2_with (at_builtin; refine wpList_append_own_at _ rfl _ _ 25 rfl w2.heap.size 77 i0 _ 3 24 Try.underlying25 hin hz0 hz1 hz2 rfl (by decide) (.slice q2 l.sc.length c2) (l.sc.length) (l.sc.flatMap spC) rfl (HO4.out.b.alloc _) ⟨w4.heap.size, 0, none⟩ 1 1 (spC ⟨l.sl.length, c, false⟩) rfl rfl (World.news_of_block (cs := #[.int .i64 l.sl.length, .int .i64 c, .bool false]) (fr := (0, 0)) (heap_alloc_new w4 _)) ?m2 ?m3 ?m4 ?m5 ?_)
            case m2 => simp [Value.oneCell', spC]
            case m3 => unfold maxLen; omega
            case m4 => omega
            case m5 => simp; omega
            intro v' w5 hown hgrow _ hat
            obtain ⟨q4, c4, rfl⟩ := own_form hown
            have hO' := HO4.out.keep (below_box (o := .cells #[.int .i64 l.sl.length, .int .i64 c, .bool false] 77))
            have HO5 := Lib.hid (hO'.appB hown hgrow (by rw [World.size_alloc]; exact hat))
            have HX5 := Lib.hid ((HX4.out.keep (below_box (o := .cells #[.int .i64 l.sl.length, .int .i64 c, .bool false] 77)) (by omega)).grown hgrow (by simp; omega) (fun e => by have := (HO4.out.b.lt _ e.symm).1; omega))
            have HY5 := Lib.hid ((HY4.out.keep (below_box (o := .cells #[.int .i64 l.sl.length, .int .i64 c, .bool false] 77)) (by omega)).grown hgrow (by simp; omega) (fun e => by have := (HO4.out.b.lt _ e.symm).1; omega))
            have HB5 := Lib.hid (below_row (bthen HB4.out (below_box (o := .cells #[.int .i64 l.sl.length, .int .i64 c, .bool false] 77))) hO'.b hgrow (by omega) (by simp; omega))
            have hs5 : w2.heap.size ≤ w5.heap.size := by have := hgrow.size; simp at this; omega
            clear hO' hown hgrow hat x0 x1 x2 u0 u1 u2 y0 y1 y2 z0 z1 z2
            obtain ⟨x0, x1, x2, u0, u1, u2⟩ := own6 HX5.out
            obtain ⟨y0, y1, y2, z0, z1, z2⟩ := own6 HY5.out
            go_wp2
            exact bodyPost_ret (v := .tuple #[.agg #[.slice q1 l.sl.length c1, .slice q4 (l.sc.length + 1) c4, .slice q3 l.is.length c3], .int .i64 0]) (by simp [results, Try.results36, go_sem, y0, y1, y2]) rfl ⟨⟨q1, l.sl.length, c1, q4, l.sc.length + 1, c4, q3, l.is.length, c3, rfl, (set3_loc (HO5.out.cell ⟨w.heap.size, 1, none⟩ _ (by simp; omega)) (by omega)).frow (by first | omega | (simp; omega) | (simp; done))⟩, set3_below (HB5.out.setCell (Nat.le_refl _) _) (by omega)⟩
set_option maxRecDepth 100000 in
set_option maxHeartbeats 1600000 in
theorem enter_fr (pa : Option Addr) (na ca : Nat) (pb : Option Addr) (nb cb : Nat) (pc : Option Addr) (nc cc : Nat) (l : Loc) (c : Int) (w : World) (hr : LRow w pa na ca pb nb cb pc nc cc l) :
    Calls Try.prog 32 #[.agg #[.slice pa na ca, .slice pb nb cb, .slice pc nc cc], .int .i64 c] w fun e w' => RetF w.heap.size (openL l c true) (openE l c true) e w' ∧ Below w.heap.size w w' := by
  have Hr := Lib.hid (fun w' (h : Below w.heap.size w w') => hr.keep h)
  have ho := Lib.hid (fun w h => open_fr pa na ca pb nb cb pc nc cc l c true w h)
  clear hr
  obtain ⟨E, hE⟩ : ∃ E, openE l c true = E := ⟨_, rfl⟩
  obtain ⟨L, hL⟩ : ∃ L, openL l c true = L := ⟨_, rfl⟩
  rw [hE, hL] at ho ⊢
  clear hE hL
  go_enter Try.func32, Try.ntmps32
  go_wp2_with (((go_at_call 36; refine (ho.out _ (Hr.out _ (bthen below_box below_box))).mono ?_); rintro e w2 ⟨⟨qa, ma, da, qb, mb, db, qc, mc, dc, rfl, hrow⟩, hb2⟩; (obtain ⟨hX, hY, hB2, hs2⟩ := start2 hb2); have HB := Lib.hid hB2; have HR := Lib.hid (hrow.set3 hY (.slice qa ma da) (.slice qb mb db) (.slice qc mc dc)); (obtain ⟨y0, y1, y2, z0, z1, z2⟩ := own6 hY); clear hX hY hB2 hb2 hrow))
  exact bodyPost_ret (v := .tuple #[.agg #[.slice qa ma da, .slice qb mb db, .slice qc mc dc], .int .i64 E]) (by simp [results, Try.results32, go_sem, y0, y1, y2]) rfl ⟨⟨qa, ma, da, qb, mb, db, qc, mc, dc, rfl, HR.out.mono (by first | omega | (simp; omega) | (simp; done))⟩, set3_below HB.out (by omega)⟩
set_option maxRecDepth 100000 in
set_option maxHeartbeats 1600000 in
theorem push_fr (pa : Option Addr) (na ca : Nat) (pb : Option Addr) (nb cb : Nat) (pc : Option Addr) (nc cc : Nat) (l : Loc) (c : Int) (w : World) (hr : LRow w pa na ca pb nb cb pc nc cc l) :
    Calls Try.prog 9 #[.agg #[.slice pa na ca, .slice pb nb cb, .slice pc nc cc], .int .i64 c] w fun e w' => RetF w.heap.size (openL l c false) (openE l c false) e w' ∧ Below w.heap.size w w' := by
  have Hr := Lib.hid (fun w' (h : Below w.heap.size w w') => hr.keep h)
  have ho := Lib.hid (fun w h => open_fr pa na ca pb nb cb pc nc cc l c false w h)
  clear hr
  obtain ⟨E, hE⟩ : ∃ E, openE l c false = E := ⟨_, rfl⟩
  obtain ⟨L, hL⟩ : ∃ L, openL l c false = L := ⟨_, rfl⟩
  rw [hE, hL] at ho ⊢
  clear hE hL
  go_enter Try.func9, Try.ntmps9
  go_wp2_with (((go_at_call 36; refine (ho.out _ (Hr.out _ (bthen below_box below_box))).mono ?_); rintro e w2 ⟨⟨qa, ma, da, qb, mb, db, qc, mc, dc, rfl, hrow⟩, hb2⟩; (obtain ⟨hX, hY, hB2, hs2⟩ := start2 hb2); have HB := Lib.hid hB2; have HR := Lib.hid (hrow.set3 hY (.slice qa ma da) (.slice qb mb db) (.slice qc mc dc)); (obtain ⟨y0, y1, y2, z0, z1, z2⟩ := own6 hY); clear hX hY hB2 hb2 hrow))
  exact bodyPost_ret (v := .tuple #[.agg #[.slice qa ma da, .slice qb mb db, .slice qc mc dc], .int .i64 E]) (by simp [results, Try.results9, go_sem, y0, y1, y2]) rfl ⟨⟨qa, ma, da, qb, mb, db, qc, mc, dc, rfl, HR.out.mono (by first | omega | (simp; omega) | (simp; done))⟩, set3_below HB.out (by omega)⟩

end Go.Proofs.Ytapfbnhcndifhaa
