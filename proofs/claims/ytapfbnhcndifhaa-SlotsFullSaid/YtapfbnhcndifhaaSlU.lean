/- The law SlotsCalls of layer 15. -/
import Derived.Test.YtapfbnhcndifhaaSlT
set_option linter.unusedVariables false
set_option linter.unusedSimpArgs false
namespace Go.Proofs.Ytapfbnhcndifhaa
open Go.RowKit

set_option maxRecDepth 100000 in
set_option maxHeartbeats 6400000 in
theorem lawCalls15 (p : Option Addr) (n c : Nat) (t : List En) (r i q : Int) (pr : Option Addr) (nr cr : Nat) (xs : List Int) (w : World) (hr : VRow w 3 p n c (t.flatMap enC)) (hwf : WfT t) (hrw : (Lit.int .u64 r).wf = true) (hx : SRow w .u64 pr nr cr xs) (hxw : ∀ x ∈ xs, (Lit.int .u64 x).wf = true) :
    Calls Try.prog 5 #[.agg #[.slice p n c], .int .u64 r, .int .i64 i, .int .i64 q, .slice pr nr cr] w fun e w' => e = .returned (.bool true) ∧ Below w.heap.size w w' := by
  have h63 := hr.i63.2
  have hr63 := hx.i63.2
  have Hr := Lib.hid (fun w' (h : Below w.heap.size w w') => hr.keep h)
  have Hx := Lib.hid (fun w' (h : Below w.heap.size w w') => hx.keep h)
  have hl := Lib.hid (fun w => light15 p n c w h63)
  have hN := Lib.hid (fun w h => slNew_any p n c t r w h hwf hrw)
  have hM := Lib.hid (fun w h => refNew15 p n c t r w h)
  have hG := Lib.hid (fun w h => slGet_any p n c t i q w h hwf)
  have hH := Lib.hid (fun w h => refGet15 p n c t i q w h)
  have hS := Lib.hid (fun w h => slSet_any p n c t i q r w h hwf hrw)
  have hU := Lib.hid (fun w h => refSet15 p n c t i q r w h)
  have hD := Lib.hid (fun w h => slDelete_any p n c t i q w h hwf)
  have hE := Lib.hid (fun w h => refDelete15 p n c t i q w h)
  have hJ := Lib.hid (fun w h hx => slMove_any p n c t pr nr cr xs w h hwf hx hxw)
  have hK := Lib.hid (fun w h hx => refMove15 p n c t pr nr cr xs w h hx)
  clear hr hwf hrw hx hxw
  obtain ⟨N1, hN1⟩ : ∃ N1, Hid (newN t = N1) := ⟨_, Lib.hid rfl⟩
  obtain ⟨N2, hN2⟩ : ∃ N2, Hid (newG t = N2) := ⟨_, Lib.hid rfl⟩
  obtain ⟨N3, hN3⟩ : ∃ N3, Hid (newE t = N3) := ⟨_, Lib.hid rfl⟩
  obtain ⟨G1, hG1⟩ : ∃ G1, Hid (getT t i q = G1) := ⟨_, Lib.hid rfl⟩
  obtain ⟨G2, hG2⟩ : ∃ G2, Hid (findE t i q = G2) := ⟨_, Lib.hid rfl⟩
  obtain ⟨M1, hM1⟩ : ∃ M1, Hid (moveR t xs.length = M1) := ⟨_, Lib.hid rfl⟩
  rw [hN1.out, hN2.out, hN3.out] at hN hM
  rw [hG1.out, hG2.out] at hG hH
  rw [hG2.out] at hS hU hD hE
  rw [hM1.out] at hJ hK
  by_cases hl1 : n ≤ 200
  · have hLT : decide (n ≤ 200) = true := decide_eq_true hl1
    rw [hLT] at hl
    by_cases hl2 : (nr : Int) ≤ 200
    · clear hl1 hLT
      go_enter Try.func5, Try.ntmps5
      go_wp2_with fail
      refine (hl.out _).mono ?_
      rintro e w1 ⟨rfl, hb1⟩
      have HX := Lib.hid ((OwnL.new w [.slice p n c] 46).keep hb1 (by simp))
      have HB := Lib.hid (below_boxed hb1)
      obtain ⟨BX, hBX⟩ : ∃ BX, w.heap.size = BX := ⟨_, rfl⟩
      have hBX2 := hBX
      rw [hBX] at HX ⊢
      clear hb1
      have hWX : w.heap.size ≤ BX := by omega
      clear hBX hBX2
      obtain ⟨Xc, Xf⟩ := own1S HX.out
      go_wp2_with fail
      refine (hN.out _ (Hr.out _ HB.out)).mono ?_
      rintro e v2 ⟨⟨qa, ma, da, rfl, hT⟩, hb2⟩
      have hszv : w.heap.size ≤ v2.heap.size := Nat.le_trans HB.out.size hb2.size
      clear Xc Xf
      replace HX := Lib.hid (HX.out.keep hb2 (boxLt HX.out))
      replace HB := Lib.hid (bthen HB.out hb2)
      obtain ⟨Xc, Xf⟩ := own1S HX.out
      go_upto_region 4 with fail
      clear Xc Xf
      have hLXP := boxLt HX.out
      obtain ⟨u2, hw⟩ : ∃ u2, v2.alloc (.cells #[.slice qa ma da] 46) = u2 := ⟨_, rfl⟩
      have hbb : Below v2.heap.size v2 u2 := by rw [← hw]; exact below_box
      have HP := Lib.hid (show OwnL u2 v2.heap.size [.slice qa ma da] from by rw [← hw]; exact OwnL.new v2 _ _)
      rw [hw]
      replace HX := Lib.hid (HX.out.keep hbb (boxLt HX.out))
      replace HB := Lib.hid (bthen HB.out hbb)
      have HRp := Lib.hid (hT.r.keep hbb)
      obtain ⟨BP, hBk⟩ : ∃ BP, v2.heap.size = BP := ⟨_, rfl⟩
      have hWP : w.heap.size ≤ BP := by rw [← hBk]; exact hszv
      rw [hBk] at HP hLXP ⊢
      clear hw hbb hBk hT hb2 hszv
      obtain ⟨Xc, Xf⟩ := own1S HX.out
      obtain ⟨Pc, Pf⟩ := own1S HP.out
      go_wp2_with fail
      refine (hM.out _ (Hr.out _ HB.out)).mono ?_
      rintro e v3 ⟨⟨qb, mb, db, rfl, hT⟩, hb3⟩
      have hszv : w.heap.size ≤ v3.heap.size := Nat.le_trans HB.out.size hb3.size
      clear Xc Xf Pc Pf
      replace HX := Lib.hid (HX.out.keep hb3 (boxLt HX.out))
      replace HP := Lib.hid (HP.out.keep hb3 (boxLt HP.out))
      replace HRp := Lib.hid (HRp.out.keep hb3)
      replace HB := Lib.hid (bthen HB.out hb3)
      obtain ⟨Xc, Xf⟩ := own1S HX.out
      obtain ⟨Pc, Pf⟩ := own1S HP.out
      go_upto_region 5 with fail
      clear Xc Xf Pc Pf
      have hLXQ := boxLt HX.out
      have hLPQ := boxLt HP.out
      obtain ⟨u3, hw⟩ : ∃ u3, v3.alloc (.cells #[.slice qb mb db] 46) = u3 := ⟨_, rfl⟩
      have hbb : Below v3.heap.size v3 u3 := by rw [← hw]; exact below_box
      have HQ := Lib.hid (show OwnL u3 v3.heap.size [.slice qb mb db] from by rw [← hw]; exact OwnL.new v3 _ _)
      rw [hw]
      replace HX := Lib.hid (HX.out.keep hbb (boxLt HX.out))
      replace HP := Lib.hid (HP.out.keep hbb (boxLt HP.out))
      replace HRp := Lib.hid (HRp.out.keep hbb)
      replace HB := Lib.hid (bthen HB.out hbb)
      have HRq := Lib.hid (hT.r.keep hbb)
      obtain ⟨BQ, hBk⟩ : ∃ BQ, v3.heap.size = BQ := ⟨_, rfl⟩
      have hWQ : w.heap.size ≤ BQ := by rw [← hBk]; exact hszv
      rw [hBk] at HQ hLXQ hLPQ ⊢
      clear hw hbb hBk hT hb3 hszv
      obtain ⟨Xc, Xf⟩ := own1S HX.out
      obtain ⟨Pc, Pf⟩ := own1S HP.out
      obtain ⟨Qc, Qf⟩ := own1S HQ.out
      go_wp2_with fail
      refine (sameT_yes qa ma da qb mb db _ _ HRp.out HRq.out).mono ?_
      rintro e v4 ⟨rfl, hb4⟩
      clear Xc Xf Pc Pf Qc Qf
      replace HX := Lib.hid (HX.out.keep hb4 (boxLt HX.out))
      replace HP := Lib.hid (HP.out.keep hb4 (boxLt HP.out))
      replace HQ := Lib.hid (HQ.out.keep hb4 (boxLt HQ.out))
      replace HRp := Lib.hid (HRp.out.keep hb4)
      replace HRq := Lib.hid (HRq.out.keep hb4)
      replace HB := Lib.hid (bthen HB.out hb4)
      clear hb4
      obtain ⟨Xc, Xf⟩ := own1S HX.out
      obtain ⟨Pc, Pf⟩ := own1S HP.out
      obtain ⟨Qc, Qf⟩ := own1S HQ.out
      go_wp2_with fail
      refine (hG.out _ (Hr.out _ HB.out)).mono ?_
      rintro e v5 ⟨rfl, hb5⟩
      clear Xc Xf Pc Pf Qc Qf
      replace HX := Lib.hid (HX.out.keep hb5 (boxLt HX.out))
      replace HP := Lib.hid (HP.out.keep hb5 (boxLt HP.out))
      replace HQ := Lib.hid (HQ.out.keep hb5 (boxLt HQ.out))
      replace HRp := Lib.hid (HRp.out.keep hb5)
      replace HRq := Lib.hid (HRq.out.keep hb5)
      replace HB := Lib.hid (bthen HB.out hb5)
      clear hb5
      obtain ⟨Xc, Xf⟩ := own1S HX.out
      obtain ⟨Pc, Pf⟩ := own1S HP.out
      obtain ⟨Qc, Qf⟩ := own1S HQ.out
      go_wp2_with fail
      refine (hH.out _ (Hr.out _ HB.out)).mono ?_
      rintro e v6 ⟨rfl, hb6⟩
      clear Xc Xf Pc Pf Qc Qf
      replace HX := Lib.hid (HX.out.keep hb6 (boxLt HX.out))
      replace HP := Lib.hid (HP.out.keep hb6 (boxLt HP.out))
      replace HQ := Lib.hid (HQ.out.keep hb6 (boxLt HQ.out))
      replace HRp := Lib.hid (HRp.out.keep hb6)
      replace HRq := Lib.hid (HRq.out.keep hb6)
      replace HB := Lib.hid (bthen HB.out hb6)
      clear hb6
      obtain ⟨Xc, Xf⟩ := own1S HX.out
      obtain ⟨Pc, Pf⟩ := own1S HP.out
      obtain ⟨Qc, Qf⟩ := own1S HQ.out
      go_wp2_with fail
      refine (hS.out _ (Hr.out _ HB.out)).mono ?_
      rintro e v7 ⟨⟨qe, me, de, rfl, hT⟩, hb7⟩
      clear Xc Xf Pc Pf Qc Qf
      replace HX := Lib.hid (HX.out.keep hb7 (boxLt HX.out))
      replace HP := Lib.hid (HP.out.keep hb7 (boxLt HP.out))
      replace HQ := Lib.hid (HQ.out.keep hb7 (boxLt HQ.out))
      replace HRp := Lib.hid (HRp.out.keep hb7)
      replace HRq := Lib.hid (HRq.out.keep hb7)
      replace HB := Lib.hid (bthen HB.out hb7)
      obtain ⟨Xc, Xf⟩ := own1S HX.out
      obtain ⟨Pc, Pf⟩ := own1S HP.out
      obtain ⟨Qc, Qf⟩ := own1S HQ.out
      go_upto_region 10 with fail
      have HRn := Lib.hid (hT.r.setSl ⟨BP, 0, none⟩ (.slice qe me de) Pc (enC_noS _ _ _ _))
      replace HRq := Lib.hid (HRq.out.setSl ⟨BP, 0, none⟩ (.slice qe me de) Pc (enC_noS _ _ _ _))
      replace HX := Lib.hid (HX.out.other ⟨BP, 0, none⟩ (.slice qe me de) (by simp only; omega))
      replace HQ := Lib.hid (HQ.out.other ⟨BP, 0, none⟩ (.slice qe me de) (by simp only; omega))
      replace HB := Lib.hid (show Below w.heap.size w (v7.setCell ⟨BP, 0, none⟩ (.slice qe me de)) from HB.out.setCell (by simp only; omega) _)
      replace HP := Lib.hid (HP.out.set 0 (.slice qe me de) (by simp))
      obtain ⟨u7, hw⟩ : ∃ u7, v7.setCell ⟨BP, 0, none⟩ (.slice qe me de) = u7 := ⟨_, rfl⟩
      rw [hw] at HX HP HQ HRn HRq HB ⊢
      clear Xc Xf Pc Pf Qc Qf
      clear HRp
      have HRp := HRn
      clear HRn hw hT hb7
      obtain ⟨Xc, Xf⟩ := own1S HX.out
      obtain ⟨Pc, Pf⟩ := own1S HP.out
      obtain ⟨Qc, Qf⟩ := own1S HQ.out
      go_wp2_with fail
      refine (hU.out _ (Hr.out _ HB.out)).mono ?_
      rintro e v8 ⟨⟨qf, mf, df, rfl, hT⟩, hb8⟩
      clear Xc Xf Pc Pf Qc Qf
      replace HX := Lib.hid (HX.out.keep hb8 (boxLt HX.out))
      replace HP := Lib.hid (HP.out.keep hb8 (boxLt HP.out))
      replace HQ := Lib.hid (HQ.out.keep hb8 (boxLt HQ.out))
      replace HRp := Lib.hid (HRp.out.keep hb8)
      replace HRq := Lib.hid (HRq.out.keep hb8)
      replace HB := Lib.hid (bthen HB.out hb8)
      obtain ⟨Xc, Xf⟩ := own1S HX.out
      obtain ⟨Pc, Pf⟩ := own1S HP.out
      obtain ⟨Qc, Qf⟩ := own1S HQ.out
      go_upto_region 11 with fail
      have HRn := Lib.hid (hT.r.setSl ⟨BQ, 0, none⟩ (.slice qf mf df) Qc (enC_noS _ _ _ _))
      replace HRp := Lib.hid (HRp.out.setSl ⟨BQ, 0, none⟩ (.slice qf mf df) Qc (enC_noS _ _ _ _))
      replace HX := Lib.hid (HX.out.other ⟨BQ, 0, none⟩ (.slice qf mf df) (by simp only; omega))
      replace HP := Lib.hid (HP.out.other ⟨BQ, 0, none⟩ (.slice qf mf df) (by simp only; omega))
      replace HB := Lib.hid (show Below w.heap.size w (v8.setCell ⟨BQ, 0, none⟩ (.slice qf mf df)) from HB.out.setCell (by simp only; omega) _)
      replace HQ := Lib.hid (HQ.out.set 0 (.slice qf mf df) (by simp))
      obtain ⟨u8, hw⟩ : ∃ u8, v8.setCell ⟨BQ, 0, none⟩ (.slice qf mf df) = u8 := ⟨_, rfl⟩
      rw [hw] at HX HP HQ HRn HRp HB ⊢
      clear Xc Xf Pc Pf Qc Qf
      clear HRq
      have HRq := HRn
      clear HRn hw hT hb8
      obtain ⟨Xc, Xf⟩ := own1S HX.out
      obtain ⟨Pc, Pf⟩ := own1S HP.out
      obtain ⟨Qc, Qf⟩ := own1S HQ.out
      go_wp2_with fail
      refine (sameT_yes qe me de qf mf df _ _ HRp.out HRq.out).mono ?_
      rintro e v9 ⟨rfl, hb9⟩
      clear Xc Xf Pc Pf Qc Qf
      replace HX := Lib.hid (HX.out.keep hb9 (boxLt HX.out))
      replace HP := Lib.hid (HP.out.keep hb9 (boxLt HP.out))
      replace HQ := Lib.hid (HQ.out.keep hb9 (boxLt HQ.out))
      replace HRp := Lib.hid (HRp.out.keep hb9)
      replace HRq := Lib.hid (HRq.out.keep hb9)
      replace HB := Lib.hid (bthen HB.out hb9)
      clear hb9
      obtain ⟨Xc, Xf⟩ := own1S HX.out
      obtain ⟨Pc, Pf⟩ := own1S HP.out
      obtain ⟨Qc, Qf⟩ := own1S HQ.out
      go_wp2_with fail
      refine (hD.out _ (Hr.out _ HB.out)).mono ?_
      rintro e v10 ⟨⟨qg, mg, dg, rfl, hT⟩, hb10⟩
      clear Xc Xf Pc Pf Qc Qf
      replace HX := Lib.hid (HX.out.keep hb10 (boxLt HX.out))
      replace HP := Lib.hid (HP.out.keep hb10 (boxLt HP.out))
      replace HQ := Lib.hid (HQ.out.keep hb10 (boxLt HQ.out))
      replace HRp := Lib.hid (HRp.out.keep hb10)
      replace HRq := Lib.hid (HRq.out.keep hb10)
      replace HB := Lib.hid (bthen HB.out hb10)
      obtain ⟨Xc, Xf⟩ := own1S HX.out
      obtain ⟨Pc, Pf⟩ := own1S HP.out
      obtain ⟨Qc, Qf⟩ := own1S HQ.out
      go_upto_region 14 with fail
      have HRn := Lib.hid (hT.r.setSl ⟨BP, 0, none⟩ (.slice qg mg dg) Pc (enC_noS _ _ _ _))
      replace HRq := Lib.hid (HRq.out.setSl ⟨BP, 0, none⟩ (.slice qg mg dg) Pc (enC_noS _ _ _ _))
      replace HX := Lib.hid (HX.out.other ⟨BP, 0, none⟩ (.slice qg mg dg) (by simp only; omega))
      replace HQ := Lib.hid (HQ.out.other ⟨BP, 0, none⟩ (.slice qg mg dg) (by simp only; omega))
      replace HB := Lib.hid (show Below w.heap.size w (v10.setCell ⟨BP, 0, none⟩ (.slice qg mg dg)) from HB.out.setCell (by simp only; omega) _)
      replace HP := Lib.hid (HP.out.set 0 (.slice qg mg dg) (by simp))
      obtain ⟨u10, hw⟩ : ∃ u10, v10.setCell ⟨BP, 0, none⟩ (.slice qg mg dg) = u10 := ⟨_, rfl⟩
      rw [hw] at HX HP HQ HRn HRq HB ⊢
      clear Xc Xf Pc Pf Qc Qf
      clear HRp
      have HRp := HRn
      clear HRn hw hT hb10
      obtain ⟨Xc, Xf⟩ := own1S HX.out
      obtain ⟨Pc, Pf⟩ := own1S HP.out
      obtain ⟨Qc, Qf⟩ := own1S HQ.out
      go_wp2_with fail
      refine (hE.out _ (Hr.out _ HB.out)).mono ?_
      rintro e v11 ⟨⟨qh, mh, dh, rfl, hT⟩, hb11⟩
      clear Xc Xf Pc Pf Qc Qf
      replace HX := Lib.hid (HX.out.keep hb11 (boxLt HX.out))
      replace HP := Lib.hid (HP.out.keep hb11 (boxLt HP.out))
      replace HQ := Lib.hid (HQ.out.keep hb11 (boxLt HQ.out))
      replace HRp := Lib.hid (HRp.out.keep hb11)
      replace HRq := Lib.hid (HRq.out.keep hb11)
      replace HB := Lib.hid (bthen HB.out hb11)
      obtain ⟨Xc, Xf⟩ := own1S HX.out
      obtain ⟨Pc, Pf⟩ := own1S HP.out
      obtain ⟨Qc, Qf⟩ := own1S HQ.out
      go_upto_region 15 with fail
      have HRn := Lib.hid (hT.r.setSl ⟨BQ, 0, none⟩ (.slice qh mh dh) Qc (enC_noS _ _ _ _))
      replace HRp := Lib.hid (HRp.out.setSl ⟨BQ, 0, none⟩ (.slice qh mh dh) Qc (enC_noS _ _ _ _))
      replace HX := Lib.hid (HX.out.other ⟨BQ, 0, none⟩ (.slice qh mh dh) (by simp only; omega))
      replace HP := Lib.hid (HP.out.other ⟨BQ, 0, none⟩ (.slice qh mh dh) (by simp only; omega))
      replace HB := Lib.hid (show Below w.heap.size w (v11.setCell ⟨BQ, 0, none⟩ (.slice qh mh dh)) from HB.out.setCell (by simp only; omega) _)
      replace HQ := Lib.hid (HQ.out.set 0 (.slice qh mh dh) (by simp))
      obtain ⟨u11, hw⟩ : ∃ u11, v11.setCell ⟨BQ, 0, none⟩ (.slice qh mh dh) = u11 := ⟨_, rfl⟩
      rw [hw] at HX HP HQ HRn HRp HB ⊢
      clear Xc Xf Pc Pf Qc Qf
      clear HRq
      have HRq := HRn
      clear HRn hw hT hb11
      obtain ⟨Xc, Xf⟩ := own1S HX.out
      obtain ⟨Pc, Pf⟩ := own1S HP.out
      obtain ⟨Qc, Qf⟩ := own1S HQ.out
      go_wp2_with fail
      refine (hJ.out _ (Hr.out _ HB.out) (Hx.out _ HB.out)).mono ?_
      rintro e v12 ⟨⟨qi, mi, di, rfl, hT⟩, hb12⟩
      have hszv : w.heap.size ≤ v12.heap.size := Nat.le_trans HB.out.size hb12.size
      clear Xc Xf Pc Pf Qc Qf
      replace HX := Lib.hid (HX.out.keep hb12 (boxLt HX.out))
      replace HP := Lib.hid (HP.out.keep hb12 (boxLt HP.out))
      replace HQ := Lib.hid (HQ.out.keep hb12 (boxLt HQ.out))
      replace HRp := Lib.hid (HRp.out.keep hb12)
      replace HRq := Lib.hid (HRq.out.keep hb12)
      replace HB := Lib.hid (bthen HB.out hb12)
      obtain ⟨Xc, Xf⟩ := own1S HX.out
      obtain ⟨Pc, Pf⟩ := own1S HP.out
      obtain ⟨Qc, Qf⟩ := own1S HQ.out
      go_upto_region 16 with fail
      clear Xc Xf Pc Pf Qc Qf
      have hLXR := boxLt HX.out
      have hLPR := boxLt HP.out
      have hLQR := boxLt HQ.out
      obtain ⟨u12, hw⟩ : ∃ u12, v12.alloc (.cells #[.slice qi mi di] 46) = u12 := ⟨_, rfl⟩
      have hbb : Below v12.heap.size v12 u12 := by rw [← hw]; exact below_box
      have HR := Lib.hid (show OwnL u12 v12.heap.size [.slice qi mi di] from by rw [← hw]; exact OwnL.new v12 _ _)
      rw [hw]
      replace HX := Lib.hid (HX.out.keep hbb (boxLt HX.out))
      replace HP := Lib.hid (HP.out.keep hbb (boxLt HP.out))
      replace HQ := Lib.hid (HQ.out.keep hbb (boxLt HQ.out))
      replace HRp := Lib.hid (HRp.out.keep hbb)
      replace HRq := Lib.hid (HRq.out.keep hbb)
      replace HB := Lib.hid (bthen HB.out hbb)
      have HRr := Lib.hid (hT.r.keep hbb)
      obtain ⟨BR, hBk⟩ : ∃ BR, v12.heap.size = BR := ⟨_, rfl⟩
      have hWR : w.heap.size ≤ BR := by rw [← hBk]; exact hszv
      rw [hBk] at HR hLXR hLPR hLQR ⊢
      clear hw hbb hBk hT hb12 hszv
      obtain ⟨Xc, Xf⟩ := own1S HX.out
      obtain ⟨Pc, Pf⟩ := own1S HP.out
      obtain ⟨Qc, Qf⟩ := own1S HQ.out
      obtain ⟨Rc, Rf⟩ := own1S HR.out
      go_wp2_with fail
      refine (hK.out _ (Hr.out _ HB.out) (Hx.out _ HB.out)).mono ?_
      rintro e v13 ⟨⟨qj, mj, dj, rfl, hT⟩, hb13⟩
      have hszv : w.heap.size ≤ v13.heap.size := Nat.le_trans HB.out.size hb13.size
      clear Xc Xf Pc Pf Qc Qf Rc Rf
      replace HX := Lib.hid (HX.out.keep hb13 (boxLt HX.out))
      replace HP := Lib.hid (HP.out.keep hb13 (boxLt HP.out))
      replace HQ := Lib.hid (HQ.out.keep hb13 (boxLt HQ.out))
      replace HR := Lib.hid (HR.out.keep hb13 (boxLt HR.out))
      replace HRp := Lib.hid (HRp.out.keep hb13)
      replace HRq := Lib.hid (HRq.out.keep hb13)
      replace HRr := Lib.hid (HRr.out.keep hb13)
      replace HB := Lib.hid (bthen HB.out hb13)
      obtain ⟨Xc, Xf⟩ := own1S HX.out
      obtain ⟨Pc, Pf⟩ := own1S HP.out
      obtain ⟨Qc, Qf⟩ := own1S HQ.out
      obtain ⟨Rc, Rf⟩ := own1S HR.out
      go_upto_region 17 with fail
      clear Xc Xf Pc Pf Qc Qf Rc Rf
      have hLXS := boxLt HX.out
      have hLPS := boxLt HP.out
      have hLQS := boxLt HQ.out
      have hLRS := boxLt HR.out
      obtain ⟨u13, hw⟩ : ∃ u13, v13.alloc (.cells #[.slice qj mj dj] 46) = u13 := ⟨_, rfl⟩
      have hbb : Below v13.heap.size v13 u13 := by rw [← hw]; exact below_box
      have HS := Lib.hid (show OwnL u13 v13.heap.size [.slice qj mj dj] from by rw [← hw]; exact OwnL.new v13 _ _)
      rw [hw]
      replace HX := Lib.hid (HX.out.keep hbb (boxLt HX.out))
      replace HP := Lib.hid (HP.out.keep hbb (boxLt HP.out))
      replace HQ := Lib.hid (HQ.out.keep hbb (boxLt HQ.out))
      replace HR := Lib.hid (HR.out.keep hbb (boxLt HR.out))
      replace HRp := Lib.hid (HRp.out.keep hbb)
      replace HRq := Lib.hid (HRq.out.keep hbb)
      replace HRr := Lib.hid (HRr.out.keep hbb)
      replace HB := Lib.hid (bthen HB.out hbb)
      have HRs := Lib.hid (hT.r.keep hbb)
      obtain ⟨BS, hBk⟩ : ∃ BS, v13.heap.size = BS := ⟨_, rfl⟩
      have hWS : w.heap.size ≤ BS := by rw [← hBk]; exact hszv
      rw [hBk] at HS hLXS hLPS hLQS hLRS ⊢
      clear hw hbb hBk hT hb13 hszv
      obtain ⟨Xc, Xf⟩ := own1S HX.out
      obtain ⟨Pc, Pf⟩ := own1S HP.out
      obtain ⟨Qc, Qf⟩ := own1S HQ.out
      obtain ⟨Rc, Rf⟩ := own1S HR.out
      obtain ⟨Sc, Sf⟩ := own1S HS.out
      go_wp2_with fail
      refine (awake15 _).mono ?_
      rintro e v14 ⟨rfl, hb14⟩
      clear Xc Xf Pc Pf Qc Qf Rc Rf Sc Sf
      replace HX := Lib.hid (HX.out.keep hb14 (boxLt HX.out))
      replace HP := Lib.hid (HP.out.keep hb14 (boxLt HP.out))
      replace HQ := Lib.hid (HQ.out.keep hb14 (boxLt HQ.out))
      replace HR := Lib.hid (HR.out.keep hb14 (boxLt HR.out))
      replace HS := Lib.hid (HS.out.keep hb14 (boxLt HS.out))
      replace HRp := Lib.hid (HRp.out.keep hb14)
      replace HRq := Lib.hid (HRq.out.keep hb14)
      replace HRr := Lib.hid (HRr.out.keep hb14)
      replace HRs := Lib.hid (HRs.out.keep hb14)
      replace HB := Lib.hid (bthen HB.out hb14)
      clear hb14
      obtain ⟨Xc, Xf⟩ := own1S HX.out
      obtain ⟨Pc, Pf⟩ := own1S HP.out
      obtain ⟨Qc, Qf⟩ := own1S HQ.out
      obtain ⟨Rc, Rf⟩ := own1S HR.out
      obtain ⟨Sc, Sf⟩ := own1S HS.out
      go_wp2_with fail
      refine (sameT_yes qg mg dg qh mh dh _ _ HRp.out HRq.out).mono ?_
      rintro e v15 ⟨rfl, hb15⟩
      clear Xc Xf Pc Pf Qc Qf Rc Rf Sc Sf
      replace HX := Lib.hid (HX.out.keep hb15 (boxLt HX.out))
      replace HP := Lib.hid (HP.out.keep hb15 (boxLt HP.out))
      replace HQ := Lib.hid (HQ.out.keep hb15 (boxLt HQ.out))
      replace HR := Lib.hid (HR.out.keep hb15 (boxLt HR.out))
      replace HS := Lib.hid (HS.out.keep hb15 (boxLt HS.out))
      replace HRp := Lib.hid (HRp.out.keep hb15)
      replace HRq := Lib.hid (HRq.out.keep hb15)
      replace HRr := Lib.hid (HRr.out.keep hb15)
      replace HRs := Lib.hid (HRs.out.keep hb15)
      replace HB := Lib.hid (bthen HB.out hb15)
      clear hb15
      obtain ⟨Xc, Xf⟩ := own1S HX.out
      obtain ⟨Pc, Pf⟩ := own1S HP.out
      obtain ⟨Qc, Qf⟩ := own1S HQ.out
      obtain ⟨Rc, Rf⟩ := own1S HR.out
      obtain ⟨Sc, Sf⟩ := own1S HS.out
      go_wp2_with fail
      refine (sameT_yes qi mi di qj mj dj _ _ HRr.out HRs.out).mono ?_
      rintro e v16 ⟨rfl, hb16⟩
      clear Xc Xf Pc Pf Qc Qf Rc Rf Sc Sf
      replace HX := Lib.hid (HX.out.keep hb16 (boxLt HX.out))
      replace HP := Lib.hid (HP.out.keep hb16 (boxLt HP.out))
      replace HQ := Lib.hid (HQ.out.keep hb16 (boxLt HQ.out))
      replace HR := Lib.hid (HR.out.keep hb16 (boxLt HR.out))
      replace HS := Lib.hid (HS.out.keep hb16 (boxLt HS.out))
      replace HRp := Lib.hid (HRp.out.keep hb16)
      replace HRq := Lib.hid (HRq.out.keep hb16)
      replace HRr := Lib.hid (HRr.out.keep hb16)
      replace HRs := Lib.hid (HRs.out.keep hb16)
      replace HB := Lib.hid (bthen HB.out hb16)
      clear hb16
      obtain ⟨Xc, Xf⟩ := own1S HX.out
      obtain ⟨Pc, Pf⟩ := own1S HP.out
      obtain ⟨Qc, Qf⟩ := own1S HQ.out
      obtain ⟨Rc, Rf⟩ := own1S HR.out
      obtain ⟨Sc, Sf⟩ := own1S HS.out
      go_wp2
      go_ret
      exact ⟨rfl, HB.out⟩
    · clear hl1 hLT
      go_enter Try.func5, Try.ntmps5
      go_wp2_with (((go_at_call 14; refine (hl.out _).mono ?_); rintro e w1 ⟨rfl, hb1⟩))
      go_ret
      exact ⟨rfl, below_boxed hb1⟩
  · have hLT : decide (n ≤ 200) = false := decide_eq_false hl1
    rw [hLT] at hl
    clear hl1 hLT
    go_enter Try.func5, Try.ntmps5
    go_wp2_with (((go_at_call 14; refine (hl.out _).mono ?_); rintro e w1 ⟨rfl, hb1⟩))
    go_ret
    exact ⟨rfl, below_boxed hb1⟩
end Go.Proofs.Ytapfbnhcndifhaa
