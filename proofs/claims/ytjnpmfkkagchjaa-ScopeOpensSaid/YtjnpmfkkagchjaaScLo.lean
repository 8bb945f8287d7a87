/- The law ScopeOpens of layer 14. -/
import Derived.Test.YtjnpmfkkagchjaaScP
import Derived.Test.YtjnpmfkkagchjaaScRq
import Derived.Test.YtjnpmfkkagchjaaScCt
import Derived.Test.YtjnpmfkkagchjaaScPq
import Derived.Test.YtjnpmfkkagchjaaScPl
import Derived.Test.YtjnpmfkkagchjaaScU
set_option linter.unusedVariables false
set_option linter.unusedSimpArgs false
namespace Go.Proofs.Ytjnpmfkkagchjaa
open Go.RowKit

set_option maxRecDepth 100000 in
set_option maxHeartbeats 6400000 in
theorem lawOpens (pa : Option Addr) (na ca : Nat) (pb : Option Addr) (nb cb : Nat) (pc : Option Addr) (nc cc : Nat) (l : Loc) (c : Int) (w : World) (hr : LRow w pa na ca pb nb cb pc nc cc l) :
    Calls Try.prog 4 #[.agg #[.slice pa na ca, .slice pb nb cb, .slice pc nc cc], .int .i64 c] w fun e w' => e = .returned (.bool true) ∧ Below w.heap.size w w' := by
  obtain ⟨h63a, h63b, h63c⟩ := hr.i63
  have Hr := Lib.hid (fun w' (h : Below w.heap.size w w') => hr.keep h)
  have hl := Lib.hid (fun w => light_any pa na ca pb nb cb pc nc cc w h63a h63b h63c)
  clear hr
  cases hlt : lightB na nb nc
  · rw [hlt] at hl
    clear hlt
    go_enter Try.func4, Try.ntmps4
    go_wp2_with (((go_at_call 9; refine (hl.out _).mono ?_); rintro e w1 ⟨rfl, hb1⟩))
    go_ret
    exact ⟨rfl, below_boxed hb1⟩
  · rw [hlt] at hl
    clear hlt
    go_enter Try.func4, Try.ntmps4
    go_wp2_with fail
    refine (hl.out _).mono ?_
    rintro e w1 ⟨rfl, hb1⟩
    have HX := Lib.hid ((OwnL.new w [.slice pa na ca, .slice pb nb cb, .slice pc nc cc] 26).keep hb1 (by simp))
    have HB := Lib.hid (below_boxed hb1)
    have hsz1 : w.heap.size + 1 ≤ w1.heap.size := by have := hb1.size; simpa using this
    clear hb1
    obtain ⟨Xc0, Xc1, Xc2, Xf0, Xf1, Xf2⟩ := own6 HX.out
    go_wp2_with fail
    refine (enter_any pa na ca pb nb cb pc nc cc l c _ (Hr.out _ HB.out)).mono ?_
    rintro e v2 ⟨⟨qp1, mp1, dp1, qp2, mp2, dp2, qp3, mp3, dp3, rfl, hrow⟩, hb2⟩
    have hsz2 := hb2.size
    try simp only [World.size_alloc, set3_size] at hsz2
    clear Xc0 Xc1 Xc2 Xf0 Xf1 Xf2
    replace HX := Lib.hid (HX.out.keep hb2 (by first | omega | (simp; omega) | simp))
    replace HB := Lib.hid (bthen HB.out hb2)
    replace HX := Lib.hid (HX.out.keep (below_box (o := (.cells #[.slice qp1 mp1 dp1, .slice qp2 mp2 dp2, .slice qp3 mp3 dp3] 26))) (by first | omega | (simp; omega) | simp))
    replace HB := Lib.hid (bthen HB.out (below_box (o := (.cells #[.slice qp1 mp1 dp1, .slice qp2 mp2 dp2, .slice qp3 mp3 dp3] 26))))
    have HP := Lib.hid (OwnL.new v2 [.slice qp1 mp1 dp1, .slice qp2 mp2 dp2, .slice qp3 mp3 dp3] 26)
    have HRp := Lib.hid (hrow.keep (below_box (o := (.cells #[.slice qp1 mp1 dp1, .slice qp2 mp2 dp2, .slice qp3 mp3 dp3] 26))))
    obtain ⟨Xc0, Xc1, Xc2, Xf0, Xf1, Xf2⟩ := own6 HX.out
    obtain ⟨Pc0, Pc1, Pc2, Pf0, Pf1, Pf2⟩ := own6 HP.out
    clear hrow hb2
    go_wp2_with fail
    refine (refEnter_any pa na ca pb nb cb pc nc cc l c _ (Hr.out _ HB.out)).mono ?_
    rintro e v3 ⟨⟨qr1, mr1, dr1, qr2, mr2, dr2, qr3, mr3, dr3, rfl, hrow⟩, hb3⟩
    have hsz3 := hb3.size
    try simp only [World.size_alloc, set3_size] at hsz3
    clear Xc0 Xc1 Xc2 Xf0 Xf1 Xf2 Pc0 Pc1 Pc2 Pf0 Pf1 Pf2
    replace HX := Lib.hid (HX.out.keep hb3 (by first | omega | (simp; omega) | simp))
    replace HP := Lib.hid (HP.out.keep hb3 (by first | omega | (simp; omega) | simp))
    replace HRp := Lib.hid (HRp.out.keep hb3)
    replace HB := Lib.hid (bthen HB.out hb3)
    replace HX := Lib.hid (HX.out.keep (below_box (o := (.cells #[.slice qr1 mr1 dr1, .slice qr2 mr2 dr2, .slice qr3 mr3 dr3] 26))) (by first | omega | (simp; omega) | simp))
    replace HP := Lib.hid (HP.out.keep (below_box (o := (.cells #[.slice qr1 mr1 dr1, .slice qr2 mr2 dr2, .slice qr3 mr3 dr3] 26))) (by first | omega | (simp; omega) | simp))
    replace HRp := Lib.hid (HRp.out.keep (below_box (o := (.cells #[.slice qr1 mr1 dr1, .slice qr2 mr2 dr2, .slice qr3 mr3 dr3] 26))))
    replace HB := Lib.hid (bthen HB.out (below_box (o := (.cells #[.slice qr1 mr1 dr1, .slice qr2 mr2 dr2, .slice qr3 mr3 dr3] 26))))
    have HQ := Lib.hid (OwnL.new v3 [.slice qr1 mr1 dr1, .slice qr2 mr2 dr2, .slice qr3 mr3 dr3] 26)
    have HRq := Lib.hid (hrow.keep (below_box (o := (.cells #[.slice qr1 mr1 dr1, .slice qr2 mr2 dr2, .slice qr3 mr3 dr3] 26))))
    obtain ⟨Xc0, Xc1, Xc2, Xf0, Xf1, Xf2⟩ := own6 HX.out
    obtain ⟨Pc0, Pc1, Pc2, Pf0, Pf1, Pf2⟩ := own6 HP.out
    obtain ⟨Qc0, Qc1, Qc2, Qf0, Qf1, Qf2⟩ := own6 HQ.out
    clear hrow hb3
    go_wp2_with fail
    refine (push_any pa na ca pb nb cb pc nc cc l c _ (Hr.out _ HB.out)).mono ?_
    rintro e v4 ⟨⟨qs1, ms1, ds1, qs2, ms2, ds2, qs3, ms3, ds3, rfl, hrow⟩, hb4⟩
    have hsz4 := hb4.size
    try simp only [World.size_alloc, set3_size] at hsz4
    clear Xc0 Xc1 Xc2 Xf0 Xf1 Xf2 Pc0 Pc1 Pc2 Pf0 Pf1 Pf2 Qc0 Qc1 Qc2 Qf0 Qf1 Qf2
    replace HX := Lib.hid (HX.out.keep hb4 (by first | omega | (simp; omega) | simp))
    replace HP := Lib.hid (HP.out.keep hb4 (by first | omega | (simp; omega) | simp))
    replace HQ := Lib.hid (HQ.out.keep hb4 (by first | omega | (simp; omega) | simp))
    replace HRp := Lib.hid (HRp.out.keep hb4)
    replace HRq := Lib.hid (HRq.out.keep hb4)
    replace HB := Lib.hid (bthen HB.out hb4)
    replace HX := Lib.hid (HX.out.keep (below_box (o := (.cells #[.slice qs1 ms1 ds1, .slice qs2 ms2 ds2, .slice qs3 ms3 ds3] 26))) (by first | omega | (simp; omega) | simp))
    replace HP := Lib.hid (HP.out.keep (below_box (o := (.cells #[.slice qs1 ms1 ds1, .slice qs2 ms2 ds2, .slice qs3 ms3 ds3] 26))) (by first | omega | (simp; omega) | simp))
    replace HQ := Lib.hid (HQ.out.keep (below_box (o := (.cells #[.slice qs1 ms1 ds1, .slice qs2 ms2 ds2, .slice qs3 ms3 ds3] 26))) (by first | omega | (simp; omega) | simp))
    replace HRp := Lib.hid (HRp.out.keep (below_box (o := (.cells #[.slice qs1 ms1 ds1, .slice qs2 ms2 ds2, .slice qs3 ms3 ds3] 26))))
    replace HRq := Lib.hid (HRq.out.keep (below_box (o := (.cells #[.slice qs1 ms1 ds1, .slice qs2 ms2 ds2, .slice qs3 ms3 ds3] 26))))
    replace HB := Lib.hid (bthen HB.out (below_box (o := (.cells #[.slice qs1 ms1 ds1, .slice qs2 ms2 ds2, .slice qs3 ms3 ds3] 26))))
    have HR := Lib.hid (OwnL.new v4 [.slice qs1 ms1 ds1, .slice qs2 ms2 ds2, .slice qs3 ms3 ds3] 26)
    have HRr := Lib.hid (hrow.keep (below_box (o := (.cells #[.slice qs1 ms1 ds1, .slice qs2 ms2 ds2, .slice qs3 ms3 ds3] 26))))
    obtain ⟨Xc0, Xc1, Xc2, Xf0, Xf1, Xf2⟩ := own6 HX.out
    obtain ⟨Pc0, Pc1, Pc2, Pf0, Pf1, Pf2⟩ := own6 HP.out
    obtain ⟨Qc0, Qc1, Qc2, Qf0, Qf1, Qf2⟩ := own6 HQ.out
    obtain ⟨Rc0, Rc1, Rc2, Rf0, Rf1, Rf2⟩ := own6 HR.out
    clear hrow hb4
    go_wp2_with fail
    refine (refPush_any pa na ca pb nb cb pc nc cc l c _ (Hr.out _ HB.out)).mono ?_
    rintro e v5 ⟨⟨qt1, mt1, dt1, qt2, mt2, dt2, qt3, mt3, dt3, rfl, hrow⟩, hb5⟩
    have hsz5 := hb5.size
    try simp only [World.size_alloc, set3_size] at hsz5
    clear Xc0 Xc1 Xc2 Xf0 Xf1 Xf2 Pc0 Pc1 Pc2 Pf0 Pf1 Pf2 Qc0 Qc1 Qc2 Qf0 Qf1 Qf2 Rc0 Rc1 Rc2 Rf0 Rf1 Rf2
    replace HX := Lib.hid (HX.out.keep hb5 (by first | omega | (simp; omega) | simp))
    replace HP := Lib.hid (HP.out.keep hb5 (by first | omega | (simp; omega) | simp))
    replace HQ := Lib.hid (HQ.out.keep hb5 (by first | omega | (simp; omega) | simp))
    replace HR := Lib.hid (HR.out.keep hb5 (by first | omega | (simp; omega) | simp))
    replace HRp := Lib.hid (HRp.out.keep hb5)
    replace HRq := Lib.hid (HRq.out.keep hb5)
    replace HRr := Lib.hid (HRr.out.keep hb5)
    replace HB := Lib.hid (bthen HB.out hb5)
    replace HX := Lib.hid (HX.out.keep (below_box (o := (.cells #[.slice qt1 mt1 dt1, .slice qt2 mt2 dt2, .slice qt3 mt3 dt3] 26))) (by first | omega | (simp; omega) | simp))
    replace HP := Lib.hid (HP.out.keep (below_box (o := (.cells #[.slice qt1 mt1 dt1, .slice qt2 mt2 dt2, .slice qt3 mt3 dt3] 26))) (by first | omega | (simp; omega) | simp))
    replace HQ := Lib.hid (HQ.out.keep (below_box (o := (.cells #[.slice qt1 mt1 dt1, .slice qt2 mt2 dt2, .slice qt3 mt3 dt3] 26))) (by first | omega | (simp; omega) | simp))
    replace HR := Lib.hid (HR.out.keep (below_box (o := (.cells #[.slice qt1 mt1 dt1, .slice qt2 mt2 dt2, .slice qt3 mt3 dt3] 26))) (by first | omega | (simp; omega) | simp))
    replace HRp := Lib.hid (HRp.out.keep (below_box (o := (.cells #[.slice qt1 mt1 dt1, .slice qt2 mt2 dt2, .slice qt3 mt3 dt3] 26))))
    replace HRq := Lib.hid (HRq.out.keep (below_box (o := (.cells #[.slice qt1 mt1 dt1, .slice qt2 mt2 dt2, .slice qt3 mt3 dt3] 26))))
    replace HRr := Lib.hid (HRr.out.keep (below_box (o := (.cells #[.slice qt1 mt1 dt1, .slice qt2 mt2 dt2, .slice qt3 mt3 dt3] 26))))
    replace HB := Lib.hid (bthen HB.out (below_box (o := (.cells #[.slice qt1 mt1 dt1, .slice qt2 mt2 dt2, .slice qt3 mt3 dt3] 26))))
    have HS := Lib.hid (OwnL.new v5 [.slice qt1 mt1 dt1, .slice qt2 mt2 dt2, .slice qt3 mt3 dt3] 26)
    have HRs := Lib.hid (hrow.keep (below_box (o := (.cells #[.slice qt1 mt1 dt1, .slice qt2 mt2 dt2, .slice qt3 mt3 dt3] 26))))
    obtain ⟨Xc0, Xc1, Xc2, Xf0, Xf1, Xf2⟩ := own6 HX.out
    obtain ⟨Pc0, Pc1, Pc2, Pf0, Pf1, Pf2⟩ := own6 HP.out
    obtain ⟨Qc0, Qc1, Qc2, Qf0, Qf1, Qf2⟩ := own6 HQ.out
    obtain ⟨Rc0, Rc1, Rc2, Rf0, Rf1, Rf2⟩ := own6 HR.out
    obtain ⟨Sc0, Sc1, Sc2, Sf0, Sf1, Sf2⟩ := own6 HS.out
    clear hrow hb5
    go_wp2_with fail
    refine (sameL_yes qp1 mp1 dp1 qp2 mp2 dp2 qp3 mp3 dp3 qr1 mr1 dr1 qr2 mr2 dr2 qr3 mr3 dr3 _ _ HRp.out HRq.out).mono ?_
    rintro e v6 ⟨rfl, hb6⟩
    have hsz6 := hb6.size
    try simp only [World.size_alloc, set3_size] at hsz6
    clear Xc0 Xc1 Xc2 Xf0 Xf1 Xf2 Pc0 Pc1 Pc2 Pf0 Pf1 Pf2 Qc0 Qc1 Qc2 Qf0 Qf1 Qf2 Rc0 Rc1 Rc2 Rf0 Rf1 Rf2 Sc0 Sc1 Sc2 Sf0 Sf1 Sf2
    replace HX := Lib.hid (HX.out.keep hb6 (by first | omega | (simp; omega) | simp))
    replace HP := Lib.hid (HP.out.keep hb6 (by first | omega | (simp; omega) | simp))
    replace HQ := Lib.hid (HQ.out.keep hb6 (by first | omega | (simp; omega) | simp))
    replace HR := Lib.hid (HR.out.keep hb6 (by first | omega | (simp; omega) | simp))
    replace HS := Lib.hid (HS.out.keep hb6 (by first | omega | (simp; omega) | simp))
    replace HRp := Lib.hid (HRp.out.keep hb6)
    replace HRq := Lib.hid (HRq.out.keep hb6)
    replace HRr := Lib.hid (HRr.out.keep hb6)
    replace HRs := Lib.hid (HRs.out.keep hb6)
    replace HB := Lib.hid (bthen HB.out hb6)
    obtain ⟨Xc0, Xc1, Xc2, Xf0, Xf1, Xf2⟩ := own6 HX.out
    obtain ⟨Pc0, Pc1, Pc2, Pf0, Pf1, Pf2⟩ := own6 HP.out
    obtain ⟨Qc0, Qc1, Qc2, Qf0, Qf1, Qf2⟩ := own6 HQ.out
    obtain ⟨Rc0, Rc1, Rc2, Rf0, Rf1, Rf2⟩ := own6 HR.out
    obtain ⟨Sc0, Sc1, Sc2, Sf0, Sf1, Sf2⟩ := own6 HS.out
    clear hb6
    go_wp2_with fail
    refine (sameL_yes qs1 ms1 ds1 qs2 ms2 ds2 qs3 ms3 ds3 qt1 mt1 dt1 qt2 mt2 dt2 qt3 mt3 dt3 _ _ HRr.out HRs.out).mono ?_
    rintro e v7 ⟨rfl, hb7⟩
    have hsz7 := hb7.size
    try simp only [World.size_alloc, set3_size] at hsz7
    clear Xc0 Xc1 Xc2 Xf0 Xf1 Xf2 Pc0 Pc1 Pc2 Pf0 Pf1 Pf2 Qc0 Qc1 Qc2 Qf0 Qf1 Qf2 Rc0 Rc1 Rc2 Rf0 Rf1 Rf2 Sc0 Sc1 Sc2 Sf0 Sf1 Sf2
    replace HX := Lib.hid (HX.out.keep hb7 (by first | omega | (simp; omega) | simp))
    replace HP := Lib.hid (HP.out.keep hb7 (by first | omega | (simp; omega) | simp))
    replace HQ := Lib.hid (HQ.out.keep hb7 (by first | omega | (simp; omega) | simp))
    replace HR := Lib.hid (HR.out.keep hb7 (by first | omega | (simp; omega) | simp))
    replace HS := Lib.hid (HS.out.keep hb7 (by first | omega | (simp; omega) | simp))
    replace HRp := Lib.hid (HRp.out.keep hb7)
    replace HRq := Lib.hid (HRq.out.keep hb7)
    replace HRr := Lib.hid (HRr.out.keep hb7)
    replace HRs := Lib.hid (HRs.out.keep hb7)
    replace HB := Lib.hid (bthen HB.out hb7)
    obtain ⟨Xc0, Xc1, Xc2, Xf0, Xf1, Xf2⟩ := own6 HX.out
    obtain ⟨Pc0, Pc1, Pc2, Pf0, Pf1, Pf2⟩ := own6 HP.out
    obtain ⟨Qc0, Qc1, Qc2, Qf0, Qf1, Qf2⟩ := own6 HQ.out
    obtain ⟨Rc0, Rc1, Rc2, Rf0, Rf1, Rf2⟩ := own6 HR.out
    obtain ⟨Sc0, Sc1, Sc2, Sf0, Sf1, Sf2⟩ := own6 HS.out
    clear hb7
    go_wp2_with fail
    refine (scPop_any pa na ca pb nb cb pc nc cc l _ (Hr.out _ HB.out)).mono ?_
    rintro e v8 ⟨⟨qu1, mu1, du1, qu2, mu2, du2, qu3, mu3, du3, rfl, hrow⟩, hb8⟩
    have hsz8 := hb8.size
    try simp only [World.size_alloc, set3_size] at hsz8
    clear Xc0 Xc1 Xc2 Xf0 Xf1 Xf2 Pc0 Pc1 Pc2 Pf0 Pf1 Pf2 Qc0 Qc1 Qc2 Qf0 Qf1 Qf2 Rc0 Rc1 Rc2 Rf0 Rf1 Rf2 Sc0 Sc1 Sc2 Sf0 Sf1 Sf2
    replace HX := Lib.hid (HX.out.keep hb8 (by first | omega | (simp; omega) | simp))
    replace HP := Lib.hid (HP.out.keep hb8 (by first | omega | (simp; omega) | simp))
    replace HQ := Lib.hid (HQ.out.keep hb8 (by first | omega | (simp; omega) | simp))
    replace HR := Lib.hid (HR.out.keep hb8 (by first | omega | (simp; omega) | simp))
    replace HS := Lib.hid (HS.out.keep hb8 (by first | omega | (simp; omega) | simp))
    replace HRp := Lib.hid (HRp.out.keep hb8)
    replace HRq := Lib.hid (HRq.out.keep hb8)
    replace HRr := Lib.hid (HRr.out.keep hb8)
    replace HRs := Lib.hid (HRs.out.keep hb8)
    replace HB := Lib.hid (bthen HB.out hb8)
    obtain ⟨kXc0, kXc1, kXc2, kXf0, kXf1, kXf2⟩ := own6 HX.out
    obtain ⟨kPc0, kPc1, kPc2, kPf0, kPf1, kPf2⟩ := own6 HP.out
    obtain ⟨kQc0, kQc1, kQc2, kQf0, kQf1, kQf2⟩ := own6 HQ.out
    obtain ⟨kRc0, kRc1, kRc2, kRf0, kRf1, kRf2⟩ := own6 HR.out
    obtain ⟨kSc0, kSc1, kSc2, kSf0, kSf1, kSf2⟩ := own6 HS.out
    have HRpn := Lib.hid (hrow.set3 HP.out (.slice qu1 mu1 du1) (.slice qu2 mu2 du2) (.slice qu3 mu3 du3))
    replace HRq := Lib.hid (HRq.out.set3 HP.out (.slice qu1 mu1 du1) (.slice qu2 mu2 du2) (.slice qu3 mu3 du3))
    replace HRr := Lib.hid (HRr.out.set3 HP.out (.slice qu1 mu1 du1) (.slice qu2 mu2 du2) (.slice qu3 mu3 du3))
    replace HRs := Lib.hid (HRs.out.set3 HP.out (.slice qu1 mu1 du1) (.slice qu2 mu2 du2) (.slice qu3 mu3 du3))
    clear HRp
    have HRp := HRpn
    clear HRpn
    replace HB := Lib.hid (set3_below (B := v2.heap.size) (x := .slice qu1 mu1 du1) (y := .slice qu2 mu2 du2) (z := .slice qu3 mu3 du3) HB.out (by omega))
    replace HX := Lib.hid (set3_other (B := v2.heap.size) (x := .slice qu1 mu1 du1) (y := .slice qu2 mu2 du2) (z := .slice qu3 mu3 du3) HX.out (by omega))
    replace HQ := Lib.hid (set3_other (B := v2.heap.size) (x := .slice qu1 mu1 du1) (y := .slice qu2 mu2 du2) (z := .slice qu3 mu3 du3) HQ.out (by omega))
    replace HR := Lib.hid (set3_other (B := v2.heap.size) (x := .slice qu1 mu1 du1) (y := .slice qu2 mu2 du2) (z := .slice qu3 mu3 du3) HR.out (by omega))
    replace HS := Lib.hid (set3_other (B := v2.heap.size) (x := .slice qu1 mu1 du1) (y := .slice qu2 mu2 du2) (z := .slice qu3 mu3 du3) HS.out (by omega))
    replace HP := Lib.hid (set3_own (x := .slice qu1 mu1 du1) (y := .slice qu2 mu2 du2) (z := .slice qu3 mu3 du3) HP.out)
    obtain ⟨Xc0, Xc1, Xc2, Xf0, Xf1, Xf2⟩ := own6 HX.out
    obtain ⟨Pc0, Pc1, Pc2, Pf0, Pf1, Pf2⟩ := own6 HP.out
    obtain ⟨Qc0, Qc1, Qc2, Qf0, Qf1, Qf2⟩ := own6 HQ.out
    obtain ⟨Rc0, Rc1, Rc2, Rf0, Rf1, Rf2⟩ := own6 HR.out
    obtain ⟨Sc0, Sc1, Sc2, Sf0, Sf1, Sf2⟩ := own6 HS.out
    clear hrow hb8
    go_wp2_with fail
    refine (refPop_of cut_any pa na ca pb nb cb pc nc cc l _ (Hr.out _ HB.out)).mono ?_
    rintro e v9 ⟨⟨qv1, mv1, dv1, qv2, mv2, dv2, qv3, mv3, dv3, rfl, hrow⟩, hb9⟩
    have hsz9 := hb9.size
    try simp only [World.size_alloc, set3_size] at hsz9
    clear Xc0 Xc1 Xc2 Xf0 Xf1 Xf2 Pc0 Pc1 Pc2 Pf0 Pf1 Pf2 Qc0 Qc1 Qc2 Qf0 Qf1 Qf2 Rc0 Rc1 Rc2 Rf0 Rf1 Rf2 Sc0 Sc1 Sc2 Sf0 Sf1 Sf2 kXc0 kXc1 kXc2 kXf0 kXf1 kXf2 kPc0 kPc1 kPc2 kPf0 kPf1 kPf2 kQc0 kQc1 kQc2 kQf0 kQf1 kQf2 kRc0 kRc1 kRc2 kRf0 kRf1 kRf2 kSc0 kSc1 kSc2 kSf0 kSf1 kSf2
    replace HX := Lib.hid (HX.out.keep hb9 (by first | omega | (simp; omega) | simp))
    replace HP := Lib.hid (HP.out.keep hb9 (by first | omega | (simp; omega) | simp))
    replace HQ := Lib.hid (HQ.out.keep hb9 (by first | omega | (simp; omega) | simp))
    replace HR := Lib.hid (HR.out.keep hb9 (by first | omega | (simp; omega) | simp))
    replace HS := Lib.hid (HS.out.keep hb9 (by first | omega | (simp; omega) | simp))
    replace HRp := Lib.hid (HRp.out.keep hb9)
    replace HRq := Lib.hid (HRq.out.keep hb9)
    replace HRr := Lib.hid (HRr.out.keep hb9)
    replace HRs := Lib.hid (HRs.out.keep hb9)
    replace HB := Lib.hid (bthen HB.out hb9)
    obtain ⟨kXc0, kXc1, kXc2, kXf0, kXf1, kXf2⟩ := own6 HX.out
    obtain ⟨kPc0, kPc1, kPc2, kPf0, kPf1, kPf2⟩ := own6 HP.out
    obtain ⟨kQc0, kQc1, kQc2, kQf0, kQf1, kQf2⟩ := own6 HQ.out
    obtain ⟨kRc0, kRc1, kRc2, kRf0, kRf1, kRf2⟩ := own6 HR.out
    obtain ⟨kSc0, kSc1, kSc2, kSf0, kSf1, kSf2⟩ := own6 HS.out
    have HRqn := Lib.hid (hrow.set3 HQ.out (.slice qv1 mv1 dv1) (.slice qv2 mv2 dv2) (.slice qv3 mv3 dv3))
    replace HRp := Lib.hid (HRp.out.set3 HQ.out (.slice qv1 mv1 dv1) (.slice qv2 mv2 dv2) (.slice qv3 mv3 dv3))
    replace HRr := Lib.hid (HRr.out.set3 HQ.out (.slice qv1 mv1 dv1) (.slice qv2 mv2 dv2) (.slice qv3 mv3 dv3))
    replace HRs := Lib.hid (HRs.out.set3 HQ.out (.slice qv1 mv1 dv1) (.slice qv2 mv2 dv2) (.slice qv3 mv3 dv3))
    clear HRq
    have HRq := HRqn
    clear HRqn
    replace HB := Lib.hid (set3_below (B := v3.heap.size) (x := .slice qv1 mv1 dv1) (y := .slice qv2 mv2 dv2) (z := .slice qv3 mv3 dv3) HB.out (by omega))
    replace HX := Lib.hid (set3_other (B := v3.heap.size) (x := .slice qv1 mv1 dv1) (y := .slice qv2 mv2 dv2) (z := .slice qv3 mv3 dv3) HX.out (by omega))
    replace HP := Lib.hid (set3_other (B := v3.heap.size) (x := .slice qv1 mv1 dv1) (y := .slice qv2 mv2 dv2) (z := .slice qv3 mv3 dv3) HP.out (by omega))
    replace HR := Lib.hid (set3_other (B := v3.heap.size) (x := .slice qv1 mv1 dv1) (y := .slice qv2 mv2 dv2) (z := .slice qv3 mv3 dv3) HR.out (by omega))
    replace HS := Lib.hid (set3_other (B := v3.heap.size) (x := .slice qv1 mv1 dv1) (y := .slice qv2 mv2 dv2) (z := .slice qv3 mv3 dv3) HS.out (by omega))
    replace HQ := Lib.hid (set3_own (x := .slice qv1 mv1 dv1) (y := .slice qv2 mv2 dv2) (z := .slice qv3 mv3 dv3) HQ.out)
    obtain ⟨Xc0, Xc1, Xc2, Xf0, Xf1, Xf2⟩ := own6 HX.out
    obtain ⟨Pc0, Pc1, Pc2, Pf0, Pf1, Pf2⟩ := own6 HP.out
    obtain ⟨Qc0, Qc1, Qc2, Qf0, Qf1, Qf2⟩ := own6 HQ.out
    obtain ⟨Rc0, Rc1, Rc2, Rf0, Rf1, Rf2⟩ := own6 HR.out
    obtain ⟨Sc0, Sc1, Sc2, Sf0, Sf1, Sf2⟩ := own6 HS.out
    clear hrow hb9
    go_wp2_with fail
    refine (scLeave_any pa na ca pb nb cb pc nc cc l _ (Hr.out _ HB.out)).mono ?_
    rintro e v10 ⟨⟨qx1, mx1, dx1, qx2, mx2, dx2, qx3, mx3, dx3, rfl, hrow⟩, hb10⟩
    have hsz10 := hb10.size
    try simp only [World.size_alloc, set3_size] at hsz10
    clear Xc0 Xc1 Xc2 Xf0 Xf1 Xf2 Pc0 Pc1 Pc2 Pf0 Pf1 Pf2 Qc0 Qc1 Qc2 Qf0 Qf1 Qf2 Rc0 Rc1 Rc2 Rf0 Rf1 Rf2 Sc0 Sc1 Sc2 Sf0 Sf1 Sf2 kXc0 kXc1 kXc2 kXf0 kXf1 kXf2 kPc0 kPc1 kPc2 kPf0 kPf1 kPf2 kQc0 kQc1 kQc2 kQf0 kQf1 kQf2 kRc0 kRc1 kRc2 kRf0 kRf1 kRf2 kSc0 kSc1 kSc2 kSf0 kSf1 kSf2
    replace HX := Lib.hid (HX.out.keep hb10 (by first | omega | (simp; omega) | simp))
    replace HP := Lib.hid (HP.out.keep hb10 (by first | omega | (simp; omega) | simp))
    replace HQ := Lib.hid (HQ.out.keep hb10 (by first | omega | (simp; omega) | simp))
    replace HR := Lib.hid (HR.out.keep hb10 (by first | omega | (simp; omega) | simp))
    replace HS := Lib.hid (HS.out.keep hb10 (by first | omega | (simp; omega) | simp))
    replace HRp := Lib.hid (HRp.out.keep hb10)
    replace HRq := Lib.hid (HRq.out.keep hb10)
    replace HRr := Lib.hid (HRr.out.keep hb10)
    replace HRs := Lib.hid (HRs.out.keep hb10)
    replace HB := Lib.hid (bthen HB.out hb10)
    obtain ⟨kXc0, kXc1, kXc2, kXf0, kXf1, kXf2⟩ := own6 HX.out
    obtain ⟨kPc0, kPc1, kPc2, kPf0, kPf1, kPf2⟩ := own6 HP.out
    obtain ⟨kQc0, kQc1, kQc2, kQf0, kQf1, kQf2⟩ := own6 HQ.out
    obtain ⟨kRc0, kRc1, kRc2, kRf0, kRf1, kRf2⟩ := own6 HR.out
    obtain ⟨kSc0, kSc1, kSc2, kSf0, kSf1, kSf2⟩ := own6 HS.out
    have HRrn := Lib.hid (hrow.set3 HR.out (.slice qx1 mx1 dx1) (.slice qx2 mx2 dx2) (.slice qx3 mx3 dx3))
    replace HRp := Lib.hid (HRp.out.set3 HR.out (.slice qx1 mx1 dx1) (.slice qx2 mx2 dx2) (.slice qx3 mx3 dx3))
    replace HRq := Lib.hid (HRq.out.set3 HR.out (.slice qx1 mx1 dx1) (.slice qx2 mx2 dx2) (.slice qx3 mx3 dx3))
    replace HRs := Lib.hid (HRs.out.set3 HR.out (.slice qx1 mx1 dx1) (.slice qx2 mx2 dx2) (.slice qx3 mx3 dx3))
    clear HRr
    have HRr := HRrn
    clear HRrn
    replace HB := Lib.hid (set3_below (B := v4.heap.size) (x := .slice qx1 mx1 dx1) (y := .slice qx2 mx2 dx2) (z := .slice qx3 mx3 dx3) HB.out (by omega))
    replace HX := Lib.hid (set3_other (B := v4.heap.size) (x := .slice qx1 mx1 dx1) (y := .slice qx2 mx2 dx2) (z := .slice qx3 mx3 dx3) HX.out (by omega))
    replace HP := Lib.hid (set3_other (B := v4.heap.size) (x := .slice qx1 mx1 dx1) (y := .slice qx2 mx2 dx2) (z := .slice qx3 mx3 dx3) HP.out (by omega))
    replace HQ := Lib.hid (set3_other (B := v4.heap.size) (x := .slice qx1 mx1 dx1) (y := .slice qx2 mx2 dx2) (z := .slice qx3 mx3 dx3) HQ.out (by omega))
    replace HS := Lib.hid (set3_other (B := v4.heap.size) (x := .slice qx1 mx1 dx1) (y := .slice qx2 mx2 dx2) (z := .slice qx3 mx3 dx3) HS.out (by omega))
    replace HR := Lib.hid (set3_own (x := .slice qx1 mx1 dx1) (y := .slice qx2 mx2 dx2) (z := .slice qx3 mx3 dx3) HR.out)
    obtain ⟨Xc0, Xc1, Xc2, Xf0, Xf1, Xf2⟩ := own6 HX.out
    obtain ⟨Pc0, Pc1, Pc2, Pf0, Pf1, Pf2⟩ := own6 HP.out
    obtain ⟨Qc0, Qc1, Qc2, Qf0, Qf1, Qf2⟩ := own6 HQ.out
    obtain ⟨Rc0, Rc1, Rc2, Rf0, Rf1, Rf2⟩ := own6 HR.out
    obtain ⟨Sc0, Sc1, Sc2, Sf0, Sf1, Sf2⟩ := own6 HS.out
    clear hrow hb10
    go_wp2_with fail
    refine (refLeave_of cut_any pa na ca pb nb cb pc nc cc l _ (Hr.out _ HB.out)).mono ?_
    rintro e v11 ⟨⟨qy1, my1, dy1, qy2, my2, dy2, qy3, my3, dy3, rfl, hrow⟩, hb11⟩
    have hsz11 := hb11.size
    try simp only [World.size_alloc, set3_size] at hsz11
    clear Xc0 Xc1 Xc2 Xf0 Xf1 Xf2 Pc0 Pc1 Pc2 Pf0 Pf1 Pf2 Qc0 Qc1 Qc2 Qf0 Qf1 Qf2 Rc0 Rc1 Rc2 Rf0 Rf1 Rf2 Sc0 Sc1 Sc2 Sf0 Sf1 Sf2 kXc0 kXc1 kXc2 kXf0 kXf1 kXf2 kPc0 kPc1 kPc2 kPf0 kPf1 kPf2 kQc0 kQc1 kQc2 kQf0 kQf1 kQf2 kRc0 kRc1 kRc2 kRf0 kRf1 kRf2 kSc0 kSc1 kSc2 kSf0 kSf1 kSf2
    replace HX := Lib.hid (HX.out.keep hb11 (by first | omega | (simp; omega) | simp))
    replace HP := Lib.hid (HP.out.keep hb11 (by first | omega | (simp; omega) | simp))
    replace HQ := Lib.hid (HQ.out.keep hb11 (by first | omega | (simp; omega) | simp))
    replace HR := Lib.hid (HR.out.keep hb11 (by first | omega | (simp; omega) | simp))
    replace HS := Lib.hid (HS.out.keep hb11 (by first | omega | (simp; omega) | simp))
    replace HRp := Lib.hid (HRp.out.keep hb11)
    replace HRq := Lib.hid (HRq.out.keep hb11)
    replace HRr := Lib.hid (HRr.out.keep hb11)
    replace HRs := Lib.hid (HRs.out.keep hb11)
    replace HB := Lib.hid (bthen HB.out hb11)
    obtain ⟨kXc0, kXc1, kXc2, kXf0, kXf1, kXf2⟩ := own6 HX.out
    obtain ⟨kPc0, kPc1, kPc2, kPf0, kPf1, kPf2⟩ := own6 HP.out
    obtain ⟨kQc0, kQc1, kQc2, kQf0, kQf1, kQf2⟩ := own6 HQ.out
    obtain ⟨kRc0, kRc1, kRc2, kRf0, kRf1, kRf2⟩ := own6 HR.out
    obtain ⟨kSc0, kSc1, kSc2, kSf0, kSf1, kSf2⟩ := own6 HS.out
    have HRsn := Lib.hid (hrow.set3 HS.out (.slice qy1 my1 dy1) (.slice qy2 my2 dy2) (.slice qy3 my3 dy3))
    replace HRp := Lib.hid (HRp.out.set3 HS.out (.slice qy1 my1 dy1) (.slice qy2 my2 dy2) (.slice qy3 my3 dy3))
    replace HRq := Lib.hid (HRq.out.set3 HS.out (.slice qy1 my1 dy1) (.slice qy2 my2 dy2) (.slice qy3 my3 dy3))
    replace HRr := Lib.hid (HRr.out.set3 HS.out (.slice qy1 my1 dy1) (.slice qy2 my2 dy2) (.slice qy3 my3 dy3))
    clear HRs
    have HRs := HRsn
    clear HRsn
    replace HB := Lib.hid (set3_below (B := v5.heap.size) (x := .slice qy1 my1 dy1) (y := .slice qy2 my2 dy2) (z := .slice qy3 my3 dy3) HB.out (by omega))
    replace HX := Lib.hid (set3_other (B := v5.heap.size) (x := .slice qy1 my1 dy1) (y := .slice qy2 my2 dy2) (z := .slice qy3 my3 dy3) HX.out (by omega))
    replace HP := Lib.hid (set3_other (B := v5.heap.size) (x := .slice qy1 my1 dy1) (y := .slice qy2 my2 dy2) (z := .slice qy3 my3 dy3) HP.out (by omega))
    replace HQ := Lib.hid (set3_other (B := v5.heap.size) (x := .slice qy1 my1 dy1) (y := .slice qy2 my2 dy2) (z := .slice qy3 my3 dy3) HQ.out (by omega))
    replace HR := Lib.hid (set3_other (B := v5.heap.size) (x := .slice qy1 my1 dy1) (y := .slice qy2 my2 dy2) (z := .slice qy3 my3 dy3) HR.out (by omega))
    replace HS := Lib.hid (set3_own (x := .slice qy1 my1 dy1) (y := .slice qy2 my2 dy2) (z := .slice qy3 my3 dy3) HS.out)
    obtain ⟨Xc0, Xc1, Xc2, Xf0, Xf1, Xf2⟩ := own6 HX.out
    obtain ⟨Pc0, Pc1, Pc2, Pf0, Pf1, Pf2⟩ := own6 HP.out
    obtain ⟨Qc0, Qc1, Qc2, Qf0, Qf1, Qf2⟩ := own6 HQ.out
    obtain ⟨Rc0, Rc1, Rc2, Rf0, Rf1, Rf2⟩ := own6 HR.out
    obtain ⟨Sc0, Sc1, Sc2, Sf0, Sf1, Sf2⟩ := own6 HS.out
    clear hrow hb11
    go_wp2_with fail
    refine (awake14 _).mono ?_
    rintro e v12 ⟨rfl, hb12⟩
    have hsz12 := hb12.size
    try simp only [World.size_alloc, set3_size] at hsz12
    clear Xc0 Xc1 Xc2 Xf0 Xf1 Xf2 Pc0 Pc1 Pc2 Pf0 Pf1 Pf2 Qc0 Qc1 Qc2 Qf0 Qf1 Qf2 Rc0 Rc1 Rc2 Rf0 Rf1 Rf2 Sc0 Sc1 Sc2 Sf0 Sf1 Sf2 kXc0 kXc1 kXc2 kXf0 kXf1 kXf2 kPc0 kPc1 kPc2 kPf0 kPf1 kPf2 kQc0 kQc1 kQc2 kQf0 kQf1 kQf2 kRc0 kRc1 kRc2 kRf0 kRf1 kRf2 kSc0 kSc1 kSc2 kSf0 kSf1 kSf2
    replace HX := Lib.hid (HX.out.keep hb12 (by first | omega | (simp; omega) | simp))
    replace HP := Lib.hid (HP.out.keep hb12 (by first | omega | (simp; omega) | simp))
    replace HQ := Lib.hid (HQ.out.keep hb12 (by first | omega | (simp; omega) | simp))
    replace HR := Lib.hid (HR.out.keep hb12 (by first | omega | (simp; omega) | simp))
    replace HS := Lib.hid (HS.out.keep hb12 (by first | omega | (simp; omega) | simp))
    replace HRp := Lib.hid (HRp.out.keep hb12)
    replace HRq := Lib.hid (HRq.out.keep hb12)
    replace HRr := Lib.hid (HRr.out.keep hb12)
    replace HRs := Lib.hid (HRs.out.keep hb12)
    replace HB := Lib.hid (bthen HB.out hb12)
    obtain ⟨Xc0, Xc1, Xc2, Xf0, Xf1, Xf2⟩ := own6 HX.out
    obtain ⟨Pc0, Pc1, Pc2, Pf0, Pf1, Pf2⟩ := own6 HP.out
    obtain ⟨Qc0, Qc1, Qc2, Qf0, Qf1, Qf2⟩ := own6 HQ.out
    obtain ⟨Rc0, Rc1, Rc2, Rf0, Rf1, Rf2⟩ := own6 HR.out
    obtain ⟨Sc0, Sc1, Sc2, Sf0, Sf1, Sf2⟩ := own6 HS.out
    clear hb12
    go_wp2_with fail
    refine (sameL_yes qu1 mu1 du1 qu2 mu2 du2 qu3 mu3 du3 qv1 mv1 dv1 qv2 mv2 dv2 qv3 mv3 dv3 _ _ HRp.out HRq.out).mono ?_
    rintro e v13 ⟨rfl, hb13⟩
    have hsz13 := hb13.size
    try simp only [World.size_alloc, set3_size] at hsz13
    clear Xc0 Xc1 Xc2 Xf0 Xf1 Xf2 Pc0 Pc1 Pc2 Pf0 Pf1 Pf2 Qc0 Qc1 Qc2 Qf0 Qf1 Qf2 Rc0 Rc1 Rc2 Rf0 Rf1 Rf2 Sc0 Sc1 Sc2 Sf0 Sf1 Sf2
    replace HX := Lib.hid (HX.out.keep hb13 (by first | omega | (simp; omega) | simp))
    replace HP := Lib.hid (HP.out.keep hb13 (by first | omega | (simp; omega) | simp))
    replace HQ := Lib.hid (HQ.out.keep hb13 (by first | omega | (simp; omega) | simp))
    replace HR := Lib.hid (HR.out.keep hb13 (by first | omega | (simp; omega) | simp))
    replace HS := Lib.hid (HS.out.keep hb13 (by first | omega | (simp; omega) | simp))
    replace HRp := Lib.hid (HRp.out.keep hb13)
    replace HRq := Lib.hid (HRq.out.keep hb13)
    replace HRr := Lib.hid (HRr.out.keep hb13)
    replace HRs := Lib.hid (HRs.out.keep hb13)
    replace HB := Lib.hid (bthen HB.out hb13)
    obtain ⟨Xc0, Xc1, Xc2, Xf0, Xf1, Xf2⟩ := own6 HX.out
    obtain ⟨Pc0, Pc1, Pc2, Pf0, Pf1, Pf2⟩ := own6 HP.out
    obtain ⟨Qc0, Qc1, Qc2, Qf0, Qf1, Qf2⟩ := own6 HQ.out
    obtain ⟨Rc0, Rc1, Rc2, Rf0, Rf1, Rf2⟩ := own6 HR.out
    obtain ⟨Sc0, Sc1, Sc2, Sf0, Sf1, Sf2⟩ := own6 HS.out
    clear hb13
    go_wp2_with fail
    refine (sameL_yes qx1 mx1 dx1 qx2 mx2 dx2 qx3 mx3 dx3 qy1 my1 dy1 qy2 my2 dy2 qy3 my3 dy3 _ _ HRr.out HRs.out).mono ?_
    rintro e v14 ⟨rfl, hb14⟩
    have hsz14 := hb14.size
    try simp only [World.size_alloc, set3_size] at hsz14
    clear Xc0 Xc1 Xc2 Xf0 Xf1 Xf2 Pc0 Pc1 Pc2 Pf0 Pf1 Pf2 Qc0 Qc1 Qc2 Qf0 Qf1 Qf2 Rc0 Rc1 Rc2 Rf0 Rf1 Rf2 Sc0 Sc1 Sc2 Sf0 Sf1 Sf2
    replace HX := Lib.hid (HX.out.keep hb14 (by first | omega | (simp; omega) | simp))
    replace HP := Lib.hid (HP.out.keep hb14 (by first | omega | (simp; omega) | simp))
    replace HQ := Lib.hid (HQ.out.keep hb14 (by first | omega | (simp; omega) | simp))
    replace HR := Lib.hid (HR.out.keep hb14 (by first | omega | (simp; omega) | simp))
    replace HS := Lib.hid (HS.out.keep hb14 (by first | omega | (simp; omega) | simp))
    replace HRp := Lib.hid (HRp.out.keep hb14)
    replace HRq := Lib.hid (HRq.out.keep hb14)
    replace HRr := Lib.hid (HRr.out.keep hb14)
    replace HRs := Lib.hid (HRs.out.keep hb14)
    replace HB := Lib.hid (bthen HB.out hb14)
    obtain ⟨Xc0, Xc1, Xc2, Xf0, Xf1, Xf2⟩ := own6 HX.out
    obtain ⟨Pc0, Pc1, Pc2, Pf0, Pf1, Pf2⟩ := own6 HP.out
    obtain ⟨Qc0, Qc1, Qc2, Qf0, Qf1, Qf2⟩ := own6 HQ.out
    obtain ⟨Rc0, Rc1, Rc2, Rf0, Rf1, Rf2⟩ := own6 HR.out
    obtain ⟨Sc0, Sc1, Sc2, Sf0, Sf1, Sf2⟩ := own6 HS.out
    clear hb14
    go_wp2
    go_ret
    exact ⟨rfl, HB.out⟩
end Go.Proofs.Ytjnpmfkkagchjaa
