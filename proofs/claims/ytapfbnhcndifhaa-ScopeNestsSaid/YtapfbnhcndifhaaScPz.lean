/- Contract of play of layer 14. -/
import Derived.Test.YtapfbnhcndifhaaScPt
import Derived.Test.YtapfbnhcndifhaaScFa
import Derived.Test.YtapfbnhcndifhaaScFb
import Derived.Test.YtapfbnhcndifhaaScFc
import Derived.Test.YtapfbnhcndifhaaScFe
import Derived.Test.YtapfbnhcndifhaaScFf
import Derived.Test.YtapfbnhcndifhaaScSt
import Derived.Deep.RegionLaw
import Derived.Deep.DeepCutAuto
set_option linter.unusedVariables false
set_option linter.unusedSimpArgs false
namespace Go.Proofs.Ytapfbnhcndifhaa
open Go.RowKit

theorem own4 {w : World} {B : Nat} {a b c d : Value} (h : OwnL w B [a, b, c, d]) : w.cell? ⟨B, 0, none⟩ = some a ∧ w.cell? ⟨B, 1, none⟩ = some b ∧ w.cell? ⟨B, 2, none⟩ = some c ∧ w.cell? ⟨B, 3, none⟩ = some d := ⟨h.cell 0 _ rfl, h.cell 1 _ rfl, h.cell 2 _ rfl, h.cell 3 _ rfl⟩

set_option maxRecDepth 100000 in
set_option maxHeartbeats 6400000 in
theorem play_any (p : Option Addr) (n cap : Nat) (ac : List Ac) (w : World) (hr : VRow w 4 p n cap (ac.flatMap acC)) :
    Calls Try.prog 8 #[.slice p n cap] w fun e w' => RetP e w' ∧ Below w.heap.size w w' := by
  have Hr := Lib.hid (fun w' (h : Below w.heap.size w w') => hr.keep h)
  have hn63 := hr.i63.2
  clear hr
  go_enter Try.func8, Try.ntmps8
  go_upto_region 5 with fail
  obtain ⟨hX, hY, hB, hs1⟩ := start2 (w := w) (a := .slice none 0 0) (b := .slice none 0 0) (c := .slice none 0 0) (T := 28) (Below.refl _ _)
  obtain ⟨w1, hw1⟩ : ∃ w1, (w.alloc (.cells #[.slice none 0 0, .slice none 0 0, .slice none 0 0] 28)).alloc (.cells #[.slice none 0 0, .slice none 0 0, .slice none 0 0] 28) = w1 := ⟨_, rfl⟩
  rw [hw1] at hX hY hB hs1 ⊢
  clear hw1
  have HY := Lib.hid hY
  have HP := Lib.hid (show PS w w1 w1.heap.size none 0 0 none 0 0 loc0 [] w1.heap.size from ⟨hX, ⟨rfl, .inl ⟨rfl, rfl⟩⟩, ⟨rfl, .inl ⟨rfl, rfl⟩⟩, (fun g e => by simp [Value.ownBlock] at e), hB, (fun g e => by simp [Value.ownBlock] at e), (fun g e => by simp [Value.ownBlock] at e), hs1⟩)
  clear hX hY hB
  go_loopw [7, 8, 9] (fun iss rf i wr => ∃ (k : Nat) (l : Loc) (rs : List Int) (pa : Option Addr) (na ca : Nat) (pb : Option Addr) (nb cb : Nat) (pc : Option Addr) (nc cc : Nat) (qi : Option Addr) (ni ci : Nat) (qr : Option Addr) (nr cr : Nat), k ≤ n ∧ i = .int .i64 k ∧ iss = .slice qi ni ci ∧ rf = .slice qr nr cr ∧ Pl l rs ∧ OwnL wr (w.heap.size + 1) [.slice pa na ca, .slice pb nb cb, .slice pc nc cc] ∧ LRow wr pa na ca pb nb cb pc nc cc l ∧ PS w wr w1.heap.size qi ni ci qr nr cr l rs wr.heap.size ∧ w1.heap.size ≤ wr.heap.size ∧ Apt pa pb pc (.slice qi ni ci) ∧ Apt pa pb pc (.slice qr nr cr)) (fun _ _ i _ => n - (intOf i).toNat)
  case atStart => exact ⟨0, loc0, [], none, 0, 0, none, 0, 0, none, 0, 0, none, 0, 0, none, 0, 0, by omega, rfl, rfl, rfl, pl_zero, HY.out, row0 _, HP.out, Nat.le_refl _, apt_none _, apt_none _⟩
  case round =>
    clear HY HP
    obtain ⟨k, l, rs, pa, na, ca, pb, nb, cb, pc, nc, cc, qi, ni, ci, qr, nr, cr, hk, rfl, rfl, rfl, hpl, hY, hrow, hps, hws, hai, har⟩ := hrel
    have HAI := Lib.hid hai
    have HAR := Lib.hid har
    have HPl := Lib.hid hpl
    have HR := Lib.hid hrow
    have HP := Lib.hid hps
    have HY := Lib.hid hY
    obtain ⟨y0, y1, y2, z0, z1, z2⟩ := own6 hY
    have hk0 : (0 : Int) ≤ k := Int.natCast_nonneg _
    have hYl : w.heap.size + 1 < wr.heap.size := cell_lt y0
    have hb1 := hps.hb
    obtain ⟨X0, X1, X2, U0, U1, U2⟩ := own6 hps.box
    clear hpl hY hrow hps hai har
    by_cases hkn : k < n
    · have hkn2 : (k : Int) < n := by omega
      by_cases hk100 : (k : Int) < 100
      · obtain ⟨x, b, off, hx, rfl, a0, a1, a2, a3⟩ := act_at (Hr.out wr HP.out.bel) hkn
        clear hx
        go_upto_region 9 with fail
        obtain ⟨w5, hw5⟩ : ∃ w5, (wr.alloc (.cells #[.int .i64 x.k, .int .i64 x.sz, .int .i64 x.wh, .int .u64 x.rf] 68)).alloc (.cells #[.slice pa na ca, .slice pb nb cb, .slice pc nc cc] 28) = w5 := ⟨_, rfl⟩
        have hB5 : Below wr.heap.size wr w5 := by rw [← hw5]; exact bthen below_box below_box
        have HA5 := Lib.hid (show OwnL w5 wr.heap.size [.int .i64 x.k, .int .i64 x.sz, .int .i64 x.wh, .int .u64 x.rf] from by rw [← hw5]; exact (OwnL.new wr _ _).keep below_box (by simp))
        have HN5 := Lib.hid (show OwnL w5 (wr.heap.size + 1) [.slice pa na ca, .slice pb nb cb, .slice pc nc cc] from by
          rw [← hw5]
          have h1 := OwnL.new (wr.alloc (.cells #[.int .i64 x.k, .int .i64 x.sz, .int .i64 x.wh, .int .u64 x.rf] 68)) [.slice pa na ca, .slice pb nb cb, .slice pc nc cc] 28
          simp only [World.size_alloc] at h1
          exact h1)
        have hs5 : wr.heap.size + 2 ≤ w5.heap.size := by rw [← hw5]; simp
        have HY5 := Lib.hid (HY.out.keep hB5 hYl)
        have HR5 := Lib.hid (HR.out.keep hB5)
        have HP5 := Lib.hid (HP.out.keep hB5)
        rw [hw5]
        obtain ⟨A0, A1, A2, A3⟩ := own4 HA5.out
        obtain ⟨Bn, hBn⟩ : ∃ Bn, wr.heap.size + 1 = Bn := ⟨_, rfl⟩
        rw [hBn] at HN5 ⊢
        obtain ⟨N0, N1, N2, M0, M1, M2⟩ := own6 HN5.out
        clear hw5 hB5 a0 a1 a2 a3 y0 y1 y2 z0 z1 z2 X0 X1 X2 U0 U1 U2 HY HR HP
        obtain ⟨y0, y1, y2, z0, z1, z2⟩ := own6 HY5.out
        have ht1 : -8 < x.k.tmod 8 := Int.lt_tmod_of_pos x.k (by decide)
        have ht2 : x.k.tmod 8 < 8 := Int.tmod_lt_of_pos x.k (by decide)
        have hK0 : 0 ≤ x.k.tmod 8 % 8 := by omega
        have hK8 : x.k.tmod 8 % 8 < 8 := by omega
        obtain ⟨K, hK⟩ : ∃ K, x.k.tmod 8 % 8 = K := ⟨_, rfl⟩
        rw [hK] at hK0 hK8
        rcases (show K = 0 ∨ K = 1 ∨ K = 2 ∨ K = 3 ∨ K = 4 ∨ 5 ≤ K from by omega) with rfl | rfl | rfl | rfl | rfl | h5
        · have ht3 : -9 < x.sz.tmod 9 := Int.lt_tmod_of_pos x.sz (by decide)
          have ht4 : x.sz.tmod 9 < 9 := Int.tmod_lt_of_pos x.sz (by decide)
          obtain ⟨C, hC⟩ : ∃ C, x.sz.tmod 9 % 9 = C := ⟨_, rfl⟩
          have hC0 : 0 ≤ C := by omega
          obtain ⟨E, hE⟩ : ∃ E, Hid (openE l C true = E) := ⟨_, Lib.hid rfl⟩
          obtain ⟨L', hL⟩ : ∃ L', Hid (openL l C true = L') := ⟨_, Lib.hid rfl⟩
          have hc := Lib.hid (fun w h => enter_fr pa na ca pb nb cb pc nc cc l C w h)
          rw [hE.out, hL.out] at hc
          have HNew := Lib.hid (fun (h0 : E = 0) => (show Pl L' rs ∧ L'.is = l.is from by rw [← hL.out]; have h1 := hE.out.trans h0; exact ⟨pl_open HPl.out h1, is_open h1⟩))
          go_wp2_with fail
          refine (hc.out _ HR5.out).mono ?_
          rintro e v ⟨⟨ra, ka, ea, rb, kb, eb, rc, kc, ec, rfl, hrow⟩, hb⟩
          have hsv := hb.size
          have HYv := Lib.hid (HY5.out.keep hb (by first | omega | (simp; omega) | (simp; done)))
          have HNv := Lib.hid (HN5.out.keep hb (by first | omega | (simp; omega) | (simp; done)))
          have HRv := Lib.hid (HR5.out.keep hb)
          have HPv := Lib.hid (HP5.out.keep hb)
          obtain ⟨n0, n1, n2, m0, m1, m2⟩ := own6 HNv.out
          have HYw := Lib.hid (set3_other (B := Bn) (x := .slice ra ka ea) (y := .slice rb kb eb) (z := .slice rc kc ec) HYv.out (by first | omega | (simp; omega) | (simp; done)))
          have HNw := Lib.hid (set3_own (x := .slice ra ka ea) (y := .slice rb kb eb) (z := .slice rc kc ec) HNv.out)
          have HPw := Lib.hid (HPv.out.set3 (B := Bn) (.slice ra ka ea) (.slice rb kb eb) (.slice rc kc ec) (.inr ⟨by omega, by omega⟩))
          clear hb y0 y1 y2 z0 z1 z2 N0 N1 N2 M0 M1 M2 A0 A1 A2 A3
          by_cases hE0 : E = 0
          · have hE1 : (E == 0) = true := beq_iff_eq.2 hE0
            obtain ⟨hnp, hni⟩ := HNew.out hE0
            have HPl2 := Lib.hid hnp
            have HPx := Lib.hid ((HPw.out.loc hni).set3 (B := w.heap.size + 1) (.slice ra ka ea) (.slice rb kb eb) (.slice rc kc ec) (.inl rfl))
            have HRx := Lib.hid ((hrow.r.set3 HNv.out (.slice ra ka ea) (.slice rb kb eb) (.slice rc kc ec)).set3 HYw.out (.slice ra ka ea) (.slice rb kb eb) (.slice rc kc ec))
            have HAI2 := Lib.hid (hrow.apt (v := .slice qi ni ci) (fun g e => by have := HP5.out.hI g e; omega))
            have HAR2 := Lib.hid (hrow.apt (v := .slice qr nr cr) (fun g e => by have := HP5.out.hR g e; omega))
            have HYx := Lib.hid (set3_own (x := .slice ra ka ea) (y := .slice rb kb eb) (z := .slice rc kc ec) HYw.out)
            have hvl := Lib.hid (fun w h => scValid_any ra ka ea rb kb eb rc kc ec L' w h)
            rw [HPl2.out.ok] at hvl
            obtain ⟨y0, y1, y2, z0, z1, z2⟩ := own6 HYw.out
            obtain ⟨w0, w01, w02, w03, w04, w05⟩ := own6 HNw.out
            obtain ⟨x0, x01, x02, x03, x04, x05⟩ := own6 HYx.out
            clear hrow hnp hni
            go_wp2_with fail
            refine (hvl.out _ HRx.out).mono ?_
            rintro e v2 ⟨rfl, hb⟩
            have hsv2 := hb.size
            simp only [set3_size] at hsv2
            go_wp2
            go_roundw
            case rel => exact ⟨k + 1, L', rs, ra, ka, ea, rb, kb, eb, rc, kc, ec, qi, ni, ci, qr, nr, cr, by omega, by go_num, rfl, rfl, HPl2.out, HYx.out.keep hb (by simp only [set3_size]; omega), HRx.out.keep hb, (HPx.out.keep hb).up (by omega), by omega, HAI2.out, HAR2.out⟩
            case measure => simp [intOf]; omega
          · have hE1 : (E == 0) = false := beq_eq_false_iff_ne.2 hE0
            have HRw := Lib.hid (HRv.out.set3 HNv.out (.slice ra ka ea) (.slice rb kb eb) (.slice rc kc ec))
            have hvl := Lib.hid (fun w h => scValid_any pa na ca pb nb cb pc nc cc l w h)
            rw [HPl.out.ok] at hvl
            obtain ⟨y0, y1, y2, z0, z1, z2⟩ := own6 HYw.out
            clear hrow
            go_wp2_with fail
            refine (hvl.out _ HRw.out).mono ?_
            rintro e v2 ⟨rfl, hb⟩
            have hsv2 := hb.size
            simp only [set3_size] at hsv2
            go_wp2
            go_roundw
            case rel => exact ⟨k + 1, l, rs, pa, na, ca, pb, nb, cb, pc, nc, cc, qi, ni, ci, qr, nr, cr, by omega, by go_num, rfl, rfl, HPl.out, HYw.out.keep hb (by simp only [set3_size]; omega), HRw.out.keep hb, (HPw.out.keep hb).up (by omega), by omega, HAI.out, HAR.out⟩
            case measure => simp [intOf]; omega
        · have ht3 : -9 < x.sz.tmod 9 := Int.lt_tmod_of_pos x.sz (by decide)
          have ht4 : x.sz.tmod 9 < 9 := Int.tmod_lt_of_pos x.sz (by decide)
          obtain ⟨C, hC⟩ : ∃ C, x.sz.tmod 9 % 9 = C := ⟨_, rfl⟩
          have hC0 : 0 ≤ C := by omega
          obtain ⟨E, hE⟩ : ∃ E, Hid (openE l C false = E) := ⟨_, Lib.hid rfl⟩
          obtain ⟨L', hL⟩ : ∃ L', Hid (openL l C false = L') := ⟨_, Lib.hid rfl⟩
          have hc := Lib.hid (fun w h => push_fr pa na ca pb nb cb pc nc cc l C w h)
          rw [hE.out, hL.out] at hc
          have HNew := Lib.hid (fun (h0 : E = 0) => (show Pl L' rs ∧ L'.is = l.is from by rw [← hL.out]; have h1 := hE.out.trans h0; exact ⟨pl_open HPl.out h1, is_open h1⟩))
          go_wp2_with fail
          refine (hc.out _ HR5.out).mono ?_
          rintro e v ⟨⟨ra, ka, ea, rb, kb, eb, rc, kc, ec, rfl, hrow⟩, hb⟩
          have hsv := hb.size
          have HYv := Lib.hid (HY5.out.keep hb (by first | omega | (simp; omega) | (simp; done)))
          have HNv := Lib.hid (HN5.out.keep hb (by first | omega | (simp; omega) | (simp; done)))
          have HRv := Lib.hid (HR5.out.keep hb)
          have HPv := Lib.hid (HP5.out.keep hb)
          obtain ⟨n0, n1, n2, m0, m1, m2⟩ := own6 HNv.out
          have HYw := Lib.hid (set3_other (B := Bn) (x := .slice ra ka ea) (y := .slice rb kb eb) (z := .slice rc kc ec) HYv.out (by first | omega | (simp; omega) | (simp; done)))
          have HNw := Lib.hid (set3_own (x := .slice ra ka ea) (y := .slice rb kb eb) (z := .slice rc kc ec) HNv.out)
          have HPw := Lib.hid (HPv.out.set3 (B := Bn) (.slice ra ka ea) (.slice rb kb eb) (.slice rc kc ec) (.inr ⟨by omega, by omega⟩))
          clear hb y0 y1 y2 z0 z1 z2 N0 N1 N2 M0 M1 M2 A0 A1 A2 A3
          by_cases hE0 : E = 0
          · have hE1 : (E == 0) = true := beq_iff_eq.2 hE0
            obtain ⟨hnp, hni⟩ := HNew.out hE0
            have HPl2 := Lib.hid hnp
            have HPx := Lib.hid ((HPw.out.loc hni).set3 (B := w.heap.size + 1) (.slice ra ka ea) (.slice rb kb eb) (.slice rc kc ec) (.inl rfl))
            have HRx := Lib.hid ((hrow.r.set3 HNv.out (.slice ra ka ea) (.slice rb kb eb) (.slice rc kc ec)).set3 HYw.out (.slice ra ka ea) (.slice rb kb eb) (.slice rc kc ec))
            have HAI2 := Lib.hid (hrow.apt (v := .slice qi ni ci) (fun g e => by have := HP5.out.hI g e; omega))
            have HAR2 := Lib.hid (hrow.apt (v := .slice qr nr cr) (fun g e => by have := HP5.out.hR g e; omega))
            have HYx := Lib.hid (set3_own (x := .slice ra ka ea) (y := .slice rb kb eb) (z := .slice rc kc ec) HYw.out)
            have hvl := Lib.hid (fun w h => scValid_any ra ka ea rb kb eb rc kc ec L' w h)
            rw [HPl2.out.ok] at hvl
            obtain ⟨y0, y1, y2, z0, z1, z2⟩ := own6 HYw.out
            obtain ⟨w0, w01, w02, w03, w04, w05⟩ := own6 HNw.out
            obtain ⟨x0, x01, x02, x03, x04, x05⟩ := own6 HYx.out
            clear hrow hnp hni
            go_wp2_with fail
            refine (hvl.out _ HRx.out).mono ?_
            rintro e v2 ⟨rfl, hb⟩
            have hsv2 := hb.size
            simp only [set3_size] at hsv2
            go_wp2
            go_roundw
            case rel => exact ⟨k + 1, L', rs, ra, ka, ea, rb, kb, eb, rc, kc, ec, qi, ni, ci, qr, nr, cr, by omega, by go_num, rfl, rfl, HPl2.out, HYx.out.keep hb (by simp only [set3_size]; omega), HRx.out.keep hb, (HPx.out.keep hb).up (by omega), by omega, HAI2.out, HAR2.out⟩
            case measure => simp [intOf]; omega
          · have hE1 : (E == 0) = false := beq_eq_false_iff_ne.2 hE0
            have HRw := Lib.hid (HRv.out.set3 HNv.out (.slice ra ka ea) (.slice rb kb eb) (.slice rc kc ec))
            have hvl := Lib.hid (fun w h => scValid_any pa na ca pb nb cb pc nc cc l w h)
            rw [HPl.out.ok] at hvl
            obtain ⟨y0, y1, y2, z0, z1, z2⟩ := own6 HYw.out
            clear hrow
            go_wp2_with fail
            refine (hvl.out _ HRw.out).mono ?_
            rintro e v2 ⟨rfl, hb⟩
            have hsv2 := hb.size
            simp only [set3_size] at hsv2
            go_wp2
            go_roundw
            case rel => exact ⟨k + 1, l, rs, pa, na, ca, pb, nb, cb, pc, nc, cc, qi, ni, ci, qr, nr, cr, by omega, by go_num, rfl, rfl, HPl.out, HYw.out.keep hb (by simp only [set3_size]; omega), HRw.out.keep hb, (HPw.out.keep hb).up (by omega), by omega, HAI.out, HAR.out⟩
            case measure => simp [intOf]; omega
        · obtain ⟨E, hE⟩ : ∃ E, Hid (popE l = E) := ⟨_, Lib.hid rfl⟩
          obtain ⟨L', hL⟩ : ∃ L', Hid (popL l = L') := ⟨_, Lib.hid rfl⟩
          have hc := Lib.hid (fun w h => scPop_fr pa na ca pb nb cb pc nc cc l w h)
          rw [hE.out, hL.out] at hc
          have HNew := Lib.hid (fun (h0 : E = 0) => (show Pl L' rs ∧ L'.is = l.is from by rw [← hL.out]; have h1 := hE.out.trans h0; exact ⟨pl_pop HPl.out h1, is_pop HPl.out.ok h1⟩))
          go_wp2_with fail
          refine (hc.out _ HR5.out).mono ?_
          rintro e v ⟨⟨ra, ka, ea, rb, kb, eb, rc, kc, ec, rfl, hrow⟩, hb⟩
          have hsv := hb.size
          have HYv := Lib.hid (HY5.out.keep hb (by first | omega | (simp; omega) | (simp; done)))
          have HNv := Lib.hid (HN5.out.keep hb (by first | omega | (simp; omega) | (simp; done)))
          have HRv := Lib.hid (HR5.out.keep hb)
          have HPv := Lib.hid (HP5.out.keep hb)
          obtain ⟨n0, n1, n2, m0, m1, m2⟩ := own6 HNv.out
          have HYw := Lib.hid (set3_other (B := Bn) (x := .slice ra ka ea) (y := .slice rb kb eb) (z := .slice rc kc ec) HYv.out (by first | omega | (simp; omega) | (simp; done)))
          have HNw := Lib.hid (set3_own (x := .slice ra ka ea) (y := .slice rb kb eb) (z := .slice rc kc ec) HNv.out)
          have HPw := Lib.hid (HPv.out.set3 (B := Bn) (.slice ra ka ea) (.slice rb kb eb) (.slice rc kc ec) (.inr ⟨by omega, by omega⟩))
          clear hb y0 y1 y2 z0 z1 z2 N0 N1 N2 M0 M1 M2 A0 A1 A2 A3
          by_cases hE0 : E = 0
          · have hE1 : (E == 0) = true := beq_iff_eq.2 hE0
            obtain ⟨hnp, hni⟩ := HNew.out hE0
            have HPl2 := Lib.hid hnp
            have HPx := Lib.hid ((HPw.out.loc hni).set3 (B := w.heap.size + 1) (.slice ra ka ea) (.slice rb kb eb) (.slice rc kc ec) (.inl rfl))
            have HRx := Lib.hid ((hrow.r.set3 HNv.out (.slice ra ka ea) (.slice rb kb eb) (.slice rc kc ec)).set3 HYw.out (.slice ra ka ea) (.slice rb kb eb) (.slice rc kc ec))
            have HAI2 := Lib.hid (hrow.apt (v := .slice qi ni ci) (fun g e => by have := HP5.out.hI g e; omega))
            have HAR2 := Lib.hid (hrow.apt (v := .slice qr nr cr) (fun g e => by have := HP5.out.hR g e; omega))
            have HYx := Lib.hid (set3_own (x := .slice ra ka ea) (y := .slice rb kb eb) (z := .slice rc kc ec) HYw.out)
            have hvl := Lib.hid (fun w h => scValid_any ra ka ea rb kb eb rc kc ec L' w h)
            rw [HPl2.out.ok] at hvl
            obtain ⟨y0, y1, y2, z0, z1, z2⟩ := own6 HYw.out
            obtain ⟨w0, w01, w02, w03, w04, w05⟩ := own6 HNw.out
            obtain ⟨x0, x01, x02, x03, x04, x05⟩ := own6 HYx.out
            clear hrow hnp hni
            go_wp2_with fail
            refine (hvl.out _ HRx.out).mono ?_
            rintro e v2 ⟨rfl, hb⟩
            have hsv2 := hb.size
            simp only [set3_size] at hsv2
            go_wp2
            go_roundw
            case rel => exact ⟨k + 1, L', rs, ra, ka, ea, rb, kb, eb, rc, kc, ec, qi, ni, ci, qr, nr, cr, by omega, by go_num, rfl, rfl, HPl2.out, HYx.out.keep hb (by simp only [set3_size]; omega), HRx.out.keep hb, (HPx.out.keep hb).up (by omega), by omega, HAI2.out, HAR2.out⟩
            case measure => simp [intOf]; omega
          · have hE1 : (E == 0) = false := beq_eq_false_iff_ne.2 hE0
            have HRw := Lib.hid (HRv.out.set3 HNv.out (.slice ra ka ea) (.slice rb kb eb) (.slice rc kc ec))
            have hvl := Lib.hid (fun w h => scValid_any pa na ca pb nb cb pc nc cc l w h)
            rw [HPl.out.ok] at hvl
            obtain ⟨y0, y1, y2, z0, z1, z2⟩ := own6 HYw.out
            clear hrow
            go_wp2_with fail
            refine (hvl.out _ HRw.out).mono ?_
            rintro e v2 ⟨rfl, hb⟩
            have hsv2 := hb.size
            simp only [set3_size] at hsv2
            go_wp2
            go_roundw
            case rel => exact ⟨k + 1, l, rs, pa, na, ca, pb, nb, cb, pc, nc, cc, qi, ni, ci, qr, nr, cr, by omega, by go_num, rfl, rfl, HPl.out, HYw.out.keep hb (by simp only [set3_size]; omega), HRw.out.keep hb, (HPw.out.keep hb).up (by omega), by omega, HAI.out, HAR.out⟩
            case measure => simp [intOf]; omega
        · obtain ⟨E, hE⟩ : ∃ E, Hid (leaveE l = E) := ⟨_, Lib.hid rfl⟩
          obtain ⟨L', hL⟩ : ∃ L', Hid (leaveL l = L') := ⟨_, Lib.hid rfl⟩
          have hc := Lib.hid (fun w h => scLeave_fr pa na ca pb nb cb pc nc cc l w h)
          rw [hE.out, hL.out] at hc
          have HNew := Lib.hid (fun (h0 : E = 0) => (show Pl L' rs ∧ L'.is = l.is from by rw [← hL.out]; have h1 := hE.out.trans h0; exact ⟨pl_leave HPl.out h1, is_leave HPl.out.ok h1⟩))
          go_wp2_with fail
          refine (hc.out _ HR5.out).mono ?_
          rintro e v ⟨⟨ra, ka, ea, rb, kb, eb, rc, kc, ec, rfl, hrow⟩, hb⟩
          have hsv := hb.size
          have HYv := Lib.hid (HY5.out.keep hb (by first | omega | (simp; omega) | (simp; done)))
          have HNv := Lib.hid (HN5.out.keep hb (by first | omega | (simp; omega) | (simp; done)))
          have HRv := Lib.hid (HR5.out.keep hb)
          have HPv := Lib.hid (HP5.out.keep hb)
          obtain ⟨n0, n1, n2, m0, m1, m2⟩ := own6 HNv.out
          have HYw := Lib.hid (set3_other (B := Bn) (x := .slice ra ka ea) (y := .slice rb kb eb) (z := .slice rc kc ec) HYv.out (by first | omega | (simp; omega) | (simp; done)))
          have HNw := Lib.hid (set3_own (x := .slice ra ka ea) (y := .slice rb kb eb) (z := .slice rc kc ec) HNv.out)
          have HPw := Lib.hid (HPv.out.set3 (B := Bn) (.slice ra ka ea) (.slice rb kb eb) (.slice rc kc ec) (.inr ⟨by omega, by omega⟩))
          clear hb y0 y1 y2 z0 z1 z2 N0 N1 N2 M0 M1 M2 A0 A1 A2 A3
          by_cases hE0 : E = 0
          · have hE1 : (E == 0) = true := beq_iff_eq.2 hE0
            obtain ⟨hnp, hni⟩ := HNew.out hE0
            have HPl2 := Lib.hid hnp
            have HPx := Lib.hid ((HPw.out.loc hni).set3 (B := w.heap.size + 1) (.slice ra ka ea) (.slice rb kb eb) (.slice rc kc ec) (.inl rfl))
            have HRx := Lib.hid ((hrow.r.set3 HNv.out (.slice ra ka ea) (.slice rb kb eb) (.slice rc kc ec)).set3 HYw.out (.slice ra ka ea) (.slice rb kb eb) (.slice rc kc ec))
            have HAI2 := Lib.hid (hrow.apt (v := .slice qi ni ci) (fun g e => by have := HP5.out.hI g e; omega))
            have HAR2 := Lib.hid (hrow.apt (v := .slice qr nr cr) (fun g e => by have := HP5.out.hR g e; omega))
            have HYx := Lib.hid (set3_own (x := .slice ra ka ea) (y := .slice rb kb eb) (z := .slice rc kc ec) HYw.out)
            have hvl := Lib.hid (fun w h => scValid_any ra ka ea rb kb eb rc kc ec L' w h)
            rw [HPl2.out.ok] at hvl
            obtain ⟨y0, y1, y2, z0, z1, z2⟩ := own6 HYw.out
            obtain ⟨w0, w01, w02, w03, w04, w05⟩ := own6 HNw.out
            obtain ⟨x0, x01, x02, x03, x04, x05⟩ := own6 HYx.out
            clear hrow hnp hni
            go_wp2_with fail
            refine (hvl.out _ HRx.out).mono ?_
            rintro e v2 ⟨rfl, hb⟩
            have hsv2 := hb.size
            simp only [set3_size] at hsv2
            go_wp2
            go_roundw
            case rel => exact ⟨k + 1, L', rs, ra, ka, ea, rb, kb, eb, rc, kc, ec, qi, ni, ci, qr, nr, cr, by omega, by go_num, rfl, rfl, HPl2.out, HYx.out.keep hb (by simp only [set3_size]; omega), HRx.out.keep hb, (HPx.out.keep hb).up (by omega), by omega, HAI2.out, HAR2.out⟩
            case measure => simp [intOf]; omega
          · have hE1 : (E == 0) = false := beq_eq_false_iff_ne.2 hE0
            have HRw := Lib.hid (HRv.out.set3 HNv.out (.slice ra ka ea) (.slice rb kb eb) (.slice rc kc ec))
            have hvl := Lib.hid (fun w h => scValid_any pa na ca pb nb cb pc nc cc l w h)
            rw [HPl.out.ok] at hvl
            obtain ⟨y0, y1, y2, z0, z1, z2⟩ := own6 HYw.out
            clear hrow
            go_wp2_with fail
            refine (hvl.out _ HRw.out).mono ?_
            rintro e v2 ⟨rfl, hb⟩
            have hsv2 := hb.size
            simp only [set3_size] at hsv2
            go_wp2
            go_roundw
            case rel => exact ⟨k + 1, l, rs, pa, na, ca, pb, nb, cb, pc, nc, cc, qi, ni, ci, qr, nr, cr, by omega, by go_num, rfl, rfl, HPl.out, HYw.out.keep hb (by simp only [set3_size]; omega), HRw.out.keep hb, (HPw.out.keep hb).up (by omega), by omega, HAI.out, HAR.out⟩
            case measure => simp [intOf]; omega
        · by_cases h0 : ni = 0
          · obtain rfl : ni = 0 := h0
            have HPx := Lib.hid (HP5.out.set3 (B := w.heap.size + 1) (.slice pa na ca) (.slice pb nb cb) (.slice pc nc cc) (.inl rfl))
            have HRx := Lib.hid (HR5.out.set3 HY5.out (.slice pa na ca) (.slice pb nb cb) (.slice pc nc cc))
            have HYx := Lib.hid (set3_own (x := .slice pa na ca) (y := .slice pb nb cb) (z := .slice pc nc cc) HY5.out)
            have hvl := Lib.hid (fun w h => scValid_any pa na ca pb nb cb pc nc cc l w h)
            rw [HPl.out.ok] at hvl
            obtain ⟨x0, x01, x02, x03, x04, x05⟩ := own6 HYx.out
            go_wp2_with fail
            refine (hvl.out _ HRx.out).mono ?_
            rintro e v2 ⟨rfl, hb⟩
            have hsv2 := hb.size
            simp only [set3_size] at hsv2
            go_wp2
            go_roundw
            case rel => exact ⟨k + 1, l, rs, pa, na, ca, pb, nb, cb, pc, nc, cc, qi, 0, ci, qr, nr, cr, by omega, by go_num, rfl, rfl, HPl.out, HYx.out.keep hb (by simp only [set3_size]; omega), HRx.out.keep hb, (HPx.out.keep hb).up (by omega), by omega, HAI.out, HAR.out⟩
            case measure => simp [intOf]; omega
          · have hni : l.is.length = ni := by
              have h1 := HP5.out.I.1
              rw [flat_len _ 2 prC_len, pairs_len] at h1
              omega
            have hni2 : ni ≤ 4096 := by have := pl_is HPl.out; omega
            have hni3 : (0 : Int) < ni := by omega
            have hni4 : (ni : Int) ≤ 4096 := by omega
            have ht5 : -(ni : Int) < x.wh.tmod ni := Int.lt_tmod_of_pos x.wh hni3
            have ht6 : x.wh.tmod ni < ni := Int.tmod_lt_of_pos x.wh hni3
            have hJ0 : 0 ≤ x.wh.tmod ni % ni := Int.emod_nonneg _ (by omega)
            have hJ1 : x.wh.tmod ni % ni < ni := Int.emod_lt_of_pos _ hni3
            have hne : ((ni : Int) == 0) = false := beq_eq_false_iff_ne.2 (by omega)
            have hJ5 : (x.wh.tmod ni + ni).tmod ni = x.wh.tmod ni % ni := by rw [Int.tmod_eq_emod_of_nonneg (by omega), Int.add_emod_right]
            obtain ⟨J, hJ⟩ : ∃ J : Nat, x.wh.tmod ni % ni = J := ⟨(x.wh.tmod ni % ni).toNat, by omega⟩
            rw [hJ] at hJ5 hJ0 hJ1
            have hJ2 : J < ni := by omega
            obtain ⟨pr, pb', po', hpx, rfl, p0, p1⟩ := pair_at (own_vrow HP5.out.I) hJ2
            clear hpx
            go_upto_region 26 with fail
            obtain ⟨w6, hw6⟩ : ∃ w6, w5.alloc (.cells #[.int .i64 pr.1, .int .i64 pr.2] 42) = w6 := ⟨_, rfl⟩
            have hH := OwnL.new w5 [.int .i64 pr.1, .int .i64 pr.2] 42
            have hb6 := below_box (w := w5) (o := .cells #[.int .i64 pr.1, .int .i64 pr.2] 42)
            rw [hw6] at hb6 ⊢
            replace hH : OwnL w6 w5.heap.size [.int .i64 pr.1, .int .i64 pr.2] := by rw [← hw6]; exact hH
            have hs6 := hb6.size
            replace HY5 := Lib.hid (HY5.out.keep hb6 (by omega))
            replace HN5 := Lib.hid (HN5.out.keep hb6 (by omega))
            replace HA5 := Lib.hid (HA5.out.keep hb6 (by omega))
            replace HR5 := Lib.hid (HR5.out.keep hb6)
            replace HP5 := Lib.hid (HP5.out.keep hb6)
            have g0 := hH.cell 0 _ rfl
            have g1 := hH.cell 1 _ rfl
            clear hw6 hH hb6 p0 p1 y0 y1 y2 z0 z1 z2 N0 N1 N2 M0 M1 M2 A0 A1 A2 A3
            obtain ⟨y0, y1, y2, z0, z1, z2⟩ := own6 HY5.out
            obtain ⟨N0, N1, N2, M0, M1, M2⟩ := own6 HN5.out
            obtain ⟨A0, A1, A2, A3⟩ := own4 HA5.out
            obtain ⟨E, hE⟩ : ∃ E, Hid (findV l pr.1 pr.2 = E) := ⟨_, Lib.hid rfl⟩
            obtain ⟨L', hL⟩ : ∃ L', Hid (delL l pr.1 pr.2 = L') := ⟨_, Lib.hid rfl⟩
            have hc := Lib.hid (fun w h => scDelete_fr pa na ca pb nb cb pc nc cc l pr.1 pr.2 w h)
            rw [hE.out, hL.out] at hc
            have HNew := Lib.hid (fun (h0 : E = 0) => (show Pl L' rs ∧ L'.is = l.is from by rw [← hL.out]; have h1 := hE.out.trans h0; exact ⟨pl_del HPl.out h1, is_del h1⟩))
            go_wp2_with fail
            refine (hc.out _ HR5.out).mono ?_
            rintro e v ⟨⟨ra, ka, ea, rb, kb, eb, rc, kc, ec, rfl, hrow⟩, hb⟩
            have hsv := hb.size
            have HYv := Lib.hid (HY5.out.keep hb (by first | omega | (simp; omega) | (simp; done)))
            have HNv := Lib.hid (HN5.out.keep hb (by first | omega | (simp; omega) | (simp; done)))
            have HRv := Lib.hid (HR5.out.keep hb)
            have HPv := Lib.hid (HP5.out.keep hb)
            obtain ⟨n0, n1, n2, m0, m1, m2⟩ := own6 HNv.out
            have HYw := Lib.hid (set3_other (B := Bn) (x := .slice ra ka ea) (y := .slice rb kb eb) (z := .slice rc kc ec) HYv.out (by first | omega | (simp; omega) | (simp; done)))
            have HNw := Lib.hid (set3_own (x := .slice ra ka ea) (y := .slice rb kb eb) (z := .slice rc kc ec) HNv.out)
            have HPw := Lib.hid (HPv.out.set3 (B := Bn) (.slice ra ka ea) (.slice rb kb eb) (.slice rc kc ec) (.inr ⟨by omega, by omega⟩))
            clear hb y0 y1 y2 z0 z1 z2 N0 N1 N2 M0 M1 M2 A0 A1 A2 A3
            by_cases hE0 : E = 0
            · have hE1 : (E == 0) = true := beq_iff_eq.2 hE0
              obtain ⟨hnp, hni⟩ := HNew.out hE0
              have HPl2 := Lib.hid hnp
              have HPx := Lib.hid ((HPw.out.loc hni).set3 (B := w.heap.size + 1) (.slice ra ka ea) (.slice rb kb eb) (.slice rc kc ec) (.inl rfl))
              have HRx := Lib.hid ((hrow.r.set3 HNv.out (.slice ra ka ea) (.slice rb kb eb) (.slice rc kc ec)).set3 HYw.out (.slice ra ka ea) (.slice rb kb eb) (.slice rc kc ec))
              have HAI2 := Lib.hid (hrow.apt (v := .slice (some ⟨pb', po', none⟩) ni ci) (fun g e => by have := HP5.out.hI g e; omega))
              have HAR2 := Lib.hid (hrow.apt (v := .slice qr nr cr) (fun g e => by have := HP5.out.hR g e; omega))
              have HYx := Lib.hid (set3_own (x := .slice ra ka ea) (y := .slice rb kb eb) (z := .slice rc kc ec) HYw.out)
              have hvl := Lib.hid (fun w h => scValid_any ra ka ea rb kb eb rc kc ec L' w h)
              rw [HPl2.out.ok] at hvl
              obtain ⟨y0, y1, y2, z0, z1, z2⟩ := own6 HYw.out
              obtain ⟨w0, w01, w02, w03, w04, w05⟩ := own6 HNw.out
              obtain ⟨x0, x01, x02, x03, x04, x05⟩ := own6 HYx.out
              clear hrow hnp hni
              go_wp2_with fail
              refine (hvl.out _ HRx.out).mono ?_
              rintro e v2 ⟨rfl, hb⟩
              have hsv2 := hb.size
              simp only [set3_size] at hsv2
              go_wp2
              go_roundw
              case rel => exact ⟨k + 1, L', rs, ra, ka, ea, rb, kb, eb, rc, kc, ec, (some ⟨pb', po', none⟩), ni, ci, qr, nr, cr, by omega, by go_num, rfl, rfl, HPl2.out, HYx.out.keep hb (by simp only [set3_size]; omega), HRx.out.keep hb, (HPx.out.keep hb).up (by omega), by omega, HAI2.out, HAR2.out⟩
              case measure => simp [intOf]; omega
            · have hE1 : (E == 0) = false := beq_eq_false_iff_ne.2 hE0
              have HRw := Lib.hid (HRv.out.set3 HNv.out (.slice ra ka ea) (.slice rb kb eb) (.slice rc kc ec))
              have hvl := Lib.hid (fun w h => scValid_any pa na ca pb nb cb pc nc cc l w h)
              rw [HPl.out.ok] at hvl
              obtain ⟨y0, y1, y2, z0, z1, z2⟩ := own6 HYw.out
              clear hrow
              go_wp2_with fail
              refine (hvl.out _ HRw.out).mono ?_
              rintro e v2 ⟨rfl, hb⟩
              have hsv2 := hb.size
              simp only [set3_size] at hsv2
              go_wp2
              go_roundw
              case rel => exact ⟨k + 1, l, rs, pa, na, ca, pb, nb, cb, pc, nc, cc, (some ⟨pb', po', none⟩), ni, ci, qr, nr, cr, by omega, by go_num, rfl, rfl, HPl.out, HYw.out.keep hb (by simp only [set3_size]; omega), HRw.out.keep hb, (HPw.out.keep hb).up (by omega), by omega, HAI.out, HAR.out⟩
              case measure => simp [intOf]; omega
        · have q0 : (K == 0) = false := beq_eq_false_iff_ne.2 (by omega)
          have q1 : (K == 1) = false := beq_eq_false_iff_ne.2 (by omega)
          have q2 : (K == 2) = false := beq_eq_false_iff_ne.2 (by omega)
          have q3 : (K == 3) = false := beq_eq_false_iff_ne.2 (by omega)
          have q4 : (K == 4) = false := beq_eq_false_iff_ne.2 (by omega)
          obtain ⟨iI, hinI, hI0, hI1, hI2⟩ := info_parts infoPr
          obtain ⟨iR, hinR, hR0, hR1, hR2⟩ := info_parts infoU64
          have hni : l.is.length = ni := by
            have h1 := HP5.out.I.1
            rw [flat_len _ 2 prC_len, pairs_len] at h1
            omega
          have hnr : rs.length = nr := by
            have h1 := HP5.out.R.1
            rw [ivals_len] at h1
            omega
          have hni2 : ni ≤ 4096 := by have := pl_is HPl.out; omega
          have hnr2 : nr ≤ 4096 := by have := HPl.out.len; omega
          obtain ⟨E, hE⟩ : ∃ E, Hid (roomV l (bits .or .u64 x.rf 1) = E) := ⟨_, Lib.hid rfl⟩
          obtain ⟨L', hL⟩ : ∃ L', Hid (newL l (bits .or .u64 x.rf 1) = L') := ⟨_, Lib.hid rfl⟩
          obtain ⟨I', hI⟩ : ∃ I', Hid (newI l (bits .or .u64 x.rf 1) = I') := ⟨_, Lib.hid rfl⟩
          obtain ⟨S', hS⟩ : ∃ S', Hid (newS l (bits .or .u64 x.rf 1) = S') := ⟨_, Lib.hid rfl⟩
          have hc := Lib.hid (fun w h => scNew_fr pa na ca pb nb cb pc nc cc l (bits .or .u64 x.rf 1) w h)
          rw [hE.out, hL.out, hI.out, hS.out] at hc
          go_wp2_with fail
          refine (hc.out _ HR5.out).mono ?_
          rintro e v ⟨⟨ra, ka, ea, rb, kb, eb, rc, kc, ec, rfl, hrow⟩, hb⟩
          have HAw := Lib.hid (set3_other (B := Bn) (x := .slice ra ka ea) (y := .slice rb kb eb) (z := .slice rc kc ec) (HA5.out.keep hb (by first | omega | (simp; omega) | (simp; done))) (by first | omega | (simp; omega) | (simp; done)))
          have hsv := hb.size
          have HYv := Lib.hid (HY5.out.keep hb (by first | omega | (simp; omega) | (simp; done)))
          have HNv := Lib.hid (HN5.out.keep hb (by first | omega | (simp; omega) | (simp; done)))
          have HRv := Lib.hid (HR5.out.keep hb)
          have HPv := Lib.hid (HP5.out.keep hb)
          obtain ⟨n0, n1, n2, m0, m1, m2⟩ := own6 HNv.out
          have HYw := Lib.hid (set3_other (B := Bn) (x := .slice ra ka ea) (y := .slice rb kb eb) (z := .slice rc kc ec) HYv.out (by first | omega | (simp; omega) | (simp; done)))
          have HNw := Lib.hid (set3_own (x := .slice ra ka ea) (y := .slice rb kb eb) (z := .slice rc kc ec) HNv.out)
          have HPw := Lib.hid (HPv.out.set3 (B := Bn) (.slice ra ka ea) (.slice rb kb eb) (.slice rc kc ec) (.inr ⟨by omega, by omega⟩))
          clear hb y0 y1 y2 z0 z1 z2 N0 N1 N2 M0 M1 M2 A0 A1 A2 A3
          by_cases hE0 : E = 0
          · have hE1 : (E == 0) = true := beq_iff_eq.2 hE0
            have hr0 : roomV l (bits .or .u64 x.rf 1) = 0 := hE.out.trans hE0
            have HPl2 := Lib.hid (show Pl L' (rs ++ [(bits .or .u64 x.rf 1)]) from by rw [← hL.out]; exact pl_new HPl.out hr0)
            have HIs := Lib.hid (show L'.is = l.is ++ [(l.sl.length : Int)] from by rw [← hL.out]; unfold newL; rw [if_pos hr0])
            have HI1 := Lib.hid (show I' = l.sl.length from by rw [← hI.out]; unfold newI; rw [if_pos hr0])
            have HS1 := Lib.hid (show S' = l.is.length + 1 from by rw [← hS.out]; unfold newS; rw [if_pos hr0])
            go_upto_region 13 with fail
            obtain ⟨w7, hw7⟩ : ∃ w7, ((v.setCell ⟨Bn, 0, none⟩ (.slice ra ka ea)).setCell ⟨Bn, 1, none⟩ (.slice rb kb eb)).setCell ⟨Bn, 2, none⟩ (.slice rc kc ec) = w7 := ⟨_, rfl⟩
            have hsw7 : w7.heap.size = v.heap.size := by rw [← hw7]; simp
            have HQ := Lib.hid (show QS w w7 w1.heap.size wr.heap.size Bn qi ni ci qr nr cr ((pairsFrom 0 l.is).flatMap prC) (ivals .u64 rs) [.slice pa na ca, .slice pb nb cb, .slice pc nc cc] [.slice ra ka ea, .slice rb kb eb, .slice rc kc ec] [.int .i64 x.k, .int .i64 x.sz, .int .i64 x.wh, .int .u64 x.rf] ra ka ea rb kb eb rc kc ec L' from by
              have hap : ∀ a, (ra = some a ∨ rb = some a ∨ rc = some a) → a.block < v.heap.size := fun a h => by
                rcases h with h | h | h
                · exact (hrow.fa a h).2
                · exact (hrow.fb a h).2
                · exact (hrow.fc a h).2
              refine ⟨?_, ?_, ?_, HPw.out.IR, ?_, ?_, ?_, ?_, ?_, fun a h => by rw [hsw7]; exact hap a h, hrow.apt (fun g e => by have := HP5.out.hI g e; omega), hrow.apt (fun g e => by have := HP5.out.hR g e; omega), fun g e => by have := HP5.out.hI g e; omega, fun g e => by have := HP5.out.hR g e; omega, hb1, ⟨hws, by omega, by omega⟩⟩
              · rw [← hw7]; exact HPw.out.box
              · rw [← hw7]; exact HPw.out.I
              · rw [← hw7]; exact HPw.out.R
              · rw [← hw7]; exact HPw.out.bel
              · rw [← hw7]; exact HYw.out
              · rw [← hw7]; exact HNw.out
              · rw [← hw7]; exact HAw.out
              · rw [← hw7]; exact hrow.r.set3 HNv.out (.slice ra ka ea) (.slice rb kb eb) (.slice rc kc ec))
            rw [hw7]
            have hs7 : w5.heap.size ≤ w7.heap.size := by omega
            have hltA : wr.heap.size < w7.heap.size := by omega
            clear hw7 hrow n0 n1 n2 m0 m1 m2 hsw7
            obtain ⟨A0, A1, A2, A3⟩ := own4 HQ.out.A
            have H1st := Lib.hid trivial
            go_region_law (first | ((have _ := H1st); refine step_append_vrow (by rfl) (.tmp 49) (.tmp 53) 29 rfl w1.heap.size 42 iI _ 2 16 Try.underlying29 hinI hI0 hI1 hI2 rfl (by decide) (.slice qi ni ci) ni ((pairsFrom 0 l.is).flatMap prC) rfl (by first | exact HQ.out.I | exact own_below HQ.out.I (by first | exact Below.refl _ _ | exact below_box | exact below_box.drew | exact bthen below_box below_box | exact (bthen below_box below_box).drew | exact (Below.refl _ _).drew)) (some ⟨_, 0, none⟩) 1 1 [.int .i64 I', .int .i64 S'] rfl (by first | exact block_vrow (cs := #[.int .i64 I', .int .i64 S']) (heap_alloc_new _ _) rfl | exact block_vrow (cs := #[.int .i64 I', .int .i64 S']) (blk_a _ _ _) rfl | exact block_vrow (cs := #[.int .i64 I', .int .i64 S']) (blk_b _ _ _) rfl) (by simp [Value.oneCell']) (by unfold maxLen; omega) (by omega) (by first | omega | (simp; omega) | (simp; done)) ?_; intro q1 d1 v8 hown hgrow hat; have HQi := Lib.hid ((HQ.out.keep (by first | exact Below.refl _ _ | exact below_box | exact below_box.drew | exact bthen below_box below_box | exact (bthen below_box below_box).drew | exact (Below.refl _ _).drew)).appI hown hgrow hat); have HGi := Lib.hid hgrow; have hs8 : w7.heap.size ≤ v8.heap.size := (by have := hgrow.size; first | omega | (simp at this; omega)); clear H1st hown hgrow hat A0 A1 A2 A3; (obtain ⟨A0, A1, A2, A3⟩ := own4 HQi.out.A)) | ((have _ := H1st); refine step_append_vrow (by rfl) (.tmp 55) (.tmp 59) 23 rfl w1.heap.size 38 iR _ 1 8 Try.underlying23 hinR hR0 hR1 hR2 rfl (by decide) (.slice qr nr cr) nr (ivals .u64 rs) rfl (by first | exact HQ.out.R | exact own_below HQ.out.R (by first | exact Below.refl _ _ | exact below_box | exact below_box.drew | exact bthen below_box below_box | exact (bthen below_box below_box).drew | exact (Below.refl _ _).drew)) (some ⟨_, 0, none⟩) 1 1 [.int .u64 (bits .or .u64 x.rf 1)] rfl (by first | exact block_vrow (cs := #[.int .u64 (bits .or .u64 x.rf 1)]) (heap_alloc_new _ _) rfl | exact block_vrow (cs := #[.int .u64 (bits .or .u64 x.rf 1)]) (blk_a _ _ _) rfl | exact block_vrow (cs := #[.int .u64 (bits .or .u64 x.rf 1)]) (blk_b _ _ _) rfl) (by simp [Value.oneCell']) (by unfold maxLen; omega) (by omega) (by first | omega | (simp; omega) | (simp; done)) ?_; intro q2 d2 v8 hown hgrow hat; have HQr := Lib.hid ((HQ.out.keep (by first | exact Below.refl _ _ | exact below_box | exact below_box.drew | exact bthen below_box below_box | exact (bthen below_box below_box).drew | exact (Below.refl _ _).drew)).appR hown hgrow hat); have HGr := Lib.hid hgrow; have hs8 : w7.heap.size ≤ v8.heap.size := (by have := hgrow.size; first | omega | (simp at this; omega)); clear H1st hown hgrow hat A0 A1 A2 A3; (obtain ⟨A0, A1, A2, A3⟩ := own4 HQr.out.A)) | ((have _ := HGr); refine step_append_vrow (by rfl) (.tmp 49) (.tmp 53) 29 rfl w1.heap.size 42 iI _ 2 16 Try.underlying29 hinI hI0 hI1 hI2 rfl (by decide) (.slice qi ni ci) ni ((pairsFrom 0 l.is).flatMap prC) rfl (by first | exact HQr.out.I | exact own_below HQr.out.I (by first | exact Below.refl _ _ | exact below_box | exact below_box.drew | exact bthen below_box below_box | exact (bthen below_box below_box).drew | exact (Below.refl _ _).drew)) (some ⟨_, 0, none⟩) 1 1 [.int .i64 I', .int .i64 S'] rfl (by first | exact block_vrow (cs := #[.int .i64 I', .int .i64 S']) (heap_alloc_new _ _) rfl | exact block_vrow (cs := #[.int .i64 I', .int .i64 S']) (blk_a _ _ _) rfl | exact block_vrow (cs := #[.int .i64 I', .int .i64 S']) (blk_b _ _ _) rfl | exact block_vrow (cs := #[.int .i64 I', .int .i64 S']) ((HGr.out.block _ (by first | omega | (simp; omega) | (simp; done)) (fun e => by have := (HQ.out.R.lt _ e.symm).2; omega)).trans (heap_alloc_new _ _)) rfl | exact block_vrow (cs := #[.int .i64 I', .int .i64 S']) ((HGr.out.block _ (by first | omega | (simp; omega) | (simp; done)) (fun e => by have := (HQ.out.R.lt _ e.symm).2; omega)).trans (blk_a _ _ _)) rfl | exact block_vrow (cs := #[.int .i64 I', .int .i64 S']) ((HGr.out.block _ (by first | omega | (simp; omega) | (simp; done)) (fun e => by have := (HQ.out.R.lt _ e.symm).2; omega)).trans (blk_b _ _ _)) rfl) (by simp [Value.oneCell']) (by unfold maxLen; omega) (by omega) (by first | omega | (simp; omega) | (simp; done)) ?_; intro q1 d1 v9 hown hgrow hat; have HQe := Lib.hid ((HQr.out.keep (by first | exact Below.refl _ _ | exact below_box | exact below_box.drew | exact bthen below_box below_box | exact (bthen below_box below_box).drew | exact (Below.refl _ _).drew)).appI hown hgrow hat); clear hown hgrow hat) | ((have _ := HGi); refine step_append_vrow (by rfl) (.tmp 55) (.tmp 59) 23 rfl w1.heap.size 38 iR _ 1 8 Try.underlying23 hinR hR0 hR1 hR2 rfl (by decide) (.slice qr nr cr) nr (ivals .u64 rs) rfl (by first | exact HQi.out.R | exact own_below HQi.out.R (by first | exact Below.refl _ _ | exact below_box | exact below_box.drew | exact bthen below_box below_box | exact (bthen below_box below_box).drew | exact (Below.refl _ _).drew)) (some ⟨_, 0, none⟩) 1 1 [.int .u64 (bits .or .u64 x.rf 1)] rfl (by first | exact block_vrow (cs := #[.int .u64 (bits .or .u64 x.rf 1)]) (heap_alloc_new _ _) rfl | exact block_vrow (cs := #[.int .u64 (bits .or .u64 x.rf 1)]) (blk_a _ _ _) rfl | exact block_vrow (cs := #[.int .u64 (bits .or .u64 x.rf 1)]) (blk_b _ _ _) rfl | exact block_vrow (cs := #[.int .u64 (bits .or .u64 x.rf 1)]) ((HGi.out.block _ (by first | omega | (simp; omega) | (simp; done)) (fun e => by have := (HQ.out.I.lt _ e.symm).2; omega)).trans (heap_alloc_new _ _)) rfl | exact block_vrow (cs := #[.int .u64 (bits .or .u64 x.rf 1)]) ((HGi.out.block _ (by first | omega | (simp; omega) | (simp; done)) (fun e => by have := (HQ.out.I.lt _ e.symm).2; omega)).trans (blk_a _ _ _)) rfl | exact block_vrow (cs := #[.int .u64 (bits .or .u64 x.rf 1)]) ((HGi.out.block _ (by first | omega | (simp; omega) | (simp; done)) (fun e => by have := (HQ.out.I.lt _ e.symm).2; omega)).trans (blk_b _ _ _)) rfl) (by simp [Value.oneCell']) (by unfold maxLen; omega) (by omega) (by first | omega | (simp; omega) | (simp; done)) ?_; intro q2 d2 v9 hown hgrow hat; have HQe := Lib.hid ((HQi.out.keep (by first | exact Below.refl _ _ | exact below_box | exact below_box.drew | exact bthen below_box below_box | exact (bthen below_box below_box).drew | exact (Below.refl _ _).drew)).appR hown hgrow hat); clear hown hgrow hat))
            all_goals
              have HPe := Lib.hid ((HQe.out.toPS (l' := L') (rs := rs ++ [(bits .or .u64 x.rf 1)]) (by rw [HIs.out, pairs_snoc, List.flatMap_append, HI1.out, HS1.out]; simp [prC]) (by simp [ivals])).set3 (B := w.heap.size + 1) (.slice ra ka ea) (.slice rb kb eb) (.slice rc kc ec) (.inl rfl))
              have HRx := Lib.hid (HQe.out.L.set3 HQe.out.Y (.slice ra ka ea) (.slice rb kb eb) (.slice rc kc ec))
              have HYx := Lib.hid (set3_own (x := .slice ra ka ea) (y := .slice rb kb eb) (z := .slice rc kc ec) HQe.out.Y)
              have HAI2 := Lib.hid HQe.out.apI
              have HAR2 := Lib.hid HQe.out.apR
              have hvl := Lib.hid (fun w h => scValid_any ra ka ea rb kb eb rc kc ec L' w h)
              rw [HPl2.out.ok] at hvl
              obtain ⟨y0, y1, y2, z0, z1, z2⟩ := own6 HQe.out.Y
              obtain ⟨N0, N1, N2, M0, M1, M2⟩ := own6 HQe.out.N
              obtain ⟨x0, x01, x02, x03, x04, x05⟩ := own6 HYx.out
              have h9 := HQe.out.hbA
              go_wp2_with fail
              refine (hvl.out _ HRx.out).mono ?_
              rintro e v2 ⟨rfl, hb⟩
              have hsv2 := hb.size
              simp only [set3_size] at hsv2
              go_wp2
              go_roundw
              case rel => exact ⟨k + 1, L', rs ++ [(bits .or .u64 x.rf 1)], ra, ka, ea, rb, kb, eb, rc, kc, ec, q1, ni + 1, d1, q2, nr + 1, d2, by omega, by go_num, rfl, rfl, HPl2.out, HYx.out.keep hb (by simp only [set3_size]; omega), HRx.out.keep hb, (HPe.out.keep hb).up hsv2, by omega, HAI2.out, HAR2.out⟩
              case measure => simp [intOf]; omega
          · have hE1 : (E == 0) = false := beq_eq_false_iff_ne.2 hE0
            have HRw := Lib.hid (HRv.out.set3 HNv.out (.slice ra ka ea) (.slice rb kb eb) (.slice rc kc ec))
            have hvl := Lib.hid (fun w h => scValid_any pa na ca pb nb cb pc nc cc l w h)
            rw [HPl.out.ok] at hvl
            obtain ⟨y0, y1, y2, z0, z1, z2⟩ := own6 HYw.out
            clear hrow
            go_wp2_with fail
            refine (hvl.out _ HRw.out).mono ?_
            rintro e v2 ⟨rfl, hb⟩
            have hsv2 := hb.size
            simp only [set3_size] at hsv2
            go_wp2
            go_roundw
            case rel => exact ⟨k + 1, l, rs, pa, na, ca, pb, nb, cb, pc, nc, cc, qi, ni, ci, qr, nr, cr, by omega, by go_num, rfl, rfl, HPl.out, HYw.out.keep hb (by simp only [set3_size]; omega), HRw.out.keep hb, (HPw.out.keep hb).up (by omega), by omega, HAI.out, HAR.out⟩
            case measure => simp [intOf]; omega
      · go_wp2
        obtain ⟨f1, f2, f3, f4⟩ := HP.out.fin HR.out HPl.out (.slice pa na ca) (.slice pb nb cb) (.slice pc nc cc)
        exact bodyPost_ret (v := .tuple #[.agg #[.slice pa na ca, .slice pb nb cb, .slice pc nc cc], .slice qi ni ci, .slice qr nr cr, .bool true]) (by simp [results, Try.results8, go_sem, X0, X1, X2]) rfl ⟨⟨l, rs, pa, na, ca, pb, nb, cb, pc, nc, cc, qi, ni, ci, qr, nr, cr, rfl, HPl.out, f1, f2, f3⟩, f4⟩
    · have hkn2 : ¬ (k : Int) < n := by omega
      go_wp2
      obtain ⟨f1, f2, f3, f4⟩ := HP.out.fin HR.out HPl.out (.slice pa na ca) (.slice pb nb cb) (.slice pc nc cc)
      exact bodyPost_ret (v := .tuple #[.agg #[.slice pa na ca, .slice pb nb cb, .slice pc nc cc], .slice qi ni ci, .slice qr nr cr, .bool true]) (by simp [results, Try.results8, go_sem, X0, X1, X2]) rfl ⟨⟨l, rs, pa, na, ca, pb, nb, cb, pc, nc, cc, qi, ni, ci, qr, nr, cr, rfl, HPl.out, f1, f2, f3⟩, f4⟩
end Go.Proofs.Ytapfbnhcndifhaa
