/- Contract of the reference's Leave of layer 14. -/
import Derived.Test.YtjnpmfkkagchjaaScCk
import Derived.Test.YtjnpmfkkagchjaaScLv
set_option linter.unusedVariables false
set_option linter.unusedSimpArgs false
namespace Go.Proofs.Ytjnpmfkkagchjaa
open Go.RowKit

set_option maxRecDepth 100000 in
set_option maxHeartbeats 3200000 in
theorem refLeave_of (HC : CutOK) (pa : Option Addr) (na ca : Nat) (pb : Option Addr) (nb cb : Nat) (pc : Option Addr) (nc cc : Nat) (l : Loc) (w : World) (hr : LRow w pa na ca pb nb cb pc nc cc l) :
    Calls Try.prog 24 #[.agg #[.slice pa na ca, .slice pb nb cb, .slice pc nc cc]] w fun e w' => RetL (leaveL l) (leaveE l) e w' ∧ Below w.heap.size w w' := by
  have Hl := Lib.hid hr.lens
  obtain ⟨h63a, h63b, h63c⟩ := hr.i63
  have Hr := Lib.hid (fun w' (h : Below w.heap.size w w') => hr.keep h)
  have hv := Lib.hid (fun w h => refVal_any pa na ca pb nb cb pc nc cc l w h)
  clear hr
  cases ho : okB l
  · have E : leaveE l = 1 ∧ leaveL l = loc0 := by unfold leaveE leaveL; rw [ho]; exact ⟨rfl, rfl⟩
    rw [E.1, E.2]
    rw [ho] at hv
    clear E ho
    go_enter Try.func24, Try.ntmps24
    go_wp2_with (((go_at_call 12; refine (hv.out _ (Hr.out _ (bthen below_box below_box))).mono ?_); rintro e w2 ⟨rfl, hb2⟩; (obtain ⟨hX, hY, hB2, hs2⟩ := start2 hb2); have HX := Lib.hid hX; have HY := Lib.hid hY; have HB := Lib.hid hB2; (obtain ⟨x0, x1, x2⟩ := own3c hX); (obtain ⟨y0, y1, y2, z0, z1, z2⟩ := own6 hY); clear hX hY hB2 hb2))
    exact bodyPost_ret (v := .tuple #[.agg #[.slice none 0 0, .slice none 0 0, .slice none 0 0], .int .i64 1]) (by simp [results, Try.results24, go_sem, y0, y1, y2]) rfl ⟨RetL.zero _ _, ((HB.out.setCell (by simp) _).setCell (by simp) _).setCell (by simp) _⟩
  · rw [ho] at hv
    have Ho := Lib.hid ho
    have HSc := Lib.hid (fun w' (h : Below w.heap.size w w') k (hk : k < nb) => scope_at (Hr.out w' h).sc hk)
    obtain ⟨k1, k2, k3⟩ := lens_ok ho
    rw [Hl.out.2.1] at k2
    clear ho k1 k3
    obtain ⟨ME, hME⟩ : ∃ ME, Hid (leaveE l = ME) := ⟨_, rfl⟩
    obtain ⟨ML, hML⟩ : ∃ ML, Hid (leaveL l = ML) := ⟨_, rfl⟩
    rw [hME.out, hML.out]
    go_enter Try.func24, Try.ntmps24
    go_wp2_with (((go_at_call 12; refine (hv.out _ (Hr.out _ (bthen below_box below_box))).mono ?_); rintro e w2 ⟨rfl, hb2⟩; (obtain ⟨hX, hY, hB2, hs2⟩ := start2 hb2); have HX := Lib.hid hX; have HY := Lib.hid hY; have HB := Lib.hid hB2; (obtain ⟨x0, x1, x2⟩ := own3c hX); (obtain ⟨y0, y1, y2, z0, z1, z2⟩ := own6 hY); clear hX hY hB2 hb2))
    go_loop [4] (fun i => ∃ (k : Nat) (i0 : Int), k ≤ nb ∧ i0 = (k : Int) - 1 ∧ findB l.sc k = findB l.sc nb ∧ i = .int .i64 i0) (fun i => (intOf i + 1).toNat)
    case atStart => exact ⟨nb, (nb : Int) - 1, Nat.le_refl _, rfl, rfl, by go_num⟩
    case round =>
      obtain ⟨k, i0, hk, hi, hf, rfl⟩ := hrel
      have Hf := Lib.hid hf
      clear hf
      cases k with
      | zero =>
        have hneg : i0 < 0 := by omega
        have hneg2 : ¬ (0 ≤ i0) := by omega
        have HE := Lib.hid (leave_none Ho.out (by rw [Hl.out.2.1, ← Hf.out]; rfl))
        have HF1 := Lib.hid (hME.out.symm.trans HE.out.1)
        have HF2 := Lib.hid (hML.out.symm.trans HE.out.2)
        go_wp2
        exact bodyPost_ret (v := .tuple #[.agg #[.slice none 0 0, .slice none 0 0, .slice none 0 0], .int .i64 9]) (by simp [results, Try.results24, go_sem, y0, y1, y2]) rfl ⟨by rw [HF1.out, HF2.out]; exact RetL.zero _ _, ((HB.out.setCell (by simp) _).setCell (by simp) _).setCell (by simp) _⟩
      | succ j =>
        obtain rfl : i0 = (j : Int) := by omega
        have hj : j < nb := by omega
        have hj2 : (j : Int) < nb := by omega
        have hj0 : (0 : Int) ≤ j := Int.natCast_nonneg _
        obtain ⟨s, b, off, hs, rfl, c0, c1, c2⟩ := HSc.out w2 HB.out j hj
        have Hs := Lib.hid hs
        clear hs hi c0 c1
        cases hbs : s.bs
        · rw [hbs] at c2
          have Hn := Lib.hid (show findB l.sc j = findB l.sc nb from by rw [← Hf.out, findB, Hs.out]; simp only; rw [hbs, if_neg (by decide)])
          clear hbs
          go_wp2
          go_round
          case rel => exact ⟨j, (j : Int) - 1, by omega, rfl, Hn.out, by go_num⟩
          case measure => first | (simp [intOf]; done) | (simp [intOf]; omega)
        · rw [hbs] at c2
          have HE := Lib.hid (leave_some Ho.out (k := j) (s := s) (by rw [Hl.out.2.1, ← Hf.out, findB, Hs.out]; simp only; rw [hbs, if_pos rfl]))
          have HF1 := Lib.hid (hME.out.symm.trans HE.out.1)
          have HF2 := Lib.hid (hML.out.symm.trans HE.out.2)
          clear hbs
          go_wp2_with (((go_at_call 42; refine (HC pa na ca _ nb cb pc nc cc l j s _ (Hr.out _ HB.out) Ho.out Hs.out).mono ?_); rintro e w3 ⟨⟨ra, ka, ea, rb, kb, eb, rc, kc, ec, rfl, hrow⟩, hb3⟩; have hY3 := HY.out.keep hb3 (by omega); have HR3 := Lib.hid (hrow.set3 hY3 (.slice ra ka ea) (.slice rb kb eb) (.slice rc kc ec)); have HB3 := Lib.hid (set3_below (B := w.heap.size + 1) (x := .slice ra ka ea) (y := .slice rb kb eb) (z := .slice rc kc ec) (bthen HB.out hb3) (by omega)); clear y0 y1 y2 z0 z1 z2; (obtain ⟨v0, v1, v2, z0, z1, z2⟩ := own6 hY3); clear hrow hb3 hY3))
          exact bodyPost_ret (v := .tuple #[.agg #[.slice ra ka ea, .slice rb kb eb, .slice rc kc ec], .int .i64 0]) (by simp [results, Try.results24, go_sem, v0, v1, v2]) rfl ⟨by rw [HF1.out, HF2.out]; exact ⟨ra, ka, ea, rb, kb, eb, rc, kc, ec, rfl, HR3.out⟩, HB3.out⟩
end Go.Proofs.Ytjnpmfkkagchjaa
