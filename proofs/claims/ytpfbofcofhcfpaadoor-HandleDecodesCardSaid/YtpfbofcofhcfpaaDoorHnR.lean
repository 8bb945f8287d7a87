/- Contract of handle.Decode. -/
import Derived.Test.YtpfbofcofhcfpaaDoorHnQ
namespace Go.Proofs.YtpfbofcofhcfpaaDoor
open Go.RowKit

theorem shr_zeroH {x k : Nat} : x >>> k = 0 ↔ x < 2 ^ k := by
  rw [Nat.shiftRight_eq_div_pow, Nat.div_eq_zero_iff]
  have := pow_pos2 k
  omega
theorem unp_hand {x : Nat} (h : x < 1125899906842624) : unpE x [2, 16, 32] = 0 ∧ unpV x [2, 16, 32] = [((hT x : Nat) : Int), ((hI x : Nat) : Int), ((hS x : Nat) : Int)] := by
  obtain ⟨E, V⟩ := unp_ok (x := x) (ws := [2, 16, 32]) (by decide) (shr_zeroH.2 (by simpa [sumW] using h))
  refine ⟨E, V.out.trans ?_⟩
  simp only [uvals, and_ones, hT, hI, hS, Nat.shiftRight_eq_div_pow, Nat.div_div_eq_div_mul]
  simp
  omega
theorem unp_hand_no {x : Nat} (h : ¬ x < 1125899906842624) : unpE x [2, 16, 32] = 2 ∧ unpV x [2, 16, 32] = [] := by
  obtain ⟨E, V⟩ := unp_bad (x := x) (ws := [2, 16, 32]) (by decide) (fun c => h (by simpa [sumW] using shr_zeroH.1 c))
  exact ⟨E, V⟩

set_option maxHeartbeats 800000 in
theorem hndec_zero (w : World) :
    Calls Tryd.prog 12 #[.int .u64 0] w fun e w' => e = .returned (.tuple #[.agg #[.int .i64 0, .int .i64 0, .int .i64 0], .int .i64 5]) ∧ Below w.heap.size w w' := by
  go_enter Tryd.func12, Tryd.ntmps12
  go_wp2
  exact bodyPost_ret (v := .tuple #[.agg #[.int .i64 0, .int .i64 0, .int .i64 0], .int .i64 5]) (by simp [results, Tryd.results12, go_sem]) rfl ⟨rfl, below_box⟩

set_option maxHeartbeats 800000 in
theorem hndec_big (x : Nat) (w : World) (hw : Wid w) (hx : x < 18446744073709551616) (h : ¬ x < 1125899906842624) :
    Calls Tryd.prog 12 #[.int .u64 x] w fun e w' => e = .returned (.tuple #[.agg #[.int .i64 0, .int .i64 0, .int .i64 0], .int .i64 6]) ∧ Below w.heap.size w w' := by
  obtain ⟨X, hX⟩ : ∃ X : Int, Hid ((x : Int) = X) := ⟨_, rfl⟩
  have hne : (X == 0) = false := by rw [beq_eq_false_iff_ne, ← hX.out]; omega
  have hu := Lib.hid (unpack_any x (some ⟨w.heap.size + 1, 0, none⟩) 3 3 [2, 16, 32] _ hx rfl (by omega) (by simpa using irow3 (w.alloc (.cells #[.int .i64 0, .int .i64 0, .int .i64 0] 23)) 35 .i64 2 16 32))
  obtain ⟨g0, g1, g2⟩ := hw
  have hp : 0 < w.heap.size := cell_lt g0
  obtain ⟨e1, e2⟩ := unp_hand_no h
  rw [e1, e2] at hu
  rw [hX.out]
  rw [hX.out] at hu
  clear e1 e2 h hx
  have Ho := Lib.hid (Own3.new w (.int .i64 0) (.int .i64 0) (.int .i64 0) 23)
  go_enter Tryd.func12, Tryd.ntmps12
  go_wp2_with fail
  refine hu.out.mono ?_
  rintro e w1 ⟨⟨q, m, c, rfl, hq⟩, hb1⟩
  have hb01 := below_boxed hb1
  obtain ⟨c0, c1, c2, f0, f1, f2⟩ := Ho.out.keep hb01
  have hbw := below_boxed hb01
  clear hu hq hb1 hb01
  go_wp2
  exact bodyPost_ret (v := .tuple #[.agg #[.int .i64 0, .int .i64 0, .int .i64 0], .int .i64 6]) (by simp [results, Tryd.results12, go_sem, c0, c1, c2]) rfl ⟨rfl, below_set3 hbw (Nat.le_refl _)⟩

set_option maxHeartbeats 1600000 in
theorem hndec_yes (x : Nat) (w : World) (hw : Wid w) (hx : x < 18446744073709551616) (h0 : ¬ x = 0) (h : x < 1125899906842624) (hv : Hid (validH (hT x) (hI x) (hS x) = true)) :
    Calls Tryd.prog 12 #[.int .u64 x] w fun e w' => e = .returned (.tuple #[.agg #[.int .i64 (hT x), .int .i64 (hI x), .int .i64 (hS x)], .int .i64 0]) ∧ Below w.heap.size w w' := by
  obtain ⟨X, hX⟩ : ∃ X : Int, Hid ((x : Int) = X) := ⟨_, rfl⟩
  have hne : (X == 0) = false := by rw [beq_eq_false_iff_ne, ← hX.out]; omega
  have hu := Lib.hid (unpack_any x (some ⟨w.heap.size + 1, 0, none⟩) 3 3 [2, 16, 32] _ hx rfl (by omega) (by simpa using irow3 (w.alloc (.cells #[.int .i64 0, .int .i64 0, .int .i64 0] 23)) 35 .i64 2 16 32))
  have hg := Lib.hid hw
  obtain ⟨g0, g1, g2⟩ := hw
  have hp : 0 < w.heap.size := cell_lt g0
  obtain ⟨e1, e2⟩ := unp_hand h
  rw [e1, e2] at hu
  have hk : (hT x : Int) ≤ 3 := by unfold hT; omega
  have hn : (hI x : Int) ≤ 65535 := by unfold hI; omega
  have hm : (hS x : Int) < 4294967296 := by unfold hS; omega
  obtain ⟨K, hK, hK0⟩ : ∃ K : Int, Hid (((hT x : Nat) : Int) = K) ∧ 0 ≤ K := ⟨_, rfl, by omega⟩
  obtain ⟨N, hN, hN0⟩ : ∃ N : Int, Hid (((hI x : Nat) : Int) = N) ∧ 0 ≤ N := ⟨_, rfl, by omega⟩
  obtain ⟨M, hM, hM0⟩ : ∃ M : Int, Hid (((hS x : Nat) : Int) = M) ∧ 0 ≤ M := ⟨_, rfl, by omega⟩
  rw [hK.out] at hu hk hv
  rw [hN.out] at hu hn hv
  rw [hM.out] at hu hm hv
  rw [hK.out, hN.out, hM.out, hX.out]
  rw [hX.out] at hu
  clear e1 e2 h hx h0
  have Ho := Lib.hid (Own3.new w (.int .i64 0) (.int .i64 0) (.int .i64 0) 23)
  go_enter Tryd.func12, Tryd.ntmps12
  go_wp2_with fail
  refine hu.out.mono ?_
  rintro e w1 ⟨⟨q, m, c, rfl, hq⟩, hb1⟩
  obtain rfl : m = 3 := hq.len.symm
  obtain ⟨y, b, off, hy, rfl, d0⟩ := hq.at_ (k := 0) (by omega)
  obtain ⟨y1, b1, off1, hy1, hp1, d1⟩ := hq.at_ (k := 1) (by omega)
  obtain ⟨y2, b2, off2, hy2, hp2, d2⟩ := hq.at_ (k := 2) (by omega)
  simp at hy hy1 hy2 hp1 hp2
  obtain ⟨rfl, rfl⟩ := hp1
  obtain ⟨rfl, rfl⟩ := hp2
  subst hy hy1 hy2
  rw [Nat.add_zero] at d0
  have hb01 := below_boxed hb1
  have Ho1 := Lib.hid (Ho.out.keep hb01)
  have hbw := below_boxed hb01
  have hg1 := Lib.hid (hg.out.keep hbw)
  clear hu hq hb1 hb01 Ho g0 g1 g2
  have lb : b < w1.heap.size := cell_lt d0
  have lne : b ≠ w1.heap.size := Nat.ne_of_lt lb
  go_wp2
  go_region
  have hg2 := hg1.out.keep ((((Below.refl w1.heap.size w1).alloc (Nat.le_refl _) (.cells #[.int .i64 K, .int .i64 N, .int .i64 M] 23)).drew))
  go_wp2_with fail
  refine (hnvalid_any K N M _ hg2).mono ?_
  rw [hv.out]
  rintro e w2 ⟨rfl, hb2⟩
  have hb12 : Below w1.heap.size w1 w2 := (((Below.refl _ _).alloc (Nat.le_refl _) _).drew).trans (hb2.mono (by simp))
  obtain ⟨c0, c1, c2, f0, f1, f2⟩ := Ho1.out.keep hb12
  have Hn := ((Own3.new w1 (.int .i64 K) (.int .i64 N) (.int .i64 M) 23).keep (Below.drew (Below.refl _ _))).keep hb2
  obtain ⟨k0, k1, k2, -, -, -⟩ := Hn
  have hbw2 := bthen hbw hb12
  clear hb2 hb12 Ho1 hbw d0 d1 d2 lb lne hg2 hg1
  go_wp2
  exact bodyPost_ret (v := .tuple #[.agg #[.int .i64 K, .int .i64 N, .int .i64 M], .int .i64 0]) (by simp [results, Tryd.results12, go_sem, c0, c1, c2]) rfl ⟨rfl, below_set3 hbw2 (Nat.le_refl _)⟩

set_option maxHeartbeats 1600000 in
theorem hndec_no (x : Nat) (w : World) (hw : Wid w) (hx : x < 18446744073709551616) (h0 : ¬ x = 0) (h : x < 1125899906842624) (hv : Hid (validH (hT x) (hI x) (hS x) = false)) :
    Calls Tryd.prog 12 #[.int .u64 x] w fun e w' => e = .returned (.tuple #[.agg #[.int .i64 0, .int .i64 0, .int .i64 0], .int .i64 6]) ∧ Below w.heap.size w w' := by
  obtain ⟨X, hX⟩ : ∃ X : Int, Hid ((x : Int) = X) := ⟨_, rfl⟩
  have hne : (X == 0) = false := by rw [beq_eq_false_iff_ne, ← hX.out]; omega
  have hu := Lib.hid (unpack_any x (some ⟨w.heap.size + 1, 0, none⟩) 3 3 [2, 16, 32] _ hx rfl (by omega) (by simpa using irow3 (w.alloc (.cells #[.int .i64 0, .int .i64 0, .int .i64 0] 23)) 35 .i64 2 16 32))
  have hg := Lib.hid hw
  obtain ⟨g0, g1, g2⟩ := hw
  have hp : 0 < w.heap.size := cell_lt g0
  obtain ⟨e1, e2⟩ := unp_hand h
  rw [e1, e2] at hu
  have hk : (hT x : Int) ≤ 3 := by unfold hT; omega
  have hn : (hI x : Int) ≤ 65535 := by unfold hI; omega
  have hm : (hS x : Int) < 4294967296 := by unfold hS; omega
  obtain ⟨K, hK, hK0⟩ : ∃ K : Int, Hid (((hT x : Nat) : Int) = K) ∧ 0 ≤ K := ⟨_, rfl, by omega⟩
  obtain ⟨N, hN, hN0⟩ : ∃ N : Int, Hid (((hI x : Nat) : Int) = N) ∧ 0 ≤ N := ⟨_, rfl, by omega⟩
  obtain ⟨M, hM, hM0⟩ : ∃ M : Int, Hid (((hS x : Nat) : Int) = M) ∧ 0 ≤ M := ⟨_, rfl, by omega⟩
  rw [hK.out] at hu hk hv
  rw [hN.out] at hu hn hv
  rw [hM.out] at hu hm hv
  rw [hX.out]
  rw [hX.out] at hu
  clear e1 e2 h hx h0
  have Ho := Lib.hid (Own3.new w (.int .i64 0) (.int .i64 0) (.int .i64 0) 23)
  go_enter Tryd.func12, Tryd.ntmps12
  go_wp2_with fail
  refine hu.out.mono ?_
  rintro e w1 ⟨⟨q, m, c, rfl, hq⟩, hb1⟩
  obtain rfl : m = 3 := hq.len.symm
  obtain ⟨y, b, off, hy, rfl, d0⟩ := hq.at_ (k := 0) (by omega)
  obtain ⟨y1, b1, off1, hy1, hp1, d1⟩ := hq.at_ (k := 1) (by omega)
  obtain ⟨y2, b2, off2, hy2, hp2, d2⟩ := hq.at_ (k := 2) (by omega)
  simp at hy hy1 hy2 hp1 hp2
  obtain ⟨rfl, rfl⟩ := hp1
  obtain ⟨rfl, rfl⟩ := hp2
  subst hy hy1 hy2
  rw [Nat.add_zero] at d0
  have hb01 := below_boxed hb1
  have Ho1 := Lib.hid (Ho.out.keep hb01)
  have hbw := below_boxed hb01
  have hg1 := Lib.hid (hg.out.keep hbw)
  clear hu hq hb1 hb01 Ho g0 g1 g2
  have lb : b < w1.heap.size := cell_lt d0
  have lne : b ≠ w1.heap.size := Nat.ne_of_lt lb
  go_wp2
  go_region
  have hg2 := hg1.out.keep ((((Below.refl w1.heap.size w1).alloc (Nat.le_refl _) (.cells #[.int .i64 K, .int .i64 N, .int .i64 M] 23)).drew))
  go_wp2_with fail
  refine (hnvalid_any K N M _ hg2).mono ?_
  rw [hv.out]
  rintro e w2 ⟨rfl, hb2⟩
  have hb12 : Below w1.heap.size w1 w2 := (((Below.refl _ _).alloc (Nat.le_refl _) _).drew).trans (hb2.mono (by simp))
  obtain ⟨c0, c1, c2, f0, f1, f2⟩ := Ho1.out.keep hb12
  have Hn := ((Own3.new w1 (.int .i64 K) (.int .i64 N) (.int .i64 M) 23).keep (Below.drew (Below.refl _ _))).keep hb2
  obtain ⟨k0, k1, k2, -, -, -⟩ := Hn
  have hbw2 := bthen hbw hb12
  clear hb2 hb12 Ho1 hbw d0 d1 d2 lb lne hg2 hg1
  go_wp2
  exact bodyPost_ret (v := .tuple #[.agg #[.int .i64 0, .int .i64 0, .int .i64 0], .int .i64 6]) (by simp [results, Tryd.results12, go_sem, c0, c1, c2]) rfl ⟨rfl, below_set3 hbw2 (Nat.le_refl _)⟩

theorem hndec_any (x : Nat) (w : World) (hw : Wid w) (hx : x < 18446744073709551616) :
    Calls Tryd.prog 12 #[.int .u64 x] w fun e w' => e = .returned (.tuple #[.agg #[.int .i64 (hdT x), .int .i64 (hdI x), .int .i64 (hdS x)], .int .i64 (hdE x)]) ∧ Below w.heap.size w w' := by
  by_cases h0 : x = 0
  · subst h0
    obtain ⟨e1, e2, e3, e4⟩ := hd_zero
    rw [e1, e2, e3, e4]
    exact hndec_zero w
  by_cases ho : okH x = true
  · obtain ⟨e1, e2, e3, e4⟩ := hd_ok ho
    rw [e1, e2, e3, e4]
    exact hndec_yes x w hw hx h0 (okH_lt ho) ho
  · have ho : okH x = false := by simpa using ho
    obtain ⟨e1, e2, e3, e4⟩ := hd_no h0 ho
    rw [e1, e2, e3, e4]
    by_cases h : x < 1125899906842624
    · exact hndec_no x w hw hx h0 h ho
    · exact hndec_big x w hw hx h
end Go.Proofs.YtpfbofcofhcfpaaDoor
