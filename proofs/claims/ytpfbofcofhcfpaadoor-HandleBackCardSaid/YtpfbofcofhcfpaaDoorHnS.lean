/- Contract of the reference's Decode (layer 16); awake. -/
import Derived.Test.YtpfbofcofhcfpaaDoorHnR
namespace Go.Proofs.YtpfbofcofhcfpaaDoor
open Go.RowKit

theorem and_hT (x : Nat) (hx : x < 18446744073709551616) : bits .and .u64 (x : Int) 3 = ((hT x : Nat) : Int) := by
  have h := u64_and_nat x 3 hx (by omega)
  rw [show ((3 : Nat) : Int) = 3 from rfl] at h
  rw [h, show (3 : Nat) = 2 ^ 2 - 1 from rfl, Nat.and_two_pow_sub_one_eq_mod]; rfl
theorem and_hI (x : Nat) (hx : x < 18446744073709551616) : bits .and .u64 ((x : Int) / 4) 65535 = ((hI x : Nat) : Int) := by
  have h := u64_and_nat (x / 4) 65535 (by omega) (by omega)
  rw [show ((x / 4 : Nat) : Int) = (x : Int) / 4 from by omega, show ((65535 : Nat) : Int) = 65535 from rfl] at h
  rw [h, show (65535 : Nat) = 2 ^ 16 - 1 from rfl, Nat.and_two_pow_sub_one_eq_mod]; rfl
theorem div_hS (x : Nat) : (x : Int) / 262144 = ((hS x : Nat) : Int) := by unfold hS; omega

set_option maxHeartbeats 800000 in
theorem rhdec_zero (w : World) :
    Calls Tryd.prog 13 #[.int .u64 0] w fun e w' => e = .returned (.tuple #[.agg #[.int .i64 0, .int .i64 0, .int .i64 0], .int .i64 5]) ∧ Below w.heap.size w w' := by
  go_enter Tryd.func13, Tryd.ntmps13
  go_wp2
  exact bodyPost_ret (v := .tuple #[.agg #[.int .i64 0, .int .i64 0, .int .i64 0], .int .i64 5]) (by simp [results, Tryd.results13, go_sem]) rfl ⟨rfl, below_box⟩

set_option maxHeartbeats 1600000 in
theorem rhdec_yes (X K N M : Int) (w : World) (hne : (X == 0) = false) (hk : bits .and .u64 X 3 = K) (hn : bits .and .u64 (X / 4) 65535 = N) (hm : X / 262144 = M)
    (hK0 : 0 ≤ K) (hK : K ≤ 3) (hN0 : 0 ≤ N) (hN : N ≤ 65535) (hM0 : 0 ≤ M) (hM : M < 70368744177664) (he : Hid (hencE K N M = 0)) (hv : Hid (hencV K N M = X)) :
    Calls Tryd.prog 13 #[.int .u64 X] w fun e w' => e = .returned (.tuple #[.agg #[.int .i64 K, .int .i64 N, .int .i64 M], .int .i64 0]) ∧ Below w.heap.size w w' := by
  have Ho := Lib.hid (Own3.new w (.int .i64 0) (.int .i64 0) (.int .i64 0) 23)
  go_enter Tryd.func13, Tryd.ntmps13
  go_wp2_with fail
  refine (rhenc_any K N M _).mono ?_
  rw [he.out, hv.out]
  rintro e w1 ⟨rfl, hb1⟩
  have hb01 := below_boxed hb1
  obtain ⟨c0, c1, c2, f0, f1, f2⟩ := Ho.out.keep hb01
  obtain ⟨k0, k1, k2, -, -, -⟩ := (Own3.new (w.alloc (.cells #[.int .i64 0, .int .i64 0, .int .i64 0] 23)) (.int .i64 K) (.int .i64 N) (.int .i64 M) 23).keep hb1
  have hbw := below_boxed hb01
  simp only [World.size_alloc] at k0 k1 k2
  clear Ho hb1 hb01
  go_wp2
  exact bodyPost_ret (v := .tuple #[.agg #[.int .i64 K, .int .i64 N, .int .i64 M], .int .i64 0]) (by simp [results, Tryd.results13, go_sem, c0, c1, c2]) rfl ⟨rfl, below_set3 hbw (Nat.le_refl _)⟩

set_option maxHeartbeats 1600000 in
theorem rhdec_no (X K N M : Int) (w : World) (hne : (X == 0) = false) (hk : bits .and .u64 X 3 = K) (hn : bits .and .u64 (X / 4) 65535 = N) (hm : X / 262144 = M)
    (hK0 : 0 ≤ K) (hK : K ≤ 3) (hN0 : 0 ≤ N) (hN : N ≤ 65535) (hM0 : 0 ≤ M) (hM : M < 70368744177664) (he : Hid (hencE K N M = 1)) (hv : Hid (hencV K N M = 0)) :
    Calls Tryd.prog 13 #[.int .u64 X] w fun e w' => e = .returned (.tuple #[.agg #[.int .i64 0, .int .i64 0, .int .i64 0], .int .i64 6]) ∧ Below w.heap.size w w' := by
  have Ho := Lib.hid (Own3.new w (.int .i64 0) (.int .i64 0) (.int .i64 0) 23)
  go_enter Tryd.func13, Tryd.ntmps13
  go_wp2_with fail
  refine (rhenc_any K N M _).mono ?_
  rw [he.out, hv.out]
  rintro e w1 ⟨rfl, hb1⟩
  have hb01 := below_boxed hb1
  obtain ⟨c0, c1, c2, f0, f1, f2⟩ := Ho.out.keep hb01
  obtain ⟨k0, k1, k2, -, -, -⟩ := (Own3.new (w.alloc (.cells #[.int .i64 0, .int .i64 0, .int .i64 0] 23)) (.int .i64 K) (.int .i64 N) (.int .i64 M) 23).keep hb1
  have hbw := below_boxed hb01
  simp only [World.size_alloc] at k0 k1 k2
  clear Ho hb1 hb01
  go_wp2
  exact bodyPost_ret (v := .tuple #[.agg #[.int .i64 0, .int .i64 0, .int .i64 0], .int .i64 6]) (by simp [results, Tryd.results13, go_sem, c0, c1, c2]) rfl ⟨rfl, below_set3 hbw (Nat.le_refl _)⟩

theorem rhdec_any (x : Nat) (w : World) (hx : x < 18446744073709551616) :
    Calls Tryd.prog 13 #[.int .u64 x] w fun e w' => e = .returned (.tuple #[.agg #[.int .i64 (hdT x), .int .i64 (hdI x), .int .i64 (hdS x)], .int .i64 (hdE x)]) ∧ Below w.heap.size w w' := by
  by_cases h0 : x = 0
  · subst h0
    obtain ⟨e1, e2, e3, e4⟩ := hd_zero
    rw [e1, e2, e3, e4]
    exact rhdec_zero w
  have hne : ((x : Int) == 0) = false := by rw [beq_eq_false_iff_ne]; omega
  have h1 := and_hT x hx
  have h2 := and_hI x hx
  have h3 := div_hS x
  have b1 : (hT x : Int) ≤ 3 := by unfold hT; omega
  have b2 : (hI x : Int) ≤ 65535 := by unfold hI; omega
  have b3 : (hS x : Int) < 70368744177664 := by unfold hS; omega
  by_cases ho : okH x = true
  · obtain ⟨e1, e2, e3, e4⟩ := hd_ok ho
    obtain ⟨E, V⟩ := henc_ok ho
    rw [e1, e2, e3, e4]
    exact rhdec_yes x (hT x) (hI x) (hS x) w hne h1 h2 h3 (by omega) b1 (by omega) b2 (by omega) b3 V (E.trans hd_word)
  · have ho : okH x = false := by simpa using ho
    obtain ⟨e1, e2, e3, e4⟩ := hd_no h0 ho
    obtain ⟨E, V⟩ := henc_no ho
    rw [e1, e2, e3, e4]
    exact rhdec_no x (hT x) (hI x) (hS x) w hne h1 h2 h3 (by omega) b1 (by omega) b2 (by omega) b3 V E

set_option maxHeartbeats 800000 in
theorem awake16 (w : World) (hw : Wid w) :
    Calls Tryd.prog 9 #[] w fun e w' => e = .returned (.bool true) ∧ Below w.heap.size w w' := by
  have hc := Lib.hid (hnenc_any 1 0 1 w hw)
  rw [show hencV 1 0 1 = 262145 from by decide, show hencE 1 0 1 = 0 from by decide] at hc
  go_enter Tryd.func9, Tryd.ntmps9
  go_wp2_with fail
  refine hc.out.mono ?_
  rintro e w' ⟨rfl, hb⟩
  clear hc
  go_wp2
  go_ret
  exact ⟨rfl, hb⟩
end Go.Proofs.YtpfbofcofhcfpaaDoor
