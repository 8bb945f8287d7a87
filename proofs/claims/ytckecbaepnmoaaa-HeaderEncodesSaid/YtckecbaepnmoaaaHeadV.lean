/- Contracts of the references of layer 3: Decode, Forward, Target. -/
import Derived.Test.YtckecbaepnmoaaaHeadU
namespace Go.Proofs.Ytckecbaepnmoaaa
open Go.RowKit

theorem and_dK (x : Nat) (hx : x < 18446744073709551616) : bits .and .u64 ((x : Int) / 4) 3 = ((dK x : Nat) : Int) := by
  have h := u64_and_nat (x / 4) 3 (by omega) (by omega)
  rw [show ((x / 4 : Nat) : Int) = (x : Int) / 4 from by omega, show ((3 : Nat) : Int) = 3 from rfl] at h
  rw [h, show (3 : Nat) = 2 ^ 2 - 1 from rfl, Nat.and_two_pow_sub_one_eq_mod]; rfl
theorem and_dN (x : Nat) (hx : x < 18446744073709551616) : bits .and .u64 ((x : Int) / 16) 4095 = ((dN x : Nat) : Int) := by
  have h := u64_and_nat (x / 16) 4095 (by omega) (by omega)
  rw [show ((x / 16 : Nat) : Int) = (x : Int) / 16 from by omega, show ((4095 : Nat) : Int) = 4095 from rfl] at h
  rw [h, show (4095 : Nat) = 2 ^ 12 - 1 from rfl, Nat.and_two_pow_sub_one_eq_mod]; rfl
theorem mod_dM (x : Nat) : (x : Int) / 65536 % 4294967296 = ((dM x : Nat) : Int) := by unfold dM; omega

set_option maxHeartbeats 1600000 in
theorem refDecode_yes (X K N M : Int) (w : World) (hk : bits .and .u64 (X / 4) 3 = K) (hn : bits .and .u64 (X / 16) 4095 = N) (hm : X / 65536 % 4294967296 = M)
    (hK0 : 0 ≤ K) (hK : K ≤ 3) (hN0 : 0 ≤ N) (hN : N ≤ 4095) (hM0 : 0 ≤ M) (hM : M < 4294967296) (he : Hid (encE K N M = 0)) (hv : Hid (encV K N M = X)) :
    Calls Try.prog 15 #[.int .u64 X] w fun e w' => e = .returned (.tuple #[.agg #[.int .i64 K, .int .i64 N, .int .u32 M], .bool true]) ∧ Below w.heap.size w w' := by
  have Ho := Lib.hid (Own3.new w (.int .i64 0) (.int .i64 0) (.int .u32 0) 24)
  go_enter Try.func15, Try.ntmps15
  go_wp2_with fail
  refine (refEncode_any K N M _ hM0 hM).mono ?_
  rw [he.out, hv.out]
  rintro e w1 ⟨rfl, hb1⟩
  have hb01 := below_boxed hb1
  obtain ⟨c0, c1, c2, f0, f1, f2⟩ := Ho.out.keep hb01
  obtain ⟨k0, k1, k2, -, -, -⟩ := (Own3.new (w.alloc (.cells #[.int .i64 0, .int .i64 0, .int .u32 0] 24)) (.int .i64 K) (.int .i64 N) (.int .u32 M) 24).keep hb1
  have hbw := below_boxed hb01
  simp only [World.size_alloc] at k0 k1 k2
  clear Ho hb1 hb01
  go_wp2
  exact bodyPost_ret (v := .tuple #[.agg #[.int .i64 K, .int .i64 N, .int .u32 M], .bool true]) (by simp [results, Try.results15, go_sem, c0, c1, c2]) rfl ⟨rfl, below_set3 hbw (Nat.le_refl _)⟩

set_option maxHeartbeats 1600000 in
theorem refDecode_arg (X K N M : Int) (w : World) (hk : bits .and .u64 (X / 4) 3 = K) (hn : bits .and .u64 (X / 16) 4095 = N) (hm : X / 65536 % 4294967296 = M)
    (hK0 : 0 ≤ K) (hK : K ≤ 3) (hN0 : 0 ≤ N) (hN : N ≤ 4095) (hM0 : 0 ≤ M) (hM : M < 4294967296) (he : Hid (encE K N M = 1)) :
    Calls Try.prog 15 #[.int .u64 X] w fun e w' => e = .returned (.tuple #[.agg #[.int .i64 0, .int .i64 0, .int .u32 0], .bool false]) ∧ Below w.heap.size w w' := by
  have Ho := Lib.hid (Own3.new w (.int .i64 0) (.int .i64 0) (.int .u32 0) 24)
  go_enter Try.func15, Try.ntmps15
  go_wp2_with fail
  refine (refEncode_any K N M _ hM0 hM).mono ?_
  rw [he.out]
  rintro e w1 ⟨rfl, hb1⟩
  have hb01 := below_boxed hb1
  obtain ⟨c0, c1, c2, f0, f1, f2⟩ := Ho.out.keep hb01
  obtain ⟨k0, k1, k2, -, -, -⟩ := (Own3.new (w.alloc (.cells #[.int .i64 0, .int .i64 0, .int .u32 0] 24)) (.int .i64 K) (.int .i64 N) (.int .u32 M) 24).keep hb1
  have hbw := below_boxed hb01
  simp only [World.size_alloc] at k0 k1 k2
  clear Ho hb1 hb01
  go_wp2
  exact bodyPost_ret (v := .tuple #[.agg #[.int .i64 0, .int .i64 0, .int .u32 0], .bool false]) (by simp [results, Try.results15, go_sem, c0, c1, c2]) rfl ⟨rfl, below_set3 hbw (Nat.le_refl _)⟩

set_option maxHeartbeats 1600000 in
theorem refDecode_word (X K N M : Int) (w : World) (hk : bits .and .u64 (X / 4) 3 = K) (hn : bits .and .u64 (X / 16) 4095 = N) (hm : X / 65536 % 4294967296 = M)
    (hK0 : 0 ≤ K) (hK : K ≤ 3) (hN0 : 0 ≤ N) (hN : N ≤ 4095) (hM0 : 0 ≤ M) (hM : M < 4294967296) (V : Int) (he : Hid (encE K N M = 0)) (hv : Hid (encV K N M = V)) (hne : (V != X) = true) :
    Calls Try.prog 15 #[.int .u64 X] w fun e w' => e = .returned (.tuple #[.agg #[.int .i64 0, .int .i64 0, .int .u32 0], .bool false]) ∧ Below w.heap.size w w' := by
  have Ho := Lib.hid (Own3.new w (.int .i64 0) (.int .i64 0) (.int .u32 0) 24)
  go_enter Try.func15, Try.ntmps15
  go_wp2_with fail
  refine (refEncode_any K N M _ hM0 hM).mono ?_
  rw [he.out, hv.out]
  rintro e w1 ⟨rfl, hb1⟩
  have hb01 := below_boxed hb1
  obtain ⟨c0, c1, c2, f0, f1, f2⟩ := Ho.out.keep hb01
  obtain ⟨k0, k1, k2, -, -, -⟩ := (Own3.new (w.alloc (.cells #[.int .i64 0, .int .i64 0, .int .u32 0] 24)) (.int .i64 K) (.int .i64 N) (.int .u32 M) 24).keep hb1
  have hbw := below_boxed hb01
  simp only [World.size_alloc] at k0 k1 k2
  clear Ho hb1 hb01
  go_wp2
  exact bodyPost_ret (v := .tuple #[.agg #[.int .i64 0, .int .i64 0, .int .u32 0], .bool false]) (by simp [results, Try.results15, go_sem, c0, c1, c2]) rfl ⟨rfl, below_set3 hbw (Nat.le_refl _)⟩

theorem refDecode_any (x : Nat) (w : World) (hx : x < 18446744073709551616) :
    Calls Try.prog 15 #[.int .u64 x] w fun e w' => e = .returned (.tuple #[.agg #[.int .i64 (decK x), .int .i64 (decN x), .int .u32 (decM x)], .bool (okD x)]) ∧ Below w.heap.size w w' := by
  have h1 := and_dK x hx
  have h2 := and_dN x hx
  have h3 := mod_dM x
  have b1 : (dK x : Int) ≤ 3 := by unfold dK; omega
  have b2 : (dN x : Int) ≤ 4095 := by unfold dN; omega
  have b3 : (dM x : Int) < 4294967296 := by unfold dM; omega
  by_cases ho : okD x = true
  · obtain ⟨e1, e2, e3⟩ := dec_ok ho
    obtain ⟨g1, g2⟩ := word_iff.1 ho
    obtain ⟨E, V⟩ := enc_ok g1
    rw [e1, e2, e3, ho]
    exact refDecode_yes x (dK x) (dN x) (dM x) w h1 h2 h3 (by omega) b1 (by omega) b2 (by omega) b3 V (E.trans g2)
  · have hn : okD x = false := by simpa using ho
    obtain ⟨e1, e2, e3⟩ := dec_no hn
    rw [e1, e2, e3, hn]
    by_cases hv : validB (dK x) (dN x) (dM x) = true
    · obtain ⟨E, V⟩ := enc_ok hv
      have hne : wordV (dK x) (dN x) (dM x) ≠ x := fun c => ho (word_iff.2 ⟨hv, c⟩)
      exact refDecode_word x (dK x) (dN x) (dM x) w h1 h2 h3 (by omega) b1 (by omega) b2 (by omega) b3 _ V E (bne_iff_ne.2 hne)
    · have hv : validB (dK x) (dN x) (dM x) = false := by simpa using hv
      exact refDecode_arg x (dK x) (dN x) (dM x) w h1 h2 h3 (by omega) b1 (by omega) b2 (by omega) b3 (enc_no hv).2

set_option maxHeartbeats 800000 in
theorem refForward_any (a : Int) (w : World) (ha : 0 ≤ a) :
    Calls Try.prog 17 #[.int .u64 a] w fun e w' => e = .returned (.tuple #[.int .u64 (fwdV a), .int .i64 (fwdE a)]) ∧ w = w' := by
  by_cases h : a < 4294967296
  · obtain ⟨e1, e2⟩ := fwd_ok h
    rw [e1, e2]
    clear e1 e2
    go_enter Try.func17, Try.ntmps17
    go_wp2
    go_ret2
    exact ⟨rfl, rfl⟩
  · obtain ⟨e1, e2⟩ := fwd_no h
    rw [e1, e2]
    clear e1 e2
    go_enter Try.func17, Try.ntmps17
    go_wp2
    go_ret2
    exact ⟨rfl, rfl⟩

set_option maxHeartbeats 800000 in
theorem refTarget_i (X R D : Int) (v : Bool) (w : World) (hX0 : 0 ≤ X) (hX : X < 18446744073709551616) (h4 : X % 4 = R) (hD : X / 4 = D) (hv : Hid (v = (decide (R = 2) && decide (D < 4294967296)))) :
    Calls Try.prog 19 #[.int .u64 X] w fun e w' => e = .returned (.tuple #[.int .u64 (if v then D else 0), .bool v]) ∧ w = w' := by
  by_cases h : R = 2
  · subst h
    by_cases h2 : D < 4294967296
    · have hv := hv.out
      simp [h2] at hv
      subst hv
      go_enter Try.func19, Try.ntmps19
      go_wp2
      go_ret2
      exact ⟨rfl, rfl⟩
    · have hv := hv.out
      simp [h2] at hv
      subst hv
      go_enter Try.func19, Try.ntmps19
      go_wp2
      go_ret2
      exact ⟨rfl, rfl⟩
  · have hv := hv.out
    simp [h] at hv
    subst hv
    have hne : (R != 2) = true := bne_iff_ne.2 h
    clear h
    go_enter Try.func19, Try.ntmps19
    go_wp2
    go_ret2
    exact ⟨rfl, rfl⟩
theorem refTarget_any (x : Nat) (w : World) (hx : x < 18446744073709551616) :
    Calls Try.prog 19 #[.int .u64 x] w fun e w' => e = .returned (.tuple #[.int .u64 (tgtV x), .bool (okT x)]) ∧ w = w' := by
  have h := refTarget_i x ((x % 4 : Nat) : Int) ((x / 4 : Nat) : Int) (okT x) w (by omega) (by omega) (by omega) (by omega) (by
    unfold okT
    show _ = _
    rw [Bool.eq_iff_iff]; simp only [Bool.and_eq_true, decide_eq_true_eq]; omega)
  have e : tgtV x = if okT x = true then ((x / 4 : Nat) : Int) else 0 := rfl
  rw [e]
  exact h
end Go.Proofs.Ytckecbaepnmoaaa
