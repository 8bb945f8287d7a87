/- The law HeaderBack walked. -/
import Derived.Test.YtckecbaepnmoaaaHeadL
namespace Go.Proofs.Ytckecbaepnmoaaa
open Go.RowKit

set_option maxHeartbeats 1600000 in
theorem lawBack_tt (k n m : Int) (x : Nat) (w : World) (hm0 : 0 ≤ m) (hm : m < 4294967296) (hx : x < 18446744073709551616) (hv : validB k n m = true) (ho : okD x = true) :
    Calls Try.prog 5 #[.agg #[.int .i64 k, .int .i64 n, .int .u32 m], .int .u64 x] w fun e w' => e = .returned (.bool true) ∧ Below w.heap.size w w' := by
  have he := Lib.hid (fun w => encode_any k n m w hm0 hm)
  have hd := Lib.hid (fun w => decode_any x w hx)
  obtain ⟨e1, e2⟩ := enc_ok hv
  obtain ⟨b1, b2⟩ := word_bd hv hm0
  obtain ⟨y, hy⟩ := Int.eq_ofNat_of_zero_le b1
  obtain ⟨o1, o2, o3, o4⟩ := word_dec hv hm0 hy
  obtain ⟨q1, q2, q3⟩ := dec_ok o1
  have hb := Lib.hid (fun w => decode_any y w (by omega))
  rw [q1, q2, q3, o1, o2, o3, o4] at hb
  rw [e1, e2, hy] at he
  obtain ⟨Y, hY⟩ : ∃ Y : Int, Hid ((y : Int) = Y) := ⟨_, rfl⟩
  rw [hY.out] at he hb
  clear e1 e2 b1 b2 hy o1 o2 o3 o4 q1 q2 q3
  obtain ⟨X, hX⟩ : ∃ X : Int, Hid ((x : Int) = X) := ⟨_, rfl⟩
  obtain ⟨q1, q2, q3⟩ := dec_ok ho
  obtain ⟨g1, g2⟩ := word_iff.1 ho
  obtain ⟨e1, e2⟩ := enc_ok g1
  have b3 : (dM x : Int) < 4294967296 := by unfold dM; omega
  have hb2 := Lib.hid (fun w => encode_any (dK x) (dN x) (dM x) w (by omega) b3)
  rw [e1, e2, g2] at hb2
  rw [q1, q2, q3, ho] at hd
  obtain ⟨K, hK⟩ : ∃ K : Int, Hid (((dK x : Nat) : Int) = K) := ⟨_, rfl⟩
  obtain ⟨N, hN⟩ : ∃ N : Int, Hid (((dN x : Nat) : Int) = N) := ⟨_, rfl⟩
  obtain ⟨M, hM⟩ : ∃ M : Int, Hid (((dM x : Nat) : Int) = M) := ⟨_, rfl⟩
  rw [hK.out, hN.out, hM.out, hX.out] at hb2 hd
  rw [hX.out]
  clear q1 q2 q3 g1 g2 e1 e2 b3
  clear hm0 hm hx hv ho
  go_enter Try.func5, Try.ntmps5
  go_wp2_with fail
  refine (he.out _).mono ?_
  rintro e w1 ⟨rfl, hb1⟩
  have hw1 := below_boxed hb1
  obtain ⟨c0, c1, c2⟩ := box3 (by simpa using hb1)
  clear he hb1
  go_wp2_with fail
  refine (hb.out _).mono ?_
  rintro e w2 ⟨rfl, hb2'⟩
  have d0 := cell_keep hb2' c0
  have d1 := cell_keep hb2' c1
  have d2 := cell_keep hb2' c2
  have l0 : w.heap.size < w2.heap.size := cell_lt d0
  have hw2 := bthen hw1 hb2'
  clear hb hb2' c0 c1 c2 hw1
  go_wp2_with fail
  refine (hd.out _).mono ?_
  rintro e w3 ⟨rfl, hb3⟩
  have hw3 := bthen hw2 (below_boxed hb3)
  clear hd hb3 hw2 d0 d1 d2
  go_wp2_with fail
  refine (hb2.out _).mono ?_
  rintro e w4 ⟨rfl, hb4⟩
  have hw4 := bthen hw3 (below_boxed hb4)
  clear hb2 hb4 hw3
  go_wp2_with fail
  refine (awake_any _).mono ?_
  rintro e w5 ⟨rfl, hb5⟩
  have hw5 := bthen hw4 hb5
  go_wp2
  go_ret
  exact ⟨rfl, hw5⟩

set_option maxHeartbeats 1600000 in
theorem lawBack_tf (k n m : Int) (x : Nat) (w : World) (hm0 : 0 ≤ m) (hm : m < 4294967296) (hx : x < 18446744073709551616) (hv : validB k n m = true) (ho : okD x = false) :
    Calls Try.prog 5 #[.agg #[.int .i64 k, .int .i64 n, .int .u32 m], .int .u64 x] w fun e w' => e = .returned (.bool true) ∧ Below w.heap.size w w' := by
  have he := Lib.hid (fun w => encode_any k n m w hm0 hm)
  have hd := Lib.hid (fun w => decode_any x w hx)
  obtain ⟨e1, e2⟩ := enc_ok hv
  obtain ⟨b1, b2⟩ := word_bd hv hm0
  obtain ⟨y, hy⟩ := Int.eq_ofNat_of_zero_le b1
  obtain ⟨o1, o2, o3, o4⟩ := word_dec hv hm0 hy
  obtain ⟨q1, q2, q3⟩ := dec_ok o1
  have hb := Lib.hid (fun w => decode_any y w (by omega))
  rw [q1, q2, q3, o1, o2, o3, o4] at hb
  rw [e1, e2, hy] at he
  obtain ⟨Y, hY⟩ : ∃ Y : Int, Hid ((y : Int) = Y) := ⟨_, rfl⟩
  rw [hY.out] at he hb
  clear e1 e2 b1 b2 hy o1 o2 o3 o4 q1 q2 q3
  obtain ⟨X, hX⟩ : ∃ X : Int, Hid ((x : Int) = X) := ⟨_, rfl⟩
  obtain ⟨q1, q2, q3⟩ := dec_no ho
  rw [q1, q2, q3, ho, hX.out] at hd
  rw [hX.out]
  clear q1 q2 q3
  clear hm0 hm hx hv ho
  go_enter Try.func5, Try.ntmps5
  go_wp2_with fail
  refine (he.out _).mono ?_
  rintro e w1 ⟨rfl, hb1⟩
  have hw1 := below_boxed hb1
  obtain ⟨c0, c1, c2⟩ := box3 (by simpa using hb1)
  clear he hb1
  go_wp2_with fail
  refine (hb.out _).mono ?_
  rintro e w2 ⟨rfl, hb2'⟩
  have d0 := cell_keep hb2' c0
  have d1 := cell_keep hb2' c1
  have d2 := cell_keep hb2' c2
  have l0 : w.heap.size < w2.heap.size := cell_lt d0
  have hw2 := bthen hw1 hb2'
  clear hb hb2' c0 c1 c2 hw1
  go_wp2_with fail
  refine (hd.out _).mono ?_
  rintro e w3 ⟨rfl, hb3⟩
  have hw3 := bthen hw2 (below_boxed hb3)
  clear hd hb3 hw2 d0 d1 d2
  go_wp2_with fail
  refine (awake_any _).mono ?_
  rintro e w5 ⟨rfl, hb5⟩
  have hw5 := bthen hw3 (below_boxed hb5)
  obtain ⟨k0, k1, k2, -, -, -⟩ := (Own3.new w3 (.int .i64 0) (.int .i64 0) (.int .u32 0) 24).keep hb5
  clear hb5 hw3
  go_wp2
  go_ret
  exact ⟨rfl, hw5⟩

set_option maxHeartbeats 1600000 in
theorem lawBack_ft (k n m : Int) (x : Nat) (w : World) (hm0 : 0 ≤ m) (hm : m < 4294967296) (hx : x < 18446744073709551616) (hv : validB k n m = false) (ho : okD x = true) :
    Calls Try.prog 5 #[.agg #[.int .i64 k, .int .i64 n, .int .u32 m], .int .u64 x] w fun e w' => e = .returned (.bool true) ∧ Below w.heap.size w w' := by
  have he := Lib.hid (fun w => encode_any k n m w hm0 hm)
  have hd := Lib.hid (fun w => decode_any x w hx)
  obtain ⟨e1, e2⟩ := enc_no hv
  rw [e1, e2] at he
  clear e1 e2
  obtain ⟨X, hX⟩ : ∃ X : Int, Hid ((x : Int) = X) := ⟨_, rfl⟩
  obtain ⟨q1, q2, q3⟩ := dec_ok ho
  obtain ⟨g1, g2⟩ := word_iff.1 ho
  obtain ⟨e1, e2⟩ := enc_ok g1
  have b3 : (dM x : Int) < 4294967296 := by unfold dM; omega
  have hb2 := Lib.hid (fun w => encode_any (dK x) (dN x) (dM x) w (by omega) b3)
  rw [e1, e2, g2] at hb2
  rw [q1, q2, q3, ho] at hd
  obtain ⟨K, hK⟩ : ∃ K : Int, Hid (((dK x : Nat) : Int) = K) := ⟨_, rfl⟩
  obtain ⟨N, hN⟩ : ∃ N : Int, Hid (((dN x : Nat) : Int) = N) := ⟨_, rfl⟩
  obtain ⟨M, hM⟩ : ∃ M : Int, Hid (((dM x : Nat) : Int) = M) := ⟨_, rfl⟩
  rw [hK.out, hN.out, hM.out, hX.out] at hb2 hd
  rw [hX.out]
  clear q1 q2 q3 g1 g2 e1 e2 b3
  clear hm0 hm hx hv ho
  go_enter Try.func5, Try.ntmps5
  go_wp2_with fail
  refine (he.out _).mono ?_
  rintro e w1 ⟨rfl, hb1⟩
  have hw1 := below_boxed hb1
  obtain ⟨c0, c1, c2⟩ := box3 (by simpa using hb1)
  clear he hb1
  go_wp2_with fail
  refine (hd.out _).mono ?_
  rintro e w3 ⟨rfl, hb3⟩
  have hw3 := bthen hw1 hb3
  clear hd hb3 hw1 c0 c1 c2
  go_wp2_with fail
  refine (hb2.out _).mono ?_
  rintro e w4 ⟨rfl, hb4⟩
  have hw4 := bthen hw3 (below_boxed hb4)
  clear hb2 hb4 hw3
  go_wp2_with fail
  refine (awake_any _).mono ?_
  rintro e w5 ⟨rfl, hb5⟩
  have hw5 := bthen hw4 hb5
  go_wp2
  go_ret
  exact ⟨rfl, hw5⟩

set_option maxHeartbeats 1600000 in
theorem lawBack_ff (k n m : Int) (x : Nat) (w : World) (hm0 : 0 ≤ m) (hm : m < 4294967296) (hx : x < 18446744073709551616) (hv : validB k n m = false) (ho : okD x = false) :
    Calls Try.prog 5 #[.agg #[.int .i64 k, .int .i64 n, .int .u32 m], .int .u64 x] w fun e w' => e = .returned (.bool true) ∧ Below w.heap.size w w' := by
  have he := Lib.hid (fun w => encode_any k n m w hm0 hm)
  have hd := Lib.hid (fun w => decode_any x w hx)
  obtain ⟨e1, e2⟩ := enc_no hv
  rw [e1, e2] at he
  clear e1 e2
  obtain ⟨X, hX⟩ : ∃ X : Int, Hid ((x : Int) = X) := ⟨_, rfl⟩
  obtain ⟨q1, q2, q3⟩ := dec_no ho
  rw [q1, q2, q3, ho, hX.out] at hd
  rw [hX.out]
  clear q1 q2 q3
  clear hm0 hm hx hv ho
  go_enter Try.func5, Try.ntmps5
  go_wp2_with fail
  refine (he.out _).mono ?_
  rintro e w1 ⟨rfl, hb1⟩
  have hw1 := below_boxed hb1
  obtain ⟨c0, c1, c2⟩ := box3 (by simpa using hb1)
  clear he hb1
  go_wp2_with fail
  refine (hd.out _).mono ?_
  rintro e w3 ⟨rfl, hb3⟩
  have hw3 := bthen hw1 hb3
  clear hd hb3 hw1 c0 c1 c2
  go_wp2_with fail
  refine (awake_any _).mono ?_
  rintro e w5 ⟨rfl, hb5⟩
  have hw5 := bthen hw3 (below_boxed hb5)
  obtain ⟨k0, k1, k2, -, -, -⟩ := (Own3.new w3 (.int .i64 0) (.int .i64 0) (.int .u32 0) 24).keep hb5
  clear hb5 hw3
  go_wp2
  go_ret
  exact ⟨rfl, hw5⟩

theorem lawBack (k n m : Int) (x : Nat) (w : World) (hm0 : 0 ≤ m) (hm : m < 4294967296) (hx : x < 18446744073709551616) :
    Calls Try.prog 5 #[.agg #[.int .i64 k, .int .i64 n, .int .u32 m], .int .u64 x] w fun e w' => e = .returned (.bool true) ∧ Below w.heap.size w w' := by
  cases hv : validB k n m <;> cases ho : okD x
  · exact lawBack_ff k n m x w hm0 hm hx hv ho
  · exact lawBack_ft k n m x w hm0 hm hx hv ho
  · exact lawBack_tf k n m x w hm0 hm hx hv ho
  · exact lawBack_tt k n m x w hm0 hm hx hv ho
end Go.Proofs.Ytckecbaepnmoaaa
