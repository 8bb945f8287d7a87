/- The law HandleBack walked. -/
import Derived.Test.YtpfbofcofhcfpaaDoorHnS
namespace Go.Proofs.YtpfbofcofhcfpaaDoor
open Go.RowKit

set_option maxHeartbeats 1600000 in
theorem lawHBack_tt (t i s : Int) (x : Nat) (w : World) (hw : Wid w) (hx : x < 18446744073709551616) (hv : validH t i s = true) (ho : okH x = true) :
    Calls Tryd.prog 5 #[.agg #[.int .i64 t, .int .i64 i, .int .i64 s], .int .u64 x] w fun e w' => e = .returned (.bool true) ∧ Below w.heap.size w w' := by
  have he := Lib.hid (fun w hw => hnenc_any t i s w hw)
  have hd := Lib.hid (fun w hw => hndec_any x w hw hx)
  have hg := Lib.hid (hw.alloc (.cells #[.int .i64 t, .int .i64 i, .int .i64 s] 23))
  obtain ⟨X, hX⟩ : ∃ X : Int, Hid ((x : Int) = X) := ⟨_, rfl⟩
  obtain ⟨e1, e2⟩ := henc_ok hv
  obtain ⟨b1, b2⟩ := wordH_bd hv
  obtain ⟨y, hy⟩ := Int.eq_ofNat_of_zero_le (show 0 ≤ wordH t i s by omega)
  obtain ⟨o1, o2, o3, o4⟩ := wordH_dec hv hy
  obtain ⟨q1, q2, q3, q4⟩ := hd_ok o1
  have hb := Lib.hid (fun w hw => hndec_any y w hw (by omega))
  rw [q1, q2, q3, q4, o2, o3, o4] at hb
  rw [e1, e2, hy] at he
  obtain ⟨Y, hY⟩ : ∃ Y : Int, Hid ((y : Int) = Y) := ⟨_, rfl⟩
  rw [hY.out] at he hb
  clear e1 e2 b1 b2 hy o1 o2 o3 o4 q1 q2 q3 q4
  obtain ⟨q1, q2, q3, q4⟩ := hd_ok ho
  obtain ⟨e1, e2⟩ := henc_ok ho
  have hb2 := Lib.hid (fun w hw => hnenc_any (hT x) (hI x) (hS x) w hw)
  rw [e1, e2, hd_word] at hb2
  rw [q1, q2, q3, q4] at hd
  obtain ⟨K, hK⟩ : ∃ K : Int, Hid (((hT x : Nat) : Int) = K) := ⟨_, rfl⟩
  obtain ⟨N, hN⟩ : ∃ N : Int, Hid (((hI x : Nat) : Int) = N) := ⟨_, rfl⟩
  obtain ⟨M, hM⟩ : ∃ M : Int, Hid (((hS x : Nat) : Int) = M) := ⟨_, rfl⟩
  rw [hK.out, hN.out, hM.out, hX.out] at hb2 hd
  rw [hX.out]
  clear q1 q2 q3 q4 e1 e2
  clear hx hv ho hw
  go_enter Tryd.func5, Tryd.ntmps5
  go_wp2_with fail
  refine (he.out _ hg.out).mono ?_
  rintro e w1 ⟨rfl, hb1⟩
  have hw1 := below_boxed hb1
  have hg1 := Lib.hid (hg.out.keep hb1)
  obtain ⟨c0, c1, c2⟩ := box3 (by simpa using hb1)
  clear he hb1 hg
  go_wp2_with fail
  refine (hb.out _ hg1.out).mono ?_
  rintro e w2 ⟨rfl, hb2'⟩
  have d0 := cell_keep hb2' c0
  have d1 := cell_keep hb2' c1
  have d2 := cell_keep hb2' c2
  have l0 : w.heap.size < w2.heap.size := cell_lt d0
  have hw2 := bthen hw1 hb2'
  have hg2 := Lib.hid ((hg1.out.keep hb2').alloc (.cells #[.int .i64 t, .int .i64 i, .int .i64 s] 23))
  clear hb hb2' c0 c1 c2 hw1 hg1
  go_wp2_with fail
  refine (hd.out _ hg2.out).mono ?_
  rintro e w3 ⟨rfl, hb3⟩
  have hw3 := bthen hw2 (below_boxed hb3)
  have hg3 := Lib.hid (hg2.out.keep hb3)
  clear hd hb3 hw2 d0 d1 d2 hg2
  have hg4 := Lib.hid (hg3.out.alloc (.cells #[.int .i64 K, .int .i64 N, .int .i64 M] 23))
  go_wp2_with fail
  refine (hb2.out _ hg4.out).mono ?_
  rintro e w4 ⟨rfl, hb4⟩
  have hw4 := bthen hw3 (below_boxed hb4)
  have hg5 := Lib.hid (hg4.out.keep hb4)
  clear hb2 hb4 hw3 hg3 hg4
  go_wp2_with fail
  refine (awake16 _ hg5.out).mono ?_
  rintro e w5 ⟨rfl, hb5⟩
  have hw5 := bthen hw4 hb5
  clear hg5
  go_wp2
  go_ret
  exact ⟨rfl, hw5⟩

set_option maxHeartbeats 1600000 in
theorem lawHBack_tf (t i s : Int) (x : Nat) (w : World) (hw : Wid w) (hx : x < 18446744073709551616) (hv : validH t i s = true) (ho : okH x = false) :
    Calls Tryd.prog 5 #[.agg #[.int .i64 t, .int .i64 i, .int .i64 s], .int .u64 x] w fun e w' => e = .returned (.bool true) ∧ Below w.heap.size w w' := by
  have he := Lib.hid (fun w hw => hnenc_any t i s w hw)
  have hd := Lib.hid (fun w hw => hndec_any x w hw hx)
  have hg := Lib.hid (hw.alloc (.cells #[.int .i64 t, .int .i64 i, .int .i64 s] 23))
  obtain ⟨X, hX⟩ : ∃ X : Int, Hid ((x : Int) = X) := ⟨_, rfl⟩
  obtain ⟨e1, e2⟩ := henc_ok hv
  obtain ⟨b1, b2⟩ := wordH_bd hv
  obtain ⟨y, hy⟩ := Int.eq_ofNat_of_zero_le (show 0 ≤ wordH t i s by omega)
  obtain ⟨o1, o2, o3, o4⟩ := wordH_dec hv hy
  obtain ⟨q1, q2, q3, q4⟩ := hd_ok o1
  have hb := Lib.hid (fun w hw => hndec_any y w hw (by omega))
  rw [q1, q2, q3, q4, o2, o3, o4] at hb
  rw [e1, e2, hy] at he
  obtain ⟨Y, hY⟩ : ∃ Y : Int, Hid ((y : Int) = Y) := ⟨_, rfl⟩
  rw [hY.out] at he hb
  clear e1 e2 b1 b2 hy o1 o2 o3 o4 q1 q2 q3 q4
  obtain ⟨E, hE, hE0⟩ : ∃ E : Int, Hid (hdE x = E) ∧ (E != 0) = true := by
    refine ⟨_, rfl, ?_⟩
    by_cases h0 : x = 0
    · subst h0; decide
    · rw [(hd_no h0 ho).2.2.2]; decide
  have q : hdT x = 0 ∧ hdI x = 0 ∧ hdS x = 0 := by
    by_cases h0 : x = 0
    · subst h0; decide
    · obtain ⟨q1, q2, q3, -⟩ := hd_no h0 ho; exact ⟨q1, q2, q3⟩
  rw [q.1, q.2.1, q.2.2, hE.out, hX.out] at hd
  rw [hX.out]
  clear q hE
  clear hx hv ho hw
  go_enter Tryd.func5, Tryd.ntmps5
  go_wp2_with fail
  refine (he.out _ hg.out).mono ?_
  rintro e w1 ⟨rfl, hb1⟩
  have hw1 := below_boxed hb1
  have hg1 := Lib.hid (hg.out.keep hb1)
  obtain ⟨c0, c1, c2⟩ := box3 (by simpa using hb1)
  clear he hb1 hg
  go_wp2_with fail
  refine (hb.out _ hg1.out).mono ?_
  rintro e w2 ⟨rfl, hb2'⟩
  have d0 := cell_keep hb2' c0
  have d1 := cell_keep hb2' c1
  have d2 := cell_keep hb2' c2
  have l0 : w.heap.size < w2.heap.size := cell_lt d0
  have hw2 := bthen hw1 hb2'
  have hg2 := Lib.hid ((hg1.out.keep hb2').alloc (.cells #[.int .i64 t, .int .i64 i, .int .i64 s] 23))
  clear hb hb2' c0 c1 c2 hw1 hg1
  go_wp2_with fail
  refine (hd.out _ hg2.out).mono ?_
  rintro e w3 ⟨rfl, hb3⟩
  have hw3 := bthen hw2 (below_boxed hb3)
  have hg3 := Lib.hid (hg2.out.keep hb3)
  clear hd hb3 hw2 d0 d1 d2 hg2
  have hg4 := Lib.hid (hg3.out.alloc (.cells #[.int .i64 0, .int .i64 0, .int .i64 0] 23))
  go_wp2_with fail
  refine (awake16 _ hg4.out).mono ?_
  rintro e w5 ⟨rfl, hb5⟩
  have hw5 := bthen hw3 (below_boxed hb5)
  obtain ⟨k0, k1, k2, -, -, -⟩ := (Own3.new w3 (.int .i64 0) (.int .i64 0) (.int .i64 0) 23).keep hb5
  clear hb5 hw3 hg3 hg4
  go_wp2
  go_ret
  exact ⟨rfl, hw5⟩

set_option maxHeartbeats 1600000 in
theorem lawHBack_ft (t i s : Int) (x : Nat) (w : World) (hw : Wid w) (hx : x < 18446744073709551616) (hv : validH t i s = false) (ho : okH x = true) :
    Calls Tryd.prog 5 #[.agg #[.int .i64 t, .int .i64 i, .int .i64 s], .int .u64 x] w fun e w' => e = .returned (.bool true) ∧ Below w.heap.size w w' := by
  have he := Lib.hid (fun w hw => hnenc_any t i s w hw)
  have hd := Lib.hid (fun w hw => hndec_any x w hw hx)
  have hg := Lib.hid (hw.alloc (.cells #[.int .i64 t, .int .i64 i, .int .i64 s] 23))
  obtain ⟨X, hX⟩ : ∃ X : Int, Hid ((x : Int) = X) := ⟨_, rfl⟩
  obtain ⟨e1, e2⟩ := henc_no hv
  rw [e1, e2] at he
  clear e1 e2
  obtain ⟨q1, q2, q3, q4⟩ := hd_ok ho
  obtain ⟨e1, e2⟩ := henc_ok ho
  have hb2 := Lib.hid (fun w hw => hnenc_any (hT x) (hI x) (hS x) w hw)
  rw [e1, e2, hd_word] at hb2
  rw [q1, q2, q3, q4] at hd
  obtain ⟨K, hK⟩ : ∃ K : Int, Hid (((hT x : Nat) : Int) = K) := ⟨_, rfl⟩
  obtain ⟨N, hN⟩ : ∃ N : Int, Hid (((hI x : Nat) : Int) = N) := ⟨_, rfl⟩
  obtain ⟨M, hM⟩ : ∃ M : Int, Hid (((hS x : Nat) : Int) = M) := ⟨_, rfl⟩
  rw [hK.out, hN.out, hM.out, hX.out] at hb2 hd
  rw [hX.out]
  clear q1 q2 q3 q4 e1 e2
  clear hx hv ho hw
  go_enter Tryd.func5, Tryd.ntmps5
  go_wp2_with fail
  refine (he.out _ hg.out).mono ?_
  rintro e w1 ⟨rfl, hb1⟩
  have hw1 := below_boxed hb1
  have hg1 := Lib.hid (hg.out.keep hb1)
  obtain ⟨c0, c1, c2⟩ := box3 (by simpa using hb1)
  clear he hb1 hg
  go_wp2_with fail
  refine (hd.out _ hg1.out).mono ?_
  rintro e w3 ⟨rfl, hb3⟩
  have hw3 := bthen hw1 hb3
  have hg3 := Lib.hid (hg1.out.keep hb3)
  clear hd hb3 hw1 c0 c1 c2 hg1
  have hg4 := Lib.hid (hg3.out.alloc (.cells #[.int .i64 K, .int .i64 N, .int .i64 M] 23))
  go_wp2_with fail
  refine (hb2.out _ hg4.out).mono ?_
  rintro e w4 ⟨rfl, hb4⟩
  have hw4 := bthen hw3 (below_boxed hb4)
  have hg5 := Lib.hid (hg4.out.keep hb4)
  clear hb2 hb4 hw3 hg3 hg4
  go_wp2_with fail
  refine (awake16 _ hg5.out).mono ?_
  rintro e w5 ⟨rfl, hb5⟩
  have hw5 := bthen hw4 hb5
  clear hg5
  go_wp2
  go_ret
  exact ⟨rfl, hw5⟩

set_option maxHeartbeats 1600000 in
theorem lawHBack_ff (t i s : Int) (x : Nat) (w : World) (hw : Wid w) (hx : x < 18446744073709551616) (hv : validH t i s = false) (ho : okH x = false) :
    Calls Tryd.prog 5 #[.agg #[.int .i64 t, .int .i64 i, .int .i64 s], .int .u64 x] w fun e w' => e = .returned (.bool true) ∧ Below w.heap.size w w' := by
  have he := Lib.hid (fun w hw => hnenc_any t i s w hw)
  have hd := Lib.hid (fun w hw => hndec_any x w hw hx)
  have hg := Lib.hid (hw.alloc (.cells #[.int .i64 t, .int .i64 i, .int .i64 s] 23))
  obtain ⟨X, hX⟩ : ∃ X : Int, Hid ((x : Int) = X) := ⟨_, rfl⟩
  obtain ⟨e1, e2⟩ := henc_no hv
  rw [e1, e2] at he
  clear e1 e2
  obtain ⟨E, hE, hE0⟩ : ∃ E : Int, Hid (hdE x = E) ∧ (E != 0) = true := by
    refine ⟨_, rfl, ?_⟩
    by_cases h0 : x = 0
    · subst h0; decide
    · rw [(hd_no h0 ho).2.2.2]; decide
  have q : hdT x = 0 ∧ hdI x = 0 ∧ hdS x = 0 := by
    by_cases h0 : x = 0
    · subst h0; decide
    · obtain ⟨q1, q2, q3, -⟩ := hd_no h0 ho; exact ⟨q1, q2, q3⟩
  rw [q.1, q.2.1, q.2.2, hE.out, hX.out] at hd
  rw [hX.out]
  clear q hE
  clear hx hv ho hw
  go_enter Tryd.func5, Tryd.ntmps5
  go_wp2_with fail
  refine (he.out _ hg.out).mono ?_
  rintro e w1 ⟨rfl, hb1⟩
  have hw1 := below_boxed hb1
  have hg1 := Lib.hid (hg.out.keep hb1)
  obtain ⟨c0, c1, c2⟩ := box3 (by simpa using hb1)
  clear he hb1 hg
  go_wp2_with fail
  refine (hd.out _ hg1.out).mono ?_
  rintro e w3 ⟨rfl, hb3⟩
  have hw3 := bthen hw1 hb3
  have hg3 := Lib.hid (hg1.out.keep hb3)
  clear hd hb3 hw1 c0 c1 c2 hg1
  have hg4 := Lib.hid (hg3.out.alloc (.cells #[.int .i64 0, .int .i64 0, .int .i64 0] 23))
  go_wp2_with fail
  refine (awake16 _ hg4.out).mono ?_
  rintro e w5 ⟨rfl, hb5⟩
  have hw5 := bthen hw3 (below_boxed hb5)
  obtain ⟨k0, k1, k2, -, -, -⟩ := (Own3.new w3 (.int .i64 0) (.int .i64 0) (.int .i64 0) 23).keep hb5
  clear hb5 hw3 hg3 hg4
  go_wp2
  go_ret
  exact ⟨rfl, hw5⟩

theorem lawHBack (t i s : Int) (x : Nat) (w : World) (hw : Wid w) (hx : x < 18446744073709551616) :
    Calls Tryd.prog 5 #[.agg #[.int .i64 t, .int .i64 i, .int .i64 s], .int .u64 x] w fun e w' => e = .returned (.bool true) ∧ Below w.heap.size w w' := by
  cases hv : validH t i s <;> cases ho : okH x
  · exact lawHBack_ff t i s x w hw hx hv ho
  · exact lawHBack_ft t i s x w hw hx hv ho
  · exact lawHBack_tf t i s x w hw hx hv ho
  · exact lawHBack_tt t i s x w hw hx hv ho
end Go.Proofs.YtpfbofcofhcfpaaDoor
