/- The laws of layer 3 walked: HeaderEncodes. -/
import Derived.Test.YtckecbaepnmoaaaHeadW
import Derived.Test.YtckecbaepnmoaaaSameI
namespace Go.Proofs.Ytckecbaepnmoaaa
open Go.RowKit

set_option maxHeartbeats 800000 in
theorem awake_any (w : World) :
    Calls Try.prog 11 #[] w fun e w' => e = .returned (.bool true) ∧ Below w.heap.size w w' := by
  have hc := Lib.hid (encode_any 1 2 2 w (by omega) (by omega))
  rw [show encV 1 2 2 = 131109 from by decide, show encE 1 2 2 = 0 from by decide] at hc
  go_enter Try.func11, Try.ntmps11
  go_wp2_with fail
  refine hc.out.mono ?_
  rintro e w' ⟨rfl, hb⟩
  clear hc
  go_wp2
  go_ret
  exact ⟨rfl, hb⟩

/-- A boxed struct, kept through calls that make memory alone. -/
theorem held_keep {B : Nat} {w0 w w' : World} {x y z : Value} (h : w.cell? ⟨B, 0, none⟩ = some x ∧ w.cell? ⟨B, 1, none⟩ = some y ∧ w.cell? ⟨B, 2, none⟩ = some z ∧ Below w0.heap.size w0 w) (hb : Below w.heap.size w w') :
    w'.cell? ⟨B, 0, none⟩ = some x ∧ w'.cell? ⟨B, 1, none⟩ = some y ∧ w'.cell? ⟨B, 2, none⟩ = some z ∧ Below w0.heap.size w0 w' :=
  ⟨cell_keep hb h.1, cell_keep hb h.2.1, cell_keep hb h.2.2.1, bthen h.2.2.2 hb⟩

set_option maxHeartbeats 1600000 in
theorem lawEncodes (k n m : Int) (w : World) (hm0 : 0 ≤ m) (hm : m < 4294967296) :
    Calls Try.prog 3 #[.agg #[.int .i64 k, .int .i64 n, .int .u32 m]] w fun e w' => e = .returned (.bool true) ∧ Below w.heap.size w w' := by
  have Hm := Lib.hid (And.intro hm0 hm)
  clear hm0 hm
  go_enter Try.func3, Try.ntmps3
  go_wp2_with fail
  refine (encode_any k n m _ Hm.out.1 Hm.out.2).mono ?_
  rintro e w1 ⟨rfl, hb1⟩
  have hw1 := below_boxed hb1
  obtain ⟨c0, c1, c2⟩ := box3 (by simpa using hb1)
  go_wp2_with fail
  refine (refEncode_any k n m _ Hm.out.1 Hm.out.2).mono ?_
  rintro e w2 ⟨rfl, hb2⟩
  have hw2 := bthen hw1 hb2
  have d0 := cell_keep hb2 c0
  have d1 := cell_keep hb2 c1
  have d2 := cell_keep hb2 c2
  clear c0 c1 c2 hb1 hb2 hw1
  go_wp2_with fail
  go_region_held3 (fun w' => w'.cell? ⟨w.heap.size, 0, none⟩ = some (.int .i64 k) ∧ w'.cell? ⟨w.heap.size, 1, none⟩ = some (.int .i64 n) ∧ w'.cell? ⟨w.heap.size, 2, none⟩ = some (.int .u32 m) ∧ Below w.heap.size w w')
    (first | exact ⟨d0, d1, d2, hw2.drew⟩ | (exact held_keep ‹_› (Below.drew (Below.refl _ _))) | (exact held_keep ‹_› hbq))
    (first
      | (go_at_call 11; refine (awake_any _).mono ?_; rintro e w' ⟨rfl, hbq⟩)
      | (go_at_call 12; refine (valid_any k n m _ Hm.out.1 Hm.out.2).mono ?_; rintro e w' ⟨rfl, hbq⟩)
      | (go_at_call 13; refine (refValid_any k n m _ Hm.out.1 Hm.out.2).mono ?_; rintro e w' ⟨rfl, hbq⟩))
  rename_i hH
  have hB := hH.2.2.2
  go_wp2
  go_ret
  exact ⟨rfl, hB⟩

set_option maxHeartbeats 1600000 in
theorem lawDecodes (x : Nat) (w : World) (hx : x < 18446744073709551616) :
    Calls Try.prog 4 #[.int .u64 x] w fun e w' => e = .returned (.bool true) ∧ Below w.heap.size w w' := by
  have hd := Lib.hid (fun w => decode_any x w hx)
  have hr := Lib.hid (fun w => refDecode_any x w hx)
  obtain ⟨K, hK⟩ : ∃ K, Hid (decK x = K) := ⟨_, rfl⟩
  obtain ⟨N, hN⟩ : ∃ N, Hid (decN x = N) := ⟨_, rfl⟩
  obtain ⟨M, hM⟩ : ∃ M, Hid (decM x = M) := ⟨_, rfl⟩
  obtain ⟨b, hb⟩ : ∃ b, Hid (okD x = b) := ⟨_, rfl⟩
  obtain ⟨X, hX⟩ : ∃ X : Int, Hid ((x : Int) = X) := ⟨_, rfl⟩
  rw [hK.out, hN.out, hM.out, hb.out, hX.out] at hd hr
  rw [hX.out]
  clear hx
  go_enter Try.func4, Try.ntmps4
  go_wp2_with fail
  refine (hd.out _).mono ?_
  rintro e w1 ⟨rfl, hb1⟩
  go_wp2_with fail
  refine (hr.out _).mono ?_
  rintro e w2 ⟨rfl, hb2⟩
  have hw2 := bthen hb1 (below_boxed hb2)
  obtain ⟨c0, c1, c2, -, -, -⟩ := (Own3.new w1 (.int .i64 K) (.int .i64 N) (.int .u32 M) 24).keep hb2
  have l1 : w1.heap.size < w2.heap.size := cell_lt c0
  clear hb1 hb2 hd hr
  go_wp2_with fail
  refine (awake_any _).mono ?_
  rintro e w3 ⟨rfl, hb3⟩
  obtain ⟨k0, k1, k2, -, -, -⟩ := (Own3.new w2 (.int .i64 K) (.int .i64 N) (.int .u32 M) 24).keep hb3
  have d0 := cell_keep (below_boxed hb3) c0
  have d1 := cell_keep (below_boxed hb3) c1
  have d2 := cell_keep (below_boxed hb3) c2
  have hw3 := bthen hw2 (below_boxed hb3)
  clear hb3 c0 c1 c2 hw2
  go_wp2
  go_ret
  exact ⟨rfl, hw3⟩

set_option maxHeartbeats 1600000 in
theorem lawForwards (a x : Nat) (w : World) (ha : a < 18446744073709551616) (hx : x < 18446744073709551616) :
    Calls Try.prog 6 #[.int .u64 a, .int .u64 x] w fun e w' => e = .returned (.bool true) ∧ Below w.heap.size w w' := by
  have hf := Lib.hid (fun w => forward_any a w (by omega))
  have hrf := Lib.hid (fun w => refForward_any a w (by omega))
  have ht := Lib.hid (fun w => target_any x w hx)
  have hrt := Lib.hid (fun w => refTarget_any x w hx)
  obtain ⟨A, hA⟩ : ∃ A : Int, Hid ((a : Int) = A) := ⟨_, rfl⟩
  obtain ⟨X, hX⟩ : ∃ X : Int, Hid ((x : Int) = X) := ⟨_, rfl⟩
  obtain ⟨T, hT⟩ : ∃ T, Hid (tgtV x = T) := ⟨_, rfl⟩
  obtain ⟨b, hb⟩ : ∃ b, Hid (okT x = b) := ⟨_, rfl⟩
  rw [hX.out, hT.out, hb.out] at ht hrt
  by_cases h : (a : Int) < 4294967296
  · obtain ⟨e1, e2⟩ := fwd_ok h
    rw [e1, e2] at hf hrf
    have h2 : okT (4 * a + 2) = true := okT_mk (by omega) (by omega)
    have hback := Lib.hid (fun w => target_any (4 * a + 2) w (by omega))
    rw [tgt_ok h2, h2, show (4 * a + 2) / 4 = a from by omega, show ((4 * a + 2 : Nat) : Int) = 4 * (a : Int) + 2 from by omega] at hback
    rw [hA.out] at hf hrf hback
    obtain ⟨V, hV⟩ : ∃ V : Int, Hid (4 * A + 2 = V) := ⟨_, rfl⟩
    rw [hV.out] at hf hrf hback
    rw [hA.out, hX.out]
    clear e1 e2 h h2 ha hx
    go_enter Try.func6, Try.ntmps6
    go_wp2_with fail
    refine (hf.out _).mono ?_
    rintro e w1 ⟨rfl, hb1⟩
    go_wp2_with fail
    refine (hrf.out _).mono ?_
    rintro e w' ⟨rfl, rfl⟩
    go_wp2_with fail
    refine (ht.out _).mono ?_
    rintro e w2 ⟨rfl, hb2⟩
    go_wp2_with fail
    refine (hrt.out _).mono ?_
    rintro e w' ⟨rfl, rfl⟩
    clear hf hrf ht hrt
    go_wp2_with fail
    refine (hback.out _).mono ?_
    rintro e w3 ⟨rfl, hb3⟩
    go_wp2_with fail
    refine (awake_any _).mono ?_
    rintro e w4 ⟨rfl, hb4⟩
    go_wp2
    go_ret
    exact ⟨rfl, bthen (bthen (bthen hb1 hb2) hb3) hb4⟩
  · obtain ⟨e1, e2⟩ := fwd_no h
    rw [e1, e2] at hf hrf
    rw [hA.out] at hf hrf
    rw [hA.out, hX.out]
    clear e1 e2 h ha hx
    go_enter Try.func6, Try.ntmps6
    go_wp2_with fail
    refine (hf.out _).mono ?_
    rintro e w1 ⟨rfl, hb1⟩
    go_wp2_with fail
    refine (hrf.out _).mono ?_
    rintro e w' ⟨rfl, rfl⟩
    go_wp2_with fail
    refine (ht.out _).mono ?_
    rintro e w2 ⟨rfl, hb2⟩
    go_wp2_with fail
    refine (hrt.out _).mono ?_
    rintro e w' ⟨rfl, rfl⟩
    clear hf hrf ht hrt
    go_wp2_with fail
    refine (awake_any _).mono ?_
    rintro e w4 ⟨rfl, hb4⟩
    go_wp2
    go_ret
    exact ⟨rfl, bthen (bthen hb1 hb2) hb4⟩

set_option maxHeartbeats 1600000 in
theorem lawApart (x : Nat) (w : World) (hx : x < 18446744073709551616) :
    Calls Try.prog 7 #[.int .u64 x] w fun e w' => e = .returned (.bool true) ∧ Below w.heap.size w w' := by
  have hd := Lib.hid (fun w => decode_any x w hx)
  have ht := Lib.hid (fun w => target_any x w hx)
  have hd0 := Lib.hid (fun w => decode_any 0 w (by omega))
  have ht0 := Lib.hid (fun w => target_any 0 w (by omega))
  rw [show okD 0 = false from by decide, show decK 0 = 0 from by decide, show decN 0 = 0 from by decide, show decM 0 = 0 from by decide, show ((0 : Nat) : Int) = 0 from rfl] at hd0
  rw [show okT 0 = false from by decide, show tgtV 0 = 0 from by decide, show ((0 : Nat) : Int) = 0 from rfl] at ht0
  have hap := apart x
  obtain ⟨K, hK⟩ : ∃ K, Hid (decK x = K) := ⟨_, rfl⟩
  obtain ⟨N, hN⟩ : ∃ N, Hid (decN x = N) := ⟨_, rfl⟩
  obtain ⟨M, hM⟩ : ∃ M, Hid (decM x = M) := ⟨_, rfl⟩
  obtain ⟨b, hb⟩ : ∃ b, Hid (okD x = b) := ⟨_, rfl⟩
  obtain ⟨c, hc⟩ : ∃ c, Hid (okT x = c) := ⟨_, rfl⟩
  obtain ⟨T, hT⟩ : ∃ T, Hid (tgtV x = T) := ⟨_, rfl⟩
  obtain ⟨X, hX⟩ : ∃ X : Int, Hid ((x : Int) = X) := ⟨_, rfl⟩
  rw [hK.out, hN.out, hM.out, hb.out, hX.out] at hd
  rw [hT.out, hc.out, hX.out] at ht
  rw [hb.out, hc.out] at hap
  rw [hX.out]
  have hbc : (b = true ∧ c = false) ∨ (b = false ∧ c = true) ∨ (b = false ∧ c = false) := by cases b <;> cases c <;> simp at hap ⊢
  clear hx hap hb hc
  rcases hbc with ⟨rfl, rfl⟩ | ⟨rfl, rfl⟩ | ⟨rfl, rfl⟩
  all_goals
    go_enter Try.func7, Try.ntmps7
    go_wp2_with fail
    refine (hd.out _).mono ?_
    rintro e w1 ⟨rfl, hb1⟩
    go_wp2_with fail
    refine (ht.out _).mono ?_
    rintro e w2 ⟨rfl, hb2⟩
    have hw2 := bthen hb1 (below_boxed hb2)
    clear hd ht hb1 hb2
    go_wp2_with fail
    refine (hd0.out _).mono ?_
    rintro e w3 ⟨rfl, hb3⟩
    go_wp2_with fail
    refine (ht0.out _).mono ?_
    rintro e w4 ⟨rfl, hb4⟩
    have hw4 := bthen (bthen hw2 hb3) (below_boxed hb4)
    clear hd0 ht0 hb3 hb4 hw2
    go_wp2_with fail
    refine (awake_any _).mono ?_
    rintro e w5 ⟨rfl, hb5⟩
    go_wp2
    go_ret
    exact ⟨rfl, bthen hw4 hb5⟩
end Go.Proofs.Ytckecbaepnmoaaa
