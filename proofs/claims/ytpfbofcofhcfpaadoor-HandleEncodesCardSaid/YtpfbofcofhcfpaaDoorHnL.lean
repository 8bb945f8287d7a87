/- The laws of layer 16 walked. -/
import Derived.Test.YtpfbofcofhcfpaaDoorHnS
namespace Go.Proofs.YtpfbofcofhcfpaaDoor
open Go.RowKit

/-- A boxed handle and the table of widths, kept through calls that make memory alone. -/
theorem hn_keep {B : Nat} {w0 w w' : World} {x y z : Value} (h : w.cell? ⟨B, 0, none⟩ = some x ∧ w.cell? ⟨B, 1, none⟩ = some y ∧ w.cell? ⟨B, 2, none⟩ = some z ∧ Wid w ∧ Below w0.heap.size w0 w) (hb : Below w.heap.size w w') :
    w'.cell? ⟨B, 0, none⟩ = some x ∧ w'.cell? ⟨B, 1, none⟩ = some y ∧ w'.cell? ⟨B, 2, none⟩ = some z ∧ Wid w' ∧ Below w0.heap.size w0 w' :=
  ⟨cell_keep hb h.1, cell_keep hb h.2.1, cell_keep hb h.2.2.1, h.2.2.2.1.keep hb, bthen h.2.2.2.2 hb⟩

theorem awake16_held {B : Nat} {x y z : Value} {w0 w : World} (h : w.cell? ⟨B, 0, none⟩ = some x ∧ w.cell? ⟨B, 1, none⟩ = some y ∧ w.cell? ⟨B, 2, none⟩ = some z ∧ Wid w ∧ Below w0.heap.size w0 w) :
    Calls Tryd.prog 9 #[] w fun e w' => e = .returned (.bool true) ∧ Below w.heap.size w w' := awake16 w h.2.2.2.1
theorem hnvalid_held {B : Nat} {x y z : Value} {w0 w : World} (t i s : Int) (h : w.cell? ⟨B, 0, none⟩ = some x ∧ w.cell? ⟨B, 1, none⟩ = some y ∧ w.cell? ⟨B, 2, none⟩ = some z ∧ Wid w ∧ Below w0.heap.size w0 w) :
    Calls Tryd.prog 10 #[.agg #[.int .i64 t, .int .i64 i, .int .i64 s]] w fun e w' => e = .returned (.bool (validH t i s)) ∧ Below w.heap.size w w' := hnvalid_any t i s w h.2.2.2.1

set_option maxHeartbeats 1600000 in
theorem lawHEnc (t i s : Int) (w : World) (hw : Wid w) :
    Calls Tryd.prog 3 #[.agg #[.int .i64 t, .int .i64 i, .int .i64 s]] w fun e w' => e = .returned (.bool true) ∧ Below w.heap.size w w' := by
  have hg := Lib.hid (hw.alloc (.cells #[.int .i64 t, .int .i64 i, .int .i64 s] 23))
  clear hw
  go_enter Tryd.func3, Tryd.ntmps3
  go_wp2_with fail
  refine (hnenc_any t i s _ hg.out).mono ?_
  rintro e w1 ⟨rfl, hb1⟩
  have hw1 := below_boxed hb1
  have hg1 := Lib.hid (hg.out.keep hb1)
  obtain ⟨c0, c1, c2⟩ := box3 (by simpa using hb1)
  clear hg
  go_wp2_with fail
  refine (rhenc_any t i s _).mono ?_
  rintro e w2 ⟨rfl, hb2⟩
  have hw2 := bthen hw1 hb2
  have hg2 := hg1.out.keep hb2
  have d0 := cell_keep hb2 c0
  have d1 := cell_keep hb2 c1
  have d2 := cell_keep hb2 c2
  clear c0 c1 c2 hb1 hb2 hw1 hg1
  go_wp2_with fail
  go_region_held3 (fun w' => w'.cell? ⟨w.heap.size, 0, none⟩ = some (.int .i64 t) ∧ w'.cell? ⟨w.heap.size, 1, none⟩ = some (.int .i64 i) ∧ w'.cell? ⟨w.heap.size, 2, none⟩ = some (.int .i64 s) ∧ Wid w' ∧ Below w.heap.size w w')
    (first | exact ⟨d0, d1, d2, ⟨hg2.g0, hg2.g1, hg2.g2⟩, hw2.drew⟩ | (exact hn_keep ‹_› (Below.drew (Below.refl _ _))) | (exact hn_keep ‹_› hbq))
    (first
      | (go_at_call 9; refine (awake16_held (by assumption)).mono ?_; rintro e w' ⟨rfl, hbq⟩)
      | (go_at_call 10; refine (hnvalid_held t i s (by assumption)).mono ?_; rintro e w' ⟨rfl, hbq⟩)
      | (go_at_call 11; refine (rhvalid_any t i s _).mono ?_; rintro e w' ⟨rfl, hbq⟩))
  rename_i hH
  have hB := hH.2.2.2.2
  go_wp2
  go_ret
  exact ⟨rfl, hB⟩

set_option maxHeartbeats 1600000 in
theorem lawHDec (x : Nat) (w : World) (hw : Wid w) (hx : x < 18446744073709551616) :
    Calls Tryd.prog 4 #[.int .u64 x] w fun e w' => e = .returned (.bool true) ∧ Below w.heap.size w w' := by
  have hd := Lib.hid (fun w hw => hndec_any x w hw hx)
  have hr := Lib.hid (fun w => rhdec_any x w hx)
  obtain ⟨K, hK⟩ : ∃ K, Hid (hdT x = K) := ⟨_, rfl⟩
  obtain ⟨N, hN⟩ : ∃ N, Hid (hdI x = N) := ⟨_, rfl⟩
  obtain ⟨M, hM⟩ : ∃ M, Hid (hdS x = M) := ⟨_, rfl⟩
  obtain ⟨b, hb⟩ : ∃ b, Hid (hdE x = b) := ⟨_, rfl⟩
  obtain ⟨X, hX⟩ : ∃ X : Int, Hid ((x : Int) = X) := ⟨_, rfl⟩
  rw [hK.out, hN.out, hM.out, hb.out, hX.out] at hd hr
  rw [hX.out]
  have hg := Lib.hid hw
  clear hx hw
  go_enter Tryd.func4, Tryd.ntmps4
  go_wp2_with fail
  refine (hd.out _ hg.out).mono ?_
  rintro e w1 ⟨rfl, hb1⟩
  have hg1 := Lib.hid ((hg.out.keep hb1).alloc (.cells #[.int .i64 K, .int .i64 N, .int .i64 M] 23))
  go_wp2_with fail
  refine (hr.out _).mono ?_
  rintro e w2 ⟨rfl, hb2⟩
  have hw2 := bthen hb1 (below_boxed hb2)
  have hg2 := Lib.hid ((hg1.out.keep hb2).alloc (.cells #[.int .i64 K, .int .i64 N, .int .i64 M] 23))
  obtain ⟨c0, c1, c2, -, -, -⟩ := (Own3.new w1 (.int .i64 K) (.int .i64 N) (.int .i64 M) 23).keep hb2
  have l1 : w1.heap.size < w2.heap.size := cell_lt c0
  clear hb1 hb2 hd hr hg hg1
  go_wp2_with fail
  refine (awake16 _ hg2.out).mono ?_
  rintro e w3 ⟨rfl, hb3⟩
  obtain ⟨k0, k1, k2, -, -, -⟩ := (Own3.new w2 (.int .i64 K) (.int .i64 N) (.int .i64 M) 23).keep hb3
  have d0 := cell_keep (below_boxed hb3) c0
  have d1 := cell_keep (below_boxed hb3) c1
  have d2 := cell_keep (below_boxed hb3) c2
  have hw3 := bthen hw2 (below_boxed hb3)
  clear hb3 c0 c1 c2 hw2 hg2
  go_wp2
  go_ret
  exact ⟨rfl, hw3⟩

set_option maxHeartbeats 1600000 in
theorem lawHApart_zero (x : Nat) (w : World) (hw : Wid w) (h : x % 262144 = 0) :
    Calls Tryd.prog 6 #[.int .u64 x] w fun e w' => e = .returned (.bool true) ∧ Below w.heap.size w w' := by
  obtain ⟨X, hX⟩ : ∃ X : Int, Hid ((x : Int) = X) := ⟨_, rfl⟩
  have hr : X % 262144 = 0 := by rw [← hX.out]; omega
  have h0 : 0 ≤ X := by rw [← hX.out]; omega
  have hg := Lib.hid hw
  rw [hX.out]
  clear h hw
  have hd := Lib.hid (hndec_any 0 w hg.out (by omega))
  rw [hd_zero.1, hd_zero.2.1, hd_zero.2.2.1, hd_zero.2.2.2, show ((0 : Nat) : Int) = 0 from rfl] at hd
  go_enter Tryd.func6, Tryd.ntmps6
  go_wp2_with fail
  refine hd.out.mono ?_
  rintro e w1 ⟨rfl, hb1⟩
  have hg1 := Lib.hid ((hg.out.keep hb1).alloc (.cells #[.int .i64 0, .int .i64 0, .int .i64 0] 23))
  clear hd hg
  go_wp2_with fail
  refine (awake16 _ hg1.out).mono ?_
  rintro e w2 ⟨rfl, hb2⟩
  have hB := bthen hb1 (below_boxed hb2)
  clear hb1 hb2 hg1
  go_wp2
  go_ret
  exact ⟨rfl, hB⟩

set_option maxHeartbeats 1600000 in
theorem lawHApart_one (x : Nat) (w : World) (hw : Wid w) (hx : x < 18446744073709551616) (h : ¬ x % 262144 = 0) :
    Calls Tryd.prog 6 #[.int .u64 x] w fun e w' => e = .returned (.bool true) ∧ Below w.heap.size w w' := by
  obtain ⟨X, hX⟩ : ∃ X : Int, Hid ((x : Int) = X) := ⟨_, rfl⟩
  obtain ⟨R, hR⟩ : ∃ R : Int, Hid (((x % 262144 : Nat) : Int) = R) := ⟨_, rfl⟩
  have hr : X % 262144 = R := by rw [← hX.out, ← hR.out]; omega
  have hn : (R == 0) = false := by rw [beq_eq_false_iff_ne, ← hR.out]; omega
  have hn1 : (R != 0) = true := by rw [bne_iff_ne, ← hR.out]; omega
  have h0 : 0 ≤ X := by rw [← hX.out]; omega
  have hg := Lib.hid hw
  have hd := Lib.hid (hndec_any (x % 262144) w hg.out (by omega))
  obtain ⟨e1, e2, e3, e4⟩ := hd_no h (okH_small (x := x % 262144) (by omega))
  rw [e1, e2, e3, e4, hR.out] at hd
  rw [hX.out]
  clear e1 e2 e3 e4 h hx hw
  go_enter Tryd.func6, Tryd.ntmps6
  go_wp2_with fail
  refine hd.out.mono ?_
  rintro e w1 ⟨rfl, hb1⟩
  have hg1 := Lib.hid ((hg.out.keep hb1).alloc (.cells #[.int .i64 0, .int .i64 0, .int .i64 0] 23))
  clear hd hg
  go_wp2_with fail
  refine (awake16 _ hg1.out).mono ?_
  rintro e w2 ⟨rfl, hb2⟩
  have hB := bthen hb1 (below_boxed hb2)
  clear hb1 hb2 hg1
  go_wp2
  go_ret
  exact ⟨rfl, hB⟩
theorem lawHApart (x : Nat) (w : World) (hw : Wid w) (hx : x < 18446744073709551616) :
    Calls Tryd.prog 6 #[.int .u64 x] w fun e w' => e = .returned (.bool true) ∧ Below w.heap.size w w' := by
  by_cases h : x % 262144 = 0
  · exact lawHApart_zero x w hw h
  · exact lawHApart_one x w hw hx h
end Go.Proofs.YtpfbofcofhcfpaaDoor
