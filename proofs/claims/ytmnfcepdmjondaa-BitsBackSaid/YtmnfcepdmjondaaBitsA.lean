/- Contracts of bits.Ones, inWord and their references. -/
import Derived.Test.YtmnfcepdmjondaaRows
import Derived.Test.YtmnfcepdmjondaaBitsM
import Derived.WalkKit
import Derived.WalkSpells
import Derived.WalkLawsBesides
import Derived.Lib.Hide
import Derived.Deep.QuietTactic
import Derived.BigQuiet
namespace Go.Proofs.Ytmnfcepdmjondaa
open Go.RowKit

theorem ret_u64 {a b : Int} (h : a = b) : Ending.returned (.int .u64 a) = .returned (.int .u64 b) := by rw [h]

set_option maxHeartbeats 400000 in
theorem ones_any (n : Int) (w : World) :
    Calls Try.prog 10 #[.int .i64 n] w fun e w' => e = .returned (.int .u64 (onesV n)) ∧ w = w' := by
  by_cases h : n < 0
  · have e := onesV_neg n h
    have e := Lib.hid e
    go_enter Try.func10, Try.ntmps10
    go_wp2
    go_ret
    exact ⟨ret_u64 (by rw [e.out]), rfl⟩
  · have e := onesV_wrap n
    have e := Lib.hid e
    go_enter Try.func10, Try.ntmps10
    go_wp2
    go_ret
    exact ⟨ret_u64 (by rw [← e.out]), rfl⟩

theorem ones_end (n : Int) (k : Nat) (hk : (k : Int) ≤ n ∨ k = 0) (hk2 : k ≤ 64) (h : ¬ ((k : Int) < n ∧ k < 64)) : (2 : Int) ^ k - 1 = onesV n := by
  unfold onesV
  have : min n.toNat 64 = k := by omega
  rw [this]

set_option maxHeartbeats 400000 in
theorem refOnes_any (n : Int) (w : World) :
    Calls Try.prog 11 #[.int .i64 n] w fun e w' => e = .returned (.int .u64 (onesV n)) ∧ w = w' := by
  go_enter Try.func11, Try.ntmps11
  go_wp2
  go_loop [3, 4] (fun s i => ∃ k : Nat, ((k : Int) ≤ n ∨ k = 0) ∧ k ≤ 64 ∧ i = .int .i64 k ∧ s = .int .u64 (2 ^ k - 1)) (fun _ i => 64 - (intOf i).toNat)
  case atStart => exact ⟨0, Or.inr rfl, by omega, rfl, rfl⟩
  case round =>
    obtain ⟨k, hk, hk2, rfl, rfl⟩ := hrel
    by_cases hlt : (k : Int) < n ∧ k < 64
    · obtain ⟨h1, h2⟩ := hlt
      have p1 := ipow_lt64 k h2
      have p2 := ipow_pos2 k
      have h3 : (k : Int) < 64 := by omega
      go_wp2
      go_round
      case rel => exact ⟨k + 1, by omega, by omega, by go_num, by rw [Int.pow_succ]; congr 1; omega⟩
      case measure => simp [intOf]; omega
    · have e := Lib.hid (ones_end n k hk hk2 hlt)
      by_cases h1 : (k : Int) < n
      · have h3 : ¬ ((k : Int) < 64) := by omega
        clear hlt
        go_wp2
        go_ret
        exact ⟨ret_u64 e.out, rfl⟩
      · clear hlt
        go_wp2
        go_ret
        exact ⟨ret_u64 e.out, rfl⟩

set_option maxHeartbeats 400000 in
theorem inWord_any (a n : Int) (w : World) (ha : a ≤ 9223372036854775807) :
    Calls Try.prog 22 #[.int .i64 a, .int .i64 n] w fun e w' => e = .returned (.bool (inW a n)) ∧ w = w' := by
  by_cases h1 : 0 ≤ a
  · by_cases h2 : 0 ≤ n
    · go_enter Try.func22, Try.ntmps22
      go_wp2
      go_ret
      exact ⟨by simp [inW, h1, h2], rfl⟩
    · go_enter Try.func22, Try.ntmps22
      go_wp2
      go_ret
      exact ⟨by simp [inW, h1]; omega, rfl⟩
  · go_enter Try.func22, Try.ntmps22
    go_wp2
    go_ret
    exact ⟨by simp [inW]; omega, rfl⟩

set_option maxHeartbeats 400000 in
theorem may_any (a n : Int) (w : World) :
    Calls Try.prog 23 #[.int .i64 a, .int .i64 n] w fun e w' => e = .returned (.bool (inW a n)) ∧ w = w' := by
  by_cases h1 : 0 ≤ a
  · by_cases h2 : 0 ≤ n
    · by_cases h3 : a ≤ 64
      · go_enter Try.func23, Try.ntmps23
        go_wp2
        go_ret
        exact ⟨by simp [inW, h1, h2], rfl⟩
      · go_enter Try.func23, Try.ntmps23
        go_wp2
        go_ret
        exact ⟨by simp [inW, h1, h2]; omega, rfl⟩
    · go_enter Try.func23, Try.ntmps23
      go_wp2
      go_ret
      exact ⟨by simp [inW, h1]; omega, rfl⟩
  · go_enter Try.func23, Try.ntmps23
    go_wp2
    go_ret
    exact ⟨by simp [inW]; omega, rfl⟩

theorem ret_u64e {a b : Int} {e : Int} (h : a = b) : Ending.returned (.tuple #[.int .u64 a, .int .i64 e]) = .returned (.tuple #[.int .u64 b, .int .i64 e]) := by rw [h]

set_option maxHeartbeats 400000 in
theorem get_ok (x : Nat) (a n : Int) (w : World) (hx : x < 18446744073709551616) (h : inW a n = true) :
    Calls Try.prog 12 #[.int .u64 x, .int .i64 a, .int .i64 n] w fun e w' => e = .returned (.tuple #[.int .u64 ((x >>> a.toNat &&& onesN n : Nat) : Int), .int .i64 0]) ∧ ∃ m, w' = w.drewN m := by
  obtain ⟨h1, h2, h3⟩ := inW_true h
  have hs := Lib.hid (get_spell x a.toNat n hx)
  go_enter Try.func12, Try.ntmps12
  go_wp2_with (go_at_call 22; refine (inWord_any _ _ _ (by omega)).mono ?_; rintro e w' ⟨rfl, rfl⟩)
  go_quiet ((go_at_call 10; exact Calls.quiet_of_same ((ones_any _ _).mono fun e w' h => ⟨h.1, h.2.symm⟩)))
  go_wp2
  go_ret2
  exact ⟨ret_u64e hs.out, nq, rfl⟩

set_option maxHeartbeats 400000 in
theorem get_no (x : Nat) (a n : Int) (w : World) (ha : a ≤ 9223372036854775807) (h : inW a n = false) :
    Calls Try.prog 12 #[.int .u64 x, .int .i64 a, .int .i64 n] w fun e w' => e = .returned (.tuple #[.int .u64 0, .int .i64 1]) ∧ w = w' := by
  go_enter Try.func12, Try.ntmps12
  go_wp2_with (go_at_call 22; refine (inWord_any _ _ _ (by omega)).mono ?_; rintro e w' ⟨rfl, rfl⟩)
  go_ret2
  exact ⟨rfl, rfl⟩

set_option maxHeartbeats 400000 in
theorem refGet_ok (x : Nat) (a n : Int) (w : World) (hx : x < 18446744073709551616) (h : inW a n = true) :
    Calls Try.prog 13 #[.int .u64 x, .int .i64 a, .int .i64 n] w fun e w' => e = .returned (.tuple #[.int .u64 ((x >>> a.toNat &&& onesN n : Nat) : Int), .int .i64 0]) ∧ w = w' := by
  obtain ⟨h1, h2, h3⟩ := inW_true h
  have hs := Lib.hid (get_spell x a.toNat n hx)
  go_enter Try.func13, Try.ntmps13
  go_wp2_with (first | (go_at_call 23; refine (may_any _ _ _).mono ?_; rintro e w' ⟨rfl, rfl⟩) | (go_at_call 11; refine (refOnes_any _ _).mono ?_; rintro e w' ⟨rfl, rfl⟩))
  go_ret2
  exact ⟨ret_u64e hs.out, rfl⟩

set_option maxHeartbeats 400000 in
theorem refGet_no (x : Nat) (a n : Int) (w : World) (h : inW a n = false) :
    Calls Try.prog 13 #[.int .u64 x, .int .i64 a, .int .i64 n] w fun e w' => e = .returned (.tuple #[.int .u64 0, .int .i64 1]) ∧ w = w' := by
  go_enter Try.func13, Try.ntmps13
  go_wp2_with (go_at_call 23; refine (may_any _ _ _).mono ?_; rintro e w' ⟨rfl, rfl⟩)
  go_ret2
  exact ⟨rfl, rfl⟩

set_option maxHeartbeats 400000 in
theorem set_ok (x : Nat) (a n : Int) (v : Nat) (w : World) (hx : x < 18446744073709551616) (h : inW a n = true) (hv : (v : Int) ≤ onesV n) :
    Calls Try.prog 14 #[.int .u64 x, .int .i64 a, .int .i64 n, .int .u64 v] w fun e w' => e = .returned (.tuple #[.int .u64 ((setN x a n v : Nat) : Int), .int .i64 0]) ∧ ∃ m, w' = w.drewN m := by
  obtain ⟨h1, h2, h3⟩ := inW_true h
  have hs := Lib.hid (set_spell x a n v hx h hv)
  go_enter Try.func14, Try.ntmps14
  go_wp2_with (first | (go_at_call 22; refine (inWord_any _ _ _ (by omega)).mono ?_; rintro e w' ⟨rfl, rfl⟩) | (go_at_call 10; refine (ones_any _ _).mono ?_; rintro e w' ⟨rfl, rfl⟩))
  go_quiet ((go_at_call 10; exact Calls.quiet_of_same ((ones_any _ _).mono fun e w' h => ⟨h.1, h.2.symm⟩)))
  go_wp2
  go_ret2
  exact ⟨ret_u64e hs.out, nq, rfl⟩

set_option maxHeartbeats 400000 in
theorem set_range (x : Nat) (a n : Int) (v : Nat) (w : World) (h : inW a n = true) (hv : ¬ (v : Int) ≤ onesV n) :
    Calls Try.prog 14 #[.int .u64 x, .int .i64 a, .int .i64 n, .int .u64 v] w fun e w' => e = .returned (.tuple #[.int .u64 0, .int .i64 2]) ∧ w = w' := by
  obtain ⟨h1, h2, h3⟩ := inW_true h
  go_enter Try.func14, Try.ntmps14
  go_wp2_with (first | (go_at_call 22; refine (inWord_any _ _ _ (by omega)).mono ?_; rintro e w' ⟨rfl, rfl⟩) | (go_at_call 10; refine (ones_any _ _).mono ?_; rintro e w' ⟨rfl, rfl⟩))
  go_ret2
  exact ⟨rfl, rfl⟩

set_option maxHeartbeats 400000 in
theorem set_no (x : Nat) (a n : Int) (v : Nat) (w : World) (ha : a ≤ 9223372036854775807) (h : inW a n = false) :
    Calls Try.prog 14 #[.int .u64 x, .int .i64 a, .int .i64 n, .int .u64 v] w fun e w' => e = .returned (.tuple #[.int .u64 0, .int .i64 1]) ∧ w = w' := by
  go_enter Try.func14, Try.ntmps14
  go_wp2_with (go_at_call 22; refine (inWord_any _ _ _ (by omega)).mono ?_; rintro e w' ⟨rfl, rfl⟩)
  go_ret2
  exact ⟨rfl, rfl⟩

set_option maxHeartbeats 400000 in
theorem refSet_ok (x : Nat) (a n : Int) (v : Nat) (w : World) (hv0 : v < 18446744073709551616) (hx : x < 18446744073709551616) (h : inW a n = true) (hv : (v : Int) ≤ onesV n) :
    Calls Try.prog 15 #[.int .u64 x, .int .i64 a, .int .i64 n, .int .u64 v] w fun e w' => e = .returned (.tuple #[.int .u64 ((setN x a n v : Nat) : Int), .int .i64 0]) ∧ w = w' := by
  obtain ⟨h1, h2, h3⟩ := inW_true h
  have hs := Lib.hid (set_spell x a n v hx h hv)
  have ht := and_test_fits hv0 hv
  clear hv
  go_enter Try.func15, Try.ntmps15
  go_wp2_with (first | (go_at_call 23; refine (may_any _ _ _).mono ?_; rintro e w' ⟨rfl, rfl⟩) | (go_at_call 11; refine (refOnes_any _ _).mono ?_; rintro e w' ⟨rfl, rfl⟩))
  go_ret2
  exact ⟨ret_u64e hs.out, rfl⟩

set_option maxHeartbeats 400000 in
theorem refSet_range (x : Nat) (a n : Int) (v : Nat) (w : World) (h : inW a n = true) (hv0 : v < 18446744073709551616) (hv : ¬ (v : Int) ≤ onesV n) :
    Calls Try.prog 15 #[.int .u64 x, .int .i64 a, .int .i64 n, .int .u64 v] w fun e w' => e = .returned (.tuple #[.int .u64 0, .int .i64 2]) ∧ w = w' := by
  obtain ⟨h1, h2, h3⟩ := inW_true h
  have ht := and_test_not hv0 hv
  clear hv
  go_enter Try.func15, Try.ntmps15
  go_wp2_with (first | (go_at_call 23; refine (may_any _ _ _).mono ?_; rintro e w' ⟨rfl, rfl⟩) | (go_at_call 11; refine (refOnes_any _ _).mono ?_; rintro e w' ⟨rfl, rfl⟩))
  go_ret2
  exact ⟨rfl, rfl⟩

set_option maxHeartbeats 400000 in
theorem refSet_no (x : Nat) (a n : Int) (v : Nat) (w : World) (h : inW a n = false) :
    Calls Try.prog 15 #[.int .u64 x, .int .i64 a, .int .i64 n, .int .u64 v] w fun e w' => e = .returned (.tuple #[.int .u64 0, .int .i64 1]) ∧ w = w' := by
  go_enter Try.func15, Try.ntmps15
  go_wp2_with (go_at_call 23; refine (may_any _ _ _).mono ?_; rintro e w' ⟨rfl, rfl⟩)
  go_ret2
  exact ⟨rfl, rfl⟩

end Go.Proofs.Ytmnfcepdmjondaa
