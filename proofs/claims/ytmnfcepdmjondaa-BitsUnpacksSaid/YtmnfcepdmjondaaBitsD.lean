/- The sanity check 'awake', and the laws of Ones, Get and Set walked. -/
import Derived.Test.YtmnfcepdmjondaaBitsC
namespace Go.Proofs.Ytmnfcepdmjondaa
open Go.RowKit

theorem awake_fs : packB [(4, 9), (8, 1)] = (25, 0) := by
  simp [packB, fitL, okF, onesV, packR]

set_option maxHeartbeats 400000 in
theorem awake_any (w : World) :
    Calls Try.prog 9 #[] w fun e w' => e = .returned (.bool true) ∧ Below w.heap.size w w' := by
  have hp := Lib.hid (pack_any (some ⟨w.heap.size, 0, none⟩) 2 2 [(4, 9), (8, 1)] (w.alloc (.cells #[.int .i64 4, .int .u64 9, .int .i64 8, .int .u64 1] 47)) rfl (by omega) (by
    intro i x hx
    refine ⟨w.heap.size, 0, rfl, ?_⟩
    match i with
    | 0 => simp at hx; subst hx; simp
    | 1 => simp at hx; subst hx; simp
    | n + 2 => simp at hx))
  rw [awake_fs] at hp
  go_enter Try.func9, Try.ntmps9
  go_wp2_with (refine hp.out.mono ?_; rintro e w' ⟨rfl, hb⟩)
  go_ret
  exact ⟨rfl, (((Below.refl _ _).alloc (Nat.le_refl _) _).trans (hb.mono (by simp)))⟩

set_option maxHeartbeats 400000 in
theorem lawOnes (n : Int) (w : World) :
    Calls Try.prog 3 #[.int .i64 n] w fun e w' => e = .returned (.bool true) ∧ Below w.heap.size w w' := by
  go_enter Try.func3, Try.ntmps3
  go_wp2_with (first | (go_at_call 9; refine (awake_any _).mono ?_; rintro e w' ⟨rfl, hb⟩) | (go_at_call 10; refine (ones_any _ _).mono ?_; rintro e w' ⟨rfl, rfl⟩) | (go_at_call 11; refine (refOnes_any _ _).mono ?_; rintro e w' ⟨rfl, rfl⟩))
  go_ret
  exact ⟨rfl, by assumption⟩

set_option maxHeartbeats 1000000 in
theorem lawGets (x v : Nat) (a n : Int) (w : World) (hx : x < 18446744073709551616) (hv : v < 18446744073709551616) (ha : a ≤ 9223372036854775807) :
    Calls Try.prog 4 #[.int .u64 x, .int .u64 v, .int .i64 a, .int .i64 n] w fun e w' => e = .returned (.bool true) ∧ Below w.heap.size w w' := by
  by_cases h : inW a n = true
  · by_cases hf : (v : Int) ≤ onesV n
    · go_enter Try.func4, Try.ntmps4
      go_wp2_with (first | (go_at_call 9; refine (awake_any _).mono ?_; rintro e w' ⟨rfl, hb⟩) | (go_at_call 12; refine (get_ok _ _ _ _ hx h).mono ?_; rintro e w' ⟨rfl, m, rfl⟩) | (go_at_call 13; refine (refGet_ok _ _ _ _ hx h).mono ?_; rintro e w' ⟨rfl, rfl⟩) | (go_at_call 14; refine (set_ok _ _ _ _ _ hx h hf).mono ?_; rintro e w' ⟨rfl, m2, rfl⟩) | (go_at_call 15; refine (refSet_ok _ _ _ _ _ hv hx h hf).mono ?_; rintro e w' ⟨rfl, rfl⟩))
      go_ret
      exact ⟨rfl, (below_drewN (Below.refl _ _) _).trans (by assumption)⟩
    · have Hf := Lib.hid (Int.not_le.1 hf)
      clear hf
      go_enter Try.func4, Try.ntmps4
      go_wp2_with (first | (go_at_call 9; refine (awake_any _).mono ?_; rintro e w' ⟨rfl, hb⟩) | (go_at_call 12; refine (get_ok _ _ _ _ hx h).mono ?_; rintro e w' ⟨rfl, m, rfl⟩) | (go_at_call 13; refine (refGet_ok _ _ _ _ hx h).mono ?_; rintro e w' ⟨rfl, rfl⟩) | (go_at_call 14; refine (set_range _ _ _ _ _ h (Int.not_le.2 Hf.out)).mono ?_; rintro e w' ⟨rfl, rfl⟩) | (go_at_call 15; refine (refSet_range _ _ _ _ _ h hv (Int.not_le.2 Hf.out)).mono ?_; rintro e w' ⟨rfl, rfl⟩))
      go_ret
      exact ⟨rfl, (below_drewN (Below.refl _ _) _).trans (by assumption)⟩
  · have h : inW a n = false := by simpa using h
    go_enter Try.func4, Try.ntmps4
    go_wp2_with (first | (go_at_call 9; refine (awake_any _).mono ?_; rintro e w' ⟨rfl, hb⟩) | (go_at_call 12; refine (get_no _ _ _ _ ha h).mono ?_; rintro e w' ⟨rfl, rfl⟩) | (go_at_call 13; refine (refGet_no _ _ _ _ h).mono ?_; rintro e w' ⟨rfl, rfl⟩) | (go_at_call 14; refine (set_no _ _ _ _ _ ha h).mono ?_; rintro e w' ⟨rfl, rfl⟩) | (go_at_call 15; refine (refSet_no _ _ _ _ _ h).mono ?_; rintro e w' ⟨rfl, rfl⟩))
    go_ret
    exact ⟨rfl, by assumption⟩

set_option maxHeartbeats 1000000 in
theorem lawKeeps_ok (x v : Nat) (a n o : Int) (w : World) (hx : x < 18446744073709551616) (h : inW a n = true) (hf : (v : Int) ≤ onesV n) :
    Calls Try.prog 5 #[.int .u64 x, .int .u64 v, .int .i64 a, .int .i64 n, .int .i64 o] w fun e w' => e = .returned (.bool true) ∧ Below w.heap.size w w' := by
  have hs : setN x a n v < 18446744073709551616 := setN_lt hx h hf
  obtain ⟨h1, h2, h3⟩ := inW_true h
  have hg : (((setN x a n v >>> a.toNat &&& onesN n : Nat) : Int) != (v : Int)) = false := by rw [set_get h hf]; simp
  have ho1 : -64 < o.tmod 64 := Int.lt_tmod_of_pos o (by decide)
  have ho2 : o.tmod 64 < 64 := Int.tmod_lt_of_pos o (by decide)
  have Hf := Lib.hid (fun w => set_ok x a n v w hx h hf)
  have Hg := Lib.hid (fun w => get_ok (setN x a n v) a n w hs h)
  have Hk := Lib.hid (set_keep (x := x) h hf)
  clear hf
  go_enter Try.func5, Try.ntmps5
  go_wp2_with (first | (go_at_call 9; refine (awake_any _).mono ?_; rintro e w' ⟨rfl, hb⟩) | (go_at_call 12; refine (Hg.out _).mono ?_; rintro e w' ⟨rfl, m, rfl⟩) | (go_at_call 14; refine (Hf.out _).mono ?_; rintro e w' ⟨rfl, m2, rfl⟩))
  all_goals go_ret
  all_goals first
    | exact ⟨rfl, (below_drewN (Below.refl _ _) _).trans hb⟩
    | exact ⟨ret_bool (by rw [bit_spell _ _ hs, bit_spell _ _ hx, Hk.out _ (by omega) (by omega)]; simp), (below_drewN (Below.refl _ _) _).trans hb⟩

set_option maxHeartbeats 1000000 in
theorem lawKeeps_no (x v : Nat) (a n o : Int) (w : World) (ha : a ≤ 9223372036854775807) (h : ¬ (inW a n = true ∧ (v : Int) ≤ onesV n)) :
    Calls Try.prog 5 #[.int .u64 x, .int .u64 v, .int .i64 a, .int .i64 n, .int .i64 o] w fun e w' => e = .returned (.bool true) ∧ Below w.heap.size w w' := by
  by_cases hw : inW a n = true
  · have Hf := Lib.hid (fun w => set_range x a n v w hw (fun hf => h ⟨hw, hf⟩))
    clear h hw
    go_enter Try.func5, Try.ntmps5
    go_wp2_with (first | (go_at_call 9; refine (awake_any _).mono ?_; rintro e w' ⟨rfl, hb⟩) | (go_at_call 14; refine (Hf.out _).mono ?_; rintro e w' ⟨rfl, rfl⟩))
    go_ret
    exact ⟨rfl, by assumption⟩
  · have Hf := Lib.hid (fun w => set_no x a n v w ha (by simpa using hw))
    clear h hw
    go_enter Try.func5, Try.ntmps5
    go_wp2_with (first | (go_at_call 9; refine (awake_any _).mono ?_; rintro e w' ⟨rfl, hb⟩) | (go_at_call 14; refine (Hf.out _).mono ?_; rintro e w' ⟨rfl, rfl⟩))
    go_ret
    exact ⟨rfl, by assumption⟩

theorem u64_of_wf {x : Int} (h : (Lit.int .u64 x).wf = true) : ∃ n : Nat, x = (n : Int) ∧ n < 18446744073709551616 := by
  have h1 : IntKind.u64.min = 0 := rfl
  have h2 : IntKind.u64.max = 18446744073709551615 := rfl
  simp only [Lit.wf, Bool.and_eq_true, decide_eq_true_eq] at h
  exact ⟨x.toNat, by omega, by omega⟩
theorem i64_of_wf {x : Int} (h : (Lit.int .i64 x).wf = true) : -9223372036854775808 ≤ x ∧ x ≤ 9223372036854775807 := by
  have h1 : IntKind.i64.min = -9223372036854775808 := rfl
  have h2 : IntKind.i64.max = 9223372036854775807 := rfl
  simp only [Lit.wf, Bool.and_eq_true, decide_eq_true_eq] at h
  omega
theorem lawGetsI (x v a n : Int) (w : World) (w0 : (Lit.int .u64 x).wf = true) (w1 : (Lit.int .u64 v).wf = true) (w2 : (Lit.int .i64 a).wf = true) :
    Calls Try.prog 4 #[.int .u64 x, .int .u64 v, .int .i64 a, .int .i64 n] w fun e w' => e = .returned (.bool true) ∧ Below w.heap.size w w' := by
  obtain ⟨x, rfl, hx⟩ := u64_of_wf w0
  obtain ⟨v, rfl, hv⟩ := u64_of_wf w1
  exact lawGets x v a n w hx hv (i64_of_wf w2).2
theorem lawKeepsI (x v a n o : Int) (w : World) (w0 : (Lit.int .u64 x).wf = true) (w1 : (Lit.int .u64 v).wf = true) (w2 : (Lit.int .i64 a).wf = true) :
    Calls Try.prog 5 #[.int .u64 x, .int .u64 v, .int .i64 a, .int .i64 n, .int .i64 o] w fun e w' => e = .returned (.bool true) ∧ Below w.heap.size w w' := by
  obtain ⟨x, rfl, hx⟩ := u64_of_wf w0
  obtain ⟨v, rfl, hv⟩ := u64_of_wf w1
  by_cases h : inW a n = true ∧ (v : Int) ≤ onesV n
  · exact lawKeeps_ok x v a n o w hx h.1 h.2
  · exact lawKeeps_no x v a n o w (i64_of_wf w2).2 h
end Go.Proofs.Ytmnfcepdmjondaa
