/- Contracts of package header: Valid. -/
import Derived.Test.YtoidfmhkcnpjoaaBitsP
import Derived.Test.YtoidfmhkcnpjoaaHeadM
import Derived.Test.YtoidfmhkcnpjoaaRow
namespace Go.Proofs.Ytoidfmhkcnpjoaa
open Go.RowKit

theorem ones_map {n m : Int} (h1 : 0 ≤ n) (h2 : n ≤ 32) : m ≤ onesV n ↔ m < 2 ^ n.toNat := by
  unfold onesV
  rw [show min n.toNat 64 = n.toNat from by omega]
  omega
theorem map_no {n m : Int} (h1 : 0 ≤ n) (h2 : n ≤ 32) (h3 : onesV n < m) : validB 1 n m = false :=
  valid_no fun h => by have := (ones_map h1 h2).2 (h.2.2.2.2.1 rfl).2; omega

set_option maxHeartbeats 800000 in
theorem valid_rec (n m : Int) (w : World) (hm0 : 0 ≤ m) (hm : m < 4294967296) :
    Calls Try.prog 26 #[.agg #[.int .i64 1, .int .i64 n, .int .u32 m]] w fun e w' => e = .returned (.bool (validB 1 n m)) ∧ Below w.heap.size w w' := by
  by_cases h1 : 0 ≤ n
  · by_cases h2 : n ≤ 32
    · by_cases h3 : m ≤ onesV n
      · have E := Lib.hid (valid_mk (k := 1) (n := n) (m := m) ⟨by omega, by omega, h1, by omega, fun _ => ⟨h2, (ones_map h1 h2).1 h3⟩, fun h => absurd rfl h⟩)
        go_enter Try.func26, Try.ntmps26
        go_wp2
        go_quiet ((go_at_call 29; exact Calls.quiet_of_same ((ones_any _ _).mono fun e w' h => ⟨h.1, h.2.symm⟩)))
        go_wp2
        go_ret
        exact ⟨ret_bool E.out.symm, below_drewN below_box _⟩
      · have h3 : onesV n < m := by omega
        have E := Lib.hid (map_no h1 h2 h3)
        have hd : decide (m ≤ onesV n) = false := decide_eq_false (by omega)
        go_enter Try.func26, Try.ntmps26
        go_wp2
        go_quiet ((go_at_call 29; exact Calls.quiet_of_same ((ones_any _ _).mono fun e w' h => ⟨h.1, h.2.symm⟩)))
        go_wp2
        go_ret
        exact ⟨ret_bool E.out.symm, below_drewN below_box _⟩
    · have E := Lib.hid (valid_no (k := 1) (n := n) (m := m) fun h => h2 (h.2.2.2.2.1 rfl).1)
      have hd : decide (n ≤ 32) = false := decide_eq_false h2
      go_enter Try.func26, Try.ntmps26
      go_wp2
      go_quiet ((go_at_call 29; exact Calls.quiet_of_same ((ones_any _ _).mono fun e w' h => ⟨h.1, h.2.symm⟩)))
      go_wp2
      go_ret
      exact ⟨ret_bool E.out.symm, below_drewN below_box _⟩
  · have E := Lib.hid (valid_no (k := 1) (n := n) (m := m) fun h => h1 h.2.2.1)
    have hd : decide (0 ≤ n) = false := decide_eq_false h1
    go_enter Try.func26, Try.ntmps26
    go_wp2
    go_quiet ((go_at_call 29; exact Calls.quiet_of_same ((ones_any _ _).mono fun e w' h => ⟨h.1, h.2.symm⟩)))
    go_wp2
    go_ret
    exact ⟨ret_bool E.out.symm, below_drewN below_box _⟩

theorem valid_plain {k n m : Int} (hk : k = 0 ∨ k = 2 ∨ k = 3) (h : 0 ≤ n) (h2 : n ≤ 255) (h3 : m = 0) : validB k n m = true :=
  valid_mk ⟨by omega, by omega, h, h2, fun c => by omega, fun _ => h3⟩

set_option maxHeartbeats 800000 in
theorem valid_other (k n m : Int) (hk : k = 0 ∨ k = 2 ∨ k = 3) (w : World) :
    Calls Try.prog 26 #[.agg #[.int .i64 k, .int .i64 n, .int .u32 m]] w fun e w' => e = .returned (.bool (validB k n m)) ∧ Below w.heap.size w w' := by
  by_cases h1 : 0 ≤ n
  · by_cases h2 : n ≤ 255
    · by_cases h3 : m = 0
      · have E := Lib.hid (valid_plain hk h1 h2 h3)
        rcases hk with rfl | rfl | rfl
        all_goals
          subst h3
          go_enter Try.func26, Try.ntmps26
          go_wp2
          go_ret
          exact ⟨ret_bool E.out.symm, below_box⟩
      · have E := Lib.hid (valid_no (k := k) (n := n) (m := m) fun h => h3 (h.2.2.2.2.2 (by omega)))
        have hd : (m == 0) = false := beq_eq_false_iff_ne.2 h3
        clear h3
        rcases hk with rfl | rfl | rfl
        all_goals
          go_enter Try.func26, Try.ntmps26
          go_wp2
          go_ret
          exact ⟨ret_bool E.out.symm, below_box⟩
    · have E := Lib.hid (valid_no (k := k) (n := n) (m := m) fun h => h2 h.2.2.2.1)
      rcases hk with rfl | rfl | rfl
      all_goals
        go_enter Try.func26, Try.ntmps26
        go_wp2
        go_ret
        exact ⟨ret_bool E.out.symm, below_box⟩
  · have E := Lib.hid (valid_no (k := k) (n := n) (m := m) fun h => h1 h.2.2.1)
    rcases hk with rfl | rfl | rfl
    all_goals
      go_enter Try.func26, Try.ntmps26
      go_wp2
      go_ret
      exact ⟨ret_bool E.out.symm, below_box⟩

set_option maxHeartbeats 800000 in
theorem valid_kind (k n m : Int) (h0 : ¬ k = 0) (h1 : ¬ k = 1) (h2 : ¬ k = 2) (h3 : ¬ k = 3) (w : World) :
    Calls Try.prog 26 #[.agg #[.int .i64 k, .int .i64 n, .int .u32 m]] w fun e w' => e = .returned (.bool (validB k n m)) ∧ Below w.heap.size w w' := by
  have E := Lib.hid (valid_no (k := k) (n := n) (m := m) fun h => by omega)
  have d0 : (k == 0) = false := beq_eq_false_iff_ne.2 h0
  have d1 : (k == 1) = false := beq_eq_false_iff_ne.2 h1
  have d2 : (k == 2) = false := beq_eq_false_iff_ne.2 h2
  have d3 : (k == 3) = false := beq_eq_false_iff_ne.2 h3
  clear h0 h1 h2 h3
  go_enter Try.func26, Try.ntmps26
  go_wp2
  go_ret
  exact ⟨ret_bool E.out.symm, below_box⟩

theorem hvalid_any (k n m : Int) (w : World) (hm0 : 0 ≤ m) (hm : m < 4294967296) :
    Calls Try.prog 26 #[.agg #[.int .i64 k, .int .i64 n, .int .u32 m]] w fun e w' => e = .returned (.bool (validB k n m)) ∧ Below w.heap.size w w' := by
  by_cases h1 : k = 1
  · subst h1; exact valid_rec n m w hm0 hm
  · by_cases h : k = 0 ∨ k = 2 ∨ k = 3
    · exact valid_other k n m h w
    · exact valid_kind k n m (by omega) h1 (by omega) (by omega) w
end Go.Proofs.Ytoidfmhkcnpjoaa
