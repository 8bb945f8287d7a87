/- Contracts of the references of layer 3: Valid, Encode, Size, Pointer. -/
import Derived.Test.YtoidfmhkcnpjoaaHeadM
import Derived.Test.YtoidfmhkcnpjoaaRow
namespace Go.Proofs.Ytoidfmhkcnpjoaa
open Go.RowKit

theorem shl_map {n : Int} (h2 : n ≤ 32) : IntKind.u64.wrap (2 ^ n.toNat) = 2 ^ n.toNat := by
  rw [IntKind.wrap_u64]
  have := pow_le32 n h2
  have := ipow_pos2 n.toNat
  omega
set_option maxHeartbeats 800000 in
theorem refValid_rec (n m : Int) (w : World) (hm0 : 0 ≤ m) (hm : m < 4294967296) :
    Calls Try.prog 27 #[.agg #[.int .i64 1, .int .i64 n, .int .u32 m]] w fun e w' => e = .returned (.bool (validB 1 n m)) ∧ Below w.heap.size w w' := by
  by_cases h1 : 0 ≤ n
  · by_cases h2 : n ≤ 255
    · by_cases h3 : n ≤ 32
      · have hs := shl_map h3
        by_cases h4 : m < 2 ^ n.toNat
        · have E := Lib.hid (valid_mk (k := 1) (n := n) (m := m) ⟨by omega, by omega, h1, by omega, fun _ => ⟨h3, h4⟩, fun h => absurd rfl h⟩)
          have hd : Hid (decide (m < IntKind.u64.wrap (2 ^ n.toNat)) = true) := decide_eq_true (by rw [hs]; exact h4)
          clear hs h4
          go_enter Try.func27, Try.ntmps27
          go_wp2
          go_ret
          exact ⟨ret_bool (by rw [E.out]; exact hd.out), below_box⟩
        · have E := Lib.hid (valid_no (k := 1) (n := n) (m := m) fun h => h4 (h.2.2.2.2.1 rfl).2)
          have hd : Hid (decide (m < IntKind.u64.wrap (2 ^ n.toNat)) = false) := decide_eq_false (by rw [hs]; exact h4)
          clear hs h4
          go_enter Try.func27, Try.ntmps27
          go_wp2
          go_ret
          exact ⟨ret_bool (by rw [E.out]; exact hd.out), below_box⟩
      · have E := Lib.hid (valid_no (k := 1) (n := n) (m := m) fun h => h3 (h.2.2.2.2.1 rfl).1)
        go_enter Try.func27, Try.ntmps27
        go_wp2
        go_ret
        exact ⟨ret_bool E.out.symm, below_box⟩
    · have E := Lib.hid (valid_no (k := 1) (n := n) (m := m) fun h => h2 h.2.2.2.1)
      go_enter Try.func27, Try.ntmps27
      go_wp2
      go_ret
      exact ⟨ret_bool E.out.symm, below_box⟩
  · have E := Lib.hid (valid_no (k := 1) (n := n) (m := m) fun h => h1 h.2.2.1)
    go_enter Try.func27, Try.ntmps27
    go_wp2
    go_ret
    exact ⟨ret_bool E.out.symm, below_box⟩

set_option maxHeartbeats 800000 in
theorem refValid_other (k n m : Int) (hk : ¬ k = 1) (w : World) :
    Calls Try.prog 27 #[.agg #[.int .i64 k, .int .i64 n, .int .u32 m]] w fun e w' => e = .returned (.bool (validB k n m)) ∧ Below w.heap.size w w' := by
  have d1 : (k != 1) = true := bne_iff_ne.2 hk
  by_cases h0 : 0 ≤ k
  · by_cases h00 : k ≤ 3
    · by_cases h1 : 0 ≤ n
      · by_cases h2 : n ≤ 255
        · have E : Hid (validB k n m = (m == 0)) := by
            by_cases h3 : m = 0
            · subst h3; rw [valid_mk ⟨h0, h00, h1, h2, fun c => absurd c hk, fun _ => rfl⟩]; rfl
            · rw [valid_no fun h => h3 (h.2.2.2.2.2 hk)]; exact (beq_eq_false_iff_ne.2 h3).symm
          clear hk
          go_enter Try.func27, Try.ntmps27
          go_wp2
          go_ret
          exact ⟨ret_bool E.out.symm, below_box⟩
        · have E := Lib.hid (valid_no (k := k) (n := n) (m := m) fun h => h2 h.2.2.2.1)
          clear hk
          go_enter Try.func27, Try.ntmps27
          go_wp2
          go_ret
          exact ⟨ret_bool E.out.symm, below_box⟩
      · have E := Lib.hid (valid_no (k := k) (n := n) (m := m) fun h => h1 h.2.2.1)
        clear hk
        go_enter Try.func27, Try.ntmps27
        go_wp2
        go_ret
        exact ⟨ret_bool E.out.symm, below_box⟩
    · have E := Lib.hid (valid_no (k := k) (n := n) (m := m) fun h => h00 h.2.1)
      clear hk
      go_enter Try.func27, Try.ntmps27
      go_wp2
      go_ret
      exact ⟨ret_bool E.out.symm, below_box⟩
  · have E := Lib.hid (valid_no (k := k) (n := n) (m := m) fun h => h0 h.1)
    clear hk
    go_enter Try.func27, Try.ntmps27
    go_wp2
    go_ret
    exact ⟨ret_bool E.out.symm, below_box⟩

theorem refValid_any (k n m : Int) (w : World) (hm0 : 0 ≤ m) (hm : m < 4294967296) :
    Calls Try.prog 27 #[.agg #[.int .i64 k, .int .i64 n, .int .u32 m]] w fun e w' => e = .returned (.bool (validB k n m)) ∧ Below w.heap.size w w' := by
  by_cases h1 : k = 1
  · subst h1; exact refValid_rec n m w hm0 hm
  · exact refValid_other k n m h1 w

end Go.Proofs.Ytoidfmhkcnpjoaa
