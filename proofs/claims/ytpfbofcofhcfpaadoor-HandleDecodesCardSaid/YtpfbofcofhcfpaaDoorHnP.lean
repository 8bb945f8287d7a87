/- Contracts of package handle: greatest, Valid; of the reference: Valid. -/
import Derived.Test.YtpfbofcofhcfpaaDoorHnM
namespace Go.Proofs.YtpfbofcofhcfpaaDoor
open Go.RowKit

set_option maxHeartbeats 400000 in
theorem greatest1 (w : World) (hw : Wid w) : Calls Tryd.prog 15 #[.int .i64 1] w fun e w' => e = .returned (.int .i64 65535) ∧ w = w' := by
  have ho := Lib.hid (show onesV 16 = 65535 from by simp [onesV])
  obtain ⟨g0, g1, g2⟩ := hw
  go_enter Tryd.func15, Tryd.ntmps15
  go_wp2_with fail
  refine (ones_any 16 w).mono ?_
  rw [ho.out]
  rintro e w' ⟨rfl, rfl⟩
  go_wp2
  go_ret
  exact ⟨rfl, rfl⟩
set_option maxHeartbeats 400000 in
theorem greatest2 (w : World) (hw : Wid w) : Calls Tryd.prog 15 #[.int .i64 2] w fun e w' => e = .returned (.int .i64 4294967295) ∧ w = w' := by
  have ho := Lib.hid (show onesV 32 = 4294967295 from by simp [onesV])
  obtain ⟨g0, g1, g2⟩ := hw
  go_enter Tryd.func15, Tryd.ntmps15
  go_wp2_with fail
  refine (ones_any 32 w).mono ?_
  rw [ho.out]
  rintro e w' ⟨rfl, rfl⟩
  go_wp2
  go_ret
  exact ⟨rfl, rfl⟩


set_option maxHeartbeats 1600000 in
theorem hnvalid_tag (t i s : Int) (ht : t = 1 ∨ t = 2 ∨ t = 3) (w : World) (hw : Wid w) :
    Calls Tryd.prog 10 #[.agg #[.int .i64 t, .int .i64 i, .int .i64 s]] w fun e w' => e = .returned (.bool (validH t i s)) ∧ Below w.heap.size w w' := by
  have hg := Lib.hid (hw.alloc (.cells #[.int .i64 t, .int .i64 i, .int .i64 s] 23))
  clear hw
  by_cases h1 : 0 ≤ i
  · by_cases h2 : i ≤ 65535
    · by_cases h3 : 1 ≤ s
      · have E : Hid (validH t i s = decide (s ≤ 4294967295)) := by
          by_cases h4 : s ≤ 4294967295
          · rw [vh_mk ⟨by omega, by omega, h1, h2, h3, h4⟩]; exact (decide_eq_true h4).symm
          · rw [vh_no fun h => h4 h.2.2.2.2.2]; exact (decide_eq_false h4).symm
        have k1 : decide (0 ≤ i) = true := decide_eq_true h1
        have k2 : decide (i ≤ 65535) = true := decide_eq_true h2
        have k3 : decide (1 ≤ s) = true := decide_eq_true h3
        clear h1 h2 h3
        rcases ht with rfl | rfl | rfl
        all_goals
          go_enter Tryd.func10, Tryd.ntmps10
          go_wp2
          go_quiet (first | (go_at_call 15; exact Calls.quiet_of_same ((greatest1 _ (hg.out.drewN _)).mono fun e w' h => ⟨h.1, h.2.symm⟩)) | (go_at_call 15; exact Calls.quiet_of_same ((greatest2 _ (hg.out.drewN _)).mono fun e w' h => ⟨h.1, h.2.symm⟩)))
          go_wp2
          go_ret
          exact ⟨ret_bool E.out.symm, below_drewN below_box _⟩
      · have E := Lib.hid (vh_no (t := t) (i := i) (s := s) fun h => h3 h.2.2.2.2.1)
        have k1 : decide (0 ≤ i) = true := decide_eq_true h1
        have k2 : decide (i ≤ 65535) = true := decide_eq_true h2
        have k3 : decide (1 ≤ s) = false := decide_eq_false h3
        rcases ht with rfl | rfl | rfl
        all_goals
          go_enter Tryd.func10, Tryd.ntmps10
          go_wp2
          go_quiet (first | (go_at_call 15; exact Calls.quiet_of_same ((greatest1 _ (hg.out.drewN _)).mono fun e w' h => ⟨h.1, h.2.symm⟩)) | (go_at_call 15; exact Calls.quiet_of_same ((greatest2 _ (hg.out.drewN _)).mono fun e w' h => ⟨h.1, h.2.symm⟩)))
          go_wp2
          go_ret
          exact ⟨ret_bool E.out.symm, below_drewN below_box _⟩
    · have E := Lib.hid (vh_no (t := t) (i := i) (s := s) fun h => h2 h.2.2.2.1)
      have k1 : decide (0 ≤ i) = true := decide_eq_true h1
      have k2 : decide (i ≤ 65535) = false := decide_eq_false h2
      rcases ht with rfl | rfl | rfl
      all_goals
        go_enter Tryd.func10, Tryd.ntmps10
        go_wp2
        go_quiet (first | (go_at_call 15; exact Calls.quiet_of_same ((greatest1 _ (hg.out.drewN _)).mono fun e w' h => ⟨h.1, h.2.symm⟩)) | (go_at_call 15; exact Calls.quiet_of_same ((greatest2 _ (hg.out.drewN _)).mono fun e w' h => ⟨h.1, h.2.symm⟩)))
        go_wp2
        go_ret
        exact ⟨ret_bool E.out.symm, below_drewN below_box _⟩
  · have E := Lib.hid (vh_no (t := t) (i := i) (s := s) fun h => h1 h.2.2.1)
    have k1 : decide (0 ≤ i) = false := decide_eq_false h1
    rcases ht with rfl | rfl | rfl
    all_goals
      go_enter Tryd.func10, Tryd.ntmps10
      go_wp2
      go_quiet (first | (go_at_call 15; exact Calls.quiet_of_same ((greatest1 _ (hg.out.drewN _)).mono fun e w' h => ⟨h.1, h.2.symm⟩)) | (go_at_call 15; exact Calls.quiet_of_same ((greatest2 _ (hg.out.drewN _)).mono fun e w' h => ⟨h.1, h.2.symm⟩)))
      go_wp2
      go_ret
      exact ⟨ret_bool E.out.symm, below_drewN below_box _⟩

set_option maxHeartbeats 800000 in
theorem hnvalid_other (t i s : Int) (h1 : ¬ t = 1) (h2 : ¬ t = 2) (h3 : ¬ t = 3) (w : World) :
    Calls Tryd.prog 10 #[.agg #[.int .i64 t, .int .i64 i, .int .i64 s]] w fun e w' => e = .returned (.bool (validH t i s)) ∧ Below w.heap.size w w' := by
  have E := Lib.hid (vh_no (t := t) (i := i) (s := s) fun h => by omega)
  have d1 : (t == 1) = false := beq_eq_false_iff_ne.2 h1
  have d2 : (t == 2) = false := beq_eq_false_iff_ne.2 h2
  have d3 : (t == 3) = false := beq_eq_false_iff_ne.2 h3
  clear h1 h2 h3
  go_enter Tryd.func10, Tryd.ntmps10
  go_wp2
  go_ret
  exact ⟨ret_bool E.out.symm, below_box⟩

theorem hnvalid_any (t i s : Int) (w : World) (hw : Wid w) :
    Calls Tryd.prog 10 #[.agg #[.int .i64 t, .int .i64 i, .int .i64 s]] w fun e w' => e = .returned (.bool (validH t i s)) ∧ Below w.heap.size w w' := by
  by_cases h : t = 1 ∨ t = 2 ∨ t = 3
  · exact hnvalid_tag t i s h w hw
  · exact hnvalid_other t i s (by omega) (by omega) (by omega) w


set_option maxHeartbeats 1600000 in
theorem rhvalid_any (t i s : Int) (w : World) :
    Calls Tryd.prog 11 #[.agg #[.int .i64 t, .int .i64 i, .int .i64 s]] w fun e w' => e = .returned (.bool (validH t i s)) ∧ Below w.heap.size w w' := by
  by_cases h1 : 1 ≤ t
  · by_cases h2 : t ≤ 3
    · by_cases h3 : 0 ≤ i
      · by_cases h4 : i ≤ 65535
        · by_cases h5 : 1 ≤ s
          · have E : Hid (validH t i s = decide (s ≤ 4294967295)) := by
              by_cases h6 : s ≤ 4294967295
              · rw [vh_mk ⟨h1, h2, h3, h4, h5, h6⟩]; exact (decide_eq_true h6).symm
              · rw [vh_no fun h => h6 h.2.2.2.2.2]; exact (decide_eq_false h6).symm
            go_enter Tryd.func11, Tryd.ntmps11
            go_wp2
            go_ret
            exact ⟨ret_bool E.out.symm, below_box⟩
          · have E := Lib.hid (vh_no (t := t) (i := i) (s := s) fun h => h5 h.2.2.2.2.1)
            go_enter Tryd.func11, Tryd.ntmps11
            go_wp2
            go_ret
            exact ⟨ret_bool E.out.symm, below_box⟩
        · have E := Lib.hid (vh_no (t := t) (i := i) (s := s) fun h => h4 h.2.2.2.1)
          go_enter Tryd.func11, Tryd.ntmps11
          go_wp2
          go_ret
          exact ⟨ret_bool E.out.symm, below_box⟩
      · have E := Lib.hid (vh_no (t := t) (i := i) (s := s) fun h => h3 h.2.2.1)
        go_enter Tryd.func11, Tryd.ntmps11
        go_wp2
        go_ret
        exact ⟨ret_bool E.out.symm, below_box⟩
    · have E := Lib.hid (vh_no (t := t) (i := i) (s := s) fun h => h2 h.2.1)
      go_enter Tryd.func11, Tryd.ntmps11
      go_wp2
      go_ret
      exact ⟨ret_bool E.out.symm, below_box⟩
  · have E := Lib.hid (vh_no (t := t) (i := i) (s := s) fun h => h1 h.1)
    go_enter Tryd.func11, Tryd.ntmps11
    go_wp2
    go_ret
    exact ⟨ret_bool E.out.symm, below_box⟩
end Go.Proofs.YtpfbofcofhcfpaaDoor
