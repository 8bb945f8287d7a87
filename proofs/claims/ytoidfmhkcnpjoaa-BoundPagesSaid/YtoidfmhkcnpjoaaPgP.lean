/- Contracts of package page on configurations: within, ValidConf, Limit, SmallWords, Need. -/
import Derived.Test.YtoidfmhkcnpjoaaPageU
namespace Go.Proofs.Ytoidfmhkcnpjoaa
open Go.RowKit

set_option maxHeartbeats 400000 in
theorem within_is {b : Bool} {n l h : Int} (hb : decide (l ≤ n ∧ n ≤ h) = b) (w : World) :
    Calls Try.prog 23 #[.int .i64 n, .int .i64 l, .int .i64 h] w fun e w' => e = .returned (.bool b) ∧ w = w' := by
  by_cases h1 : l ≤ n
  · by_cases h2 : n ≤ h
    · obtain rfl : b = true := by rw [← hb]; exact decide_eq_true ⟨h1, h2⟩
      clear hb
      go_enter Try.func23, Try.ntmps23
      go_wp2
      go_ret
      exact ⟨rfl, rfl⟩
    · obtain rfl : b = false := by rw [← hb]; exact decide_eq_false fun h => h2 h.2
      clear hb
      go_enter Try.func23, Try.ntmps23
      go_wp2
      go_ret
      exact ⟨rfl, rfl⟩
  · obtain rfl : b = false := by rw [← hb]; exact decide_eq_false fun h => h1 h.1
    clear hb
    go_enter Try.func23, Try.ntmps23
    go_wp2
    go_ret
    exact ⟨rfl, rfl⟩
theorem within_yes {n l h : Int} (h1 : l ≤ n) (h2 : n ≤ h) (w : World) :
    Calls Try.prog 23 #[.int .i64 n, .int .i64 l, .int .i64 h] w fun e w' => e = .returned (.bool true) ∧ w = w' := within_is (decide_eq_true ⟨h1, h2⟩) w
theorem within_no {n l h : Int} (h1 : n < l ∨ h < n) (w : World) :
    Calls Try.prog 23 #[.int .i64 n, .int .i64 l, .int .i64 h] w fun e w' => e = .returned (.bool false) ∧ w = w' := within_is (decide_eq_false (by omega)) w

set_option maxHeartbeats 800000 in
theorem valid_any (pw np : Int) (w : World) :
    Calls Try.prog 10 #[.agg #[.int .i64 pw, .int .i64 np]] w fun e w' => e = .returned (.bool (confB pw np)) ∧ Below w.heap.size w w' := by
  by_cases h1 : 16 ≤ pw ∧ pw ≤ 64
  · have hw1 := Lib.hid (fun w => within_yes h1.1 h1.2 w)
    by_cases h3 : pw % 4 = 0
    · by_cases h4 : 8 ≤ np ∧ np ≤ 64
      · have E := Lib.hid (conf_mk ⟨h1.1, h1.2, h3, h4.1, h4.2⟩)
        have hw2 := Lib.hid (fun w => within_yes h4.1 h4.2 w)
        obtain ⟨h1, -⟩ := h1
        clear h4
        go_enter Try.func10, Try.ntmps10
        go_wp2_with fail
        refine (hw1.out _).mono ?_
        rintro e w1 ⟨rfl, rfl⟩
        go_wp2_with fail
        refine (hw2.out _).mono ?_
        rintro e w1 ⟨rfl, rfl⟩
        go_wp2
        go_ret
        exact ⟨ret_bool E.out.symm, below_box⟩
      · have E := Lib.hid (conf_no (pw := pw) (np := np) fun h => h4 h.2.2.2)
        have hw2 := Lib.hid (fun w => within_no (n := np) (l := 8) (h := 64) (by omega) w)
        obtain ⟨h1, -⟩ := h1
        clear h4
        go_enter Try.func10, Try.ntmps10
        go_wp2_with fail
        refine (hw1.out _).mono ?_
        rintro e w1 ⟨rfl, rfl⟩
        go_wp2_with fail
        refine (hw2.out _).mono ?_
        rintro e w1 ⟨rfl, rfl⟩
        go_wp2
        go_ret
        exact ⟨ret_bool E.out.symm, below_box⟩
    · have E := Lib.hid (conf_no (pw := pw) (np := np) fun h => h3 h.2.2.1)
      have hd : (pw % 4 == 0) = false := beq_eq_false_iff_ne.2 h3
      obtain ⟨h1, -⟩ := h1
      clear h3
      go_enter Try.func10, Try.ntmps10
      go_wp2_with fail
      refine (hw1.out _).mono ?_
      rintro e w1 ⟨rfl, rfl⟩
      go_wp2
      go_ret
      exact ⟨ret_bool E.out.symm, below_box⟩
  · have E := Lib.hid (conf_no (pw := pw) (np := np) fun h => h1 ⟨h.1, h.2.1⟩)
    have hw1 := Lib.hid (fun w => within_no (n := pw) (l := 16) (h := 64) (by omega) w)
    clear h1
    go_enter Try.func10, Try.ntmps10
    go_wp2_with fail
    refine (hw1.out _).mono ?_
    rintro e w1 ⟨rfl, rfl⟩
    go_wp2
    go_ret
    exact ⟨ret_bool E.out.symm, below_box⟩
theorem valid_is {b : Bool} {pw np : Int} (h : confB pw np = b) (w : World) :
    Calls Try.prog 10 #[.agg #[.int .i64 pw, .int .i64 np]] w fun e w' => e = .returned (.bool b) ∧ Below w.heap.size w w' := by
  subst h; exact valid_any pw np w

set_option maxHeartbeats 800000 in
theorem limit_any (pw np : Int) (w : World) :
    Calls Try.prog 18 #[.agg #[.int .i64 pw, .int .i64 np]] w fun e w' => e = .returned (.int .i64 (limitV pw np)) ∧ Below w.heap.size w w' := by
  cases hv : confB pw np
  · rw [limit_no hv]
    have hc := Lib.hid (fun w => valid_is hv w)
    clear hv
    go_enter Try.func18, Try.ntmps18
    go_wp2_with fail
    refine (hc.out _).mono ?_
    rintro e w1 ⟨rfl, hb1⟩
    go_wp2
    go_ret
    exact ⟨rfl, below_boxed hb1⟩
  · rw [limit_ok hv]
    have hc := Lib.hid (fun w => valid_is hv w)
    obtain ⟨-, -, -, h4, h5⟩ := conf_parts hv
    clear hv
    go_enter Try.func18, Try.ntmps18
    go_wp2_with fail
    refine (hc.out _).mono ?_
    rintro e w1 ⟨rfl, hb1⟩
    have c1 := box_cell hb1 1 rfl
    go_wp2
    go_ret
    exact ⟨rfl, below_boxed hb1⟩

set_option maxHeartbeats 800000 in
theorem small_any (pw np : Int) (w : World) :
    Calls Try.prog 25 #[.agg #[.int .i64 pw, .int .i64 np]] w fun e w' => e = .returned (.int .i64 (smallV pw np)) ∧ Below w.heap.size w w' := by
  cases hv : confB pw np
  · rw [small_no hv]
    have hc := Lib.hid (fun w => valid_is hv w)
    clear hv
    go_enter Try.func25, Try.ntmps25
    go_wp2_with fail
    refine (hc.out _).mono ?_
    rintro e w1 ⟨rfl, hb1⟩
    go_wp2
    go_ret
    exact ⟨rfl, below_boxed hb1⟩
  · rw [small_ok hv]
    have hc := Lib.hid (fun w => valid_is hv w)
    obtain ⟨h4, h5, -, -, -⟩ := conf_parts hv
    clear hv
    go_enter Try.func25, Try.ntmps25
    go_wp2_with fail
    refine (hc.out _).mono ?_
    rintro e w1 ⟨rfl, hb1⟩
    have c0 := box_cell hb1 0 rfl
    go_wp2
    go_ret
    exact ⟨rfl, below_boxed hb1⟩

/-- The pages of a large object by one division. -/
theorem needP_div {pw n : Int} (h1 : 16 ≤ pw) (h2 : pw ≤ 64) (h3 : pw / 4 < n) (h4 : n ≤ 4 * pw) : needP pw n = (n + pw - 1) / pw := by
  have hd : ∀ k : Int, (k - 1) * pw < n → n ≤ k * pw → (n + pw - 1) / pw = k := by
    intro k a b
    have e1 : (k - 1) * pw = k * pw - pw := by rw [Int.sub_mul, Int.one_mul]
    have e2 : (n + pw - 1) = (n + pw - 1 - k * pw) + k * pw := by omega
    rw [e2, Int.add_mul_ediv_right _ _ (by omega), Int.ediv_eq_zero_of_lt (by omega) (by omega)]; omega
  unfold needP
  rw [if_neg (by omega)]
  split
  · rw [hd 1 (by omega) (by omega)]
  · split
    · rw [hd 2 (by omega) (by omega)]
    · split
      · rw [hd 3 (by omega) (by omega)]
      · rw [hd 4 (by omega) (by omega)]

set_option maxHeartbeats 1600000 in
theorem need_any (pw np n : Int) (w : World) :
    Calls Try.prog 16 #[.agg #[.int .i64 pw, .int .i64 np], .int .i64 n] w fun e w' => e = .returned (.int .i64 (needV pw np n)) ∧ Below w.heap.size w w' := by
  by_cases hv : confB pw np = true
  · have hc := Lib.hid (fun w => valid_is hv w)
    obtain ⟨h4, h5, -, -, -⟩ := conf_parts hv
    by_cases h1 : 1 ≤ n ∧ n ≤ 4 * pw
    · have hi := Lib.hid (fun w => within_yes h1.1 h1.2 w)
      rw [need_ok hv h1.1]
      have hs := Lib.hid (fun w => small_any pw np w)
      rw [small_ok hv] at hs
      by_cases h0 : n ≤ pw / 4
      · rw [needP_small h0]
        clear hv
        obtain ⟨g1, g2⟩ := h1
        go_enter Try.func16, Try.ntmps16
        go_wp2_with fail
        refine (hc.out _).mono ?_
        rintro e w1 ⟨rfl, hb1⟩
        have c0 := box_cell hb1 0 rfl
        have c1 := box_cell hb1 1 rfl
        go_wp2_with fail
        refine (hi.out _).mono ?_
        rintro e w2 ⟨rfl, rfl⟩
        go_wp2_with fail
        refine (hs.out _).mono ?_
        rintro e w2 ⟨rfl, hb2⟩
        go_wp2
        go_ret
        exact ⟨rfl, bthen (below_boxed hb1) hb2⟩
      · have h0 : pw / 4 < n := by omega
        rw [needP_div h4 h5 h0 h1.2]
        clear hv
        obtain ⟨g1, g2⟩ := h1
        go_enter Try.func16, Try.ntmps16
        go_wp2_with fail
        refine (hc.out _).mono ?_
        rintro e w1 ⟨rfl, hb1⟩
        have c0 := box_cell hb1 0 rfl
        have c1 := box_cell hb1 1 rfl
        go_wp2_with fail
        refine (hi.out _).mono ?_
        rintro e w2 ⟨rfl, rfl⟩
        go_wp2_with fail
        refine (hs.out _).mono ?_
        rintro e w2 ⟨rfl, hb2⟩
        have d0 := cell_keep hb2 c0
        go_wp2
        go_ret
        exact ⟨rfl, bthen (below_boxed hb1) hb2⟩
    · have hi := Lib.hid (fun w => within_no (n := n) (l := 1) (h := 4 * pw) (by omega) w)
      have e1 : needV pw np n = -1 := by
        by_cases g : n < 1
        · exact need_no (Or.inr g)
        · rw [need_ok hv (by omega), needP_none h4 (by omega) (by omega)]
      rw [e1]
      clear hv e1 h1
      go_enter Try.func16, Try.ntmps16
      go_wp2_with fail
      refine (hc.out _).mono ?_
      rintro e w1 ⟨rfl, hb1⟩
      have c0 := box_cell hb1 0 rfl
      have c1 := box_cell hb1 1 rfl
      go_wp2_with fail
      refine (hi.out _).mono ?_
      rintro e w2 ⟨rfl, rfl⟩
      go_wp2
      go_ret
      exact ⟨rfl, below_boxed hb1⟩
  · have hv : confB pw np = false := by simpa using hv
    rw [need_no (Or.inl hv)]
    have hc := Lib.hid (fun w => valid_is hv w)
    clear hv
    go_enter Try.func16, Try.ntmps16
    go_wp2_with fail
    refine (hc.out _).mono ?_
    rintro e w1 ⟨rfl, hb1⟩
    go_wp2
    go_ret
    exact ⟨rfl, below_boxed hb1⟩
end Go.Proofs.Ytoidfmhkcnpjoaa
