/- Contracts of package page on configurations: Address, size, Of, New; arena.New. -/
import Derived.Test.YtbenklhbcgiacaaPgP
import Derived.Test.YtbenklhbcgiacaaHeapU
import Derived.Test.YtbenklhbcgiacaaArenaM
namespace Go.Proofs.Ytbenklhbcgiacaa
open Go.RowKit

set_option maxHeartbeats 1600000 in
theorem address_any (pw np p o : Int) (w : World) :
    Calls Try.prog 55 #[.agg #[.int .i64 pw, .int .i64 np], .int .i64 p, .int .i64 o] w fun e w' => e = .returned (.tuple #[.int .u64 (addrV pw np p o), .int .i64 (addrE pw np p o)]) ∧ Below w.heap.size w w' := by
  by_cases hv : confB pw np = true
  · have hc := Lib.hid (fun w => valid_is hv w)
    obtain ⟨k1, k2, -, k4, k5⟩ := conf_parts hv
    by_cases h1 : 0 ≤ p ∧ p ≤ np - 1
    · have hw1 := Lib.hid (fun w => within_yes h1.1 h1.2 w)
      by_cases h2 : 0 ≤ o ∧ o ≤ pw - 1
      · have hw2 := Lib.hid (fun w => within_yes h2.1 h2.2 w)
        obtain ⟨e1, e2⟩ := addr_ok hv (decide_eq_true (show 0 ≤ p ∧ p < np ∧ 0 ≤ o ∧ o < pw by omega))
        rw [e1, e2]
        obtain ⟨g1, g2⟩ := page_prod hv h1.1 (show p < np by omega)
        obtain ⟨g3, g4⟩ := conf_prod hv
        obtain ⟨h1, h3⟩ := h1
        obtain ⟨h2, h4⟩ := h2
        have g5 : p * pw ≤ 4096 := by omega
        have g6 : o ≤ 64 := by omega
        have h3 : p ≤ 64 := by omega
        clear hv e1 e2 g2 g3 g4
        go_enter Try.func55, Try.ntmps55
        go_wp2_with fail
        refine (hc.out _).mono ?_
        rintro e w1 ⟨rfl, hb1⟩
        have c0 := box_cell hb1 0 rfl
        have c1 := box_cell hb1 1 rfl
        go_wp2_with fail
        refine (hw1.out _).mono ?_
        rintro e w2 ⟨rfl, rfl⟩
        go_wp2_with fail
        refine (hw2.out _).mono ?_
        rintro e w2 ⟨rfl, rfl⟩
        go_wp2
        go_ret2
        exact ⟨ret_ints (by omega) rfl, below_boxed hb1⟩
      · obtain ⟨e1, e2⟩ := addr_out hv (inPg_false (show p < 0 ∨ np ≤ p ∨ o < 0 ∨ pw ≤ o by omega))
        rw [e1, e2]
        have hw2 := Lib.hid (fun w => within_no (n := o) (l := 0) (h := pw - 1) (by omega) w)
        clear hv e1 e2 h2
        go_enter Try.func55, Try.ntmps55
        go_wp2_with fail
        refine (hc.out _).mono ?_
        rintro e w1 ⟨rfl, hb1⟩
        have c0 := box_cell hb1 0 rfl
        have c1 := box_cell hb1 1 rfl
        go_wp2_with fail
        refine (hw1.out _).mono ?_
        rintro e w2 ⟨rfl, rfl⟩
        go_wp2_with fail
        refine (hw2.out _).mono ?_
        rintro e w2 ⟨rfl, rfl⟩
        go_wp2
        go_ret2
        exact ⟨rfl, below_boxed hb1⟩
    · obtain ⟨e1, e2⟩ := addr_out hv (inPg_false (show p < 0 ∨ np ≤ p ∨ o < 0 ∨ pw ≤ o by omega))
      rw [e1, e2]
      have hw1 := Lib.hid (fun w => within_no (n := p) (l := 0) (h := np - 1) (by omega) w)
      clear hv e1 e2 h1
      go_enter Try.func55, Try.ntmps55
      go_wp2_with fail
      refine (hc.out _).mono ?_
      rintro e w1 ⟨rfl, hb1⟩
      have c0 := box_cell hb1 0 rfl
      have c1 := box_cell hb1 1 rfl
      go_wp2_with fail
      refine (hw1.out _).mono ?_
      rintro e w2 ⟨rfl, rfl⟩
      go_wp2
      go_ret2
      exact ⟨rfl, below_boxed hb1⟩
  · have hv : confB pw np = false := by simpa using hv
    obtain ⟨e1, e2⟩ := addr_no (p := p) (o := o) hv
    rw [e1, e2]
    have hc := Lib.hid (fun w => valid_is hv w)
    clear hv e1 e2
    go_enter Try.func55, Try.ntmps55
    go_wp2_with fail
    refine (hc.out _).mono ?_
    rintro e w1 ⟨rfl, hb1⟩
    go_wp2
    go_ret2
    exact ⟨rfl, below_boxed hb1⟩

set_option maxHeartbeats 400000 in
theorem size_any (pw np : Int) (w : World) (h0 : 0 ≤ np * pw) (h1 : np * pw ≤ 4096) :
    Calls Try.prog 27 #[.agg #[.int .i64 pw, .int .i64 np]] w fun e w' => e = .returned (.int .i64 (np * pw)) ∧ Below w.heap.size w w' := by
  obtain ⟨X, hX⟩ : ∃ X, np * pw = X := ⟨_, rfl⟩
  have hX2 : pw * np = X := by rw [Int.mul_comm]; exact hX
  rw [hX] at h0 h1
  have HX := Lib.hid hX
  clear hX
  rw [HX.out]
  go_enter Try.func27, Try.ntmps27
  go_wp2
  go_ret
  exact ⟨ret_int (by first | rfl | exact hX2 | (rw [hX2])), below_box⟩

end Go.Proofs.Ytbenklhbcgiacaa
