/- Contracts of package page on configurations: Address, size, Of, New; arena.New. -/
import Derived.Test.YtnelnabeajkpfaaPgP
import Derived.Test.YtnelnabeajkpfaaHeapU
import Derived.Test.YtnelnabeajkpfaaArenaM
namespace Go.Proofs.Ytnelnabeajkpfaa
open Go.RowKit

set_option maxHeartbeats 400000 in
theorem new_any (n : Int) (w : World) :
    Calls Try.prog 34 #[.int .i64 n] w fun e w' => RetS (newV n) (newE n) e w' ∧ Below w.heap.size w w' := by
  obtain ⟨i0, hi, hz0, hz1, hz2⟩ := info_parts infoU64
  by_cases h1 : n < 0
  · obtain ⟨e1, e2⟩ := new_no (n := n) (by omega)
    have E1 := Lib.hid e1; have E2 := Lib.hid e2
    clear e1 e2
    go_enter Try.func34, Try.ntmps34
    go_wp2
    go_ret2
    exact ⟨RetS.no E1.out E2.out, Below.refl _ _⟩
  · by_cases h2 : 4096 < n
    · obtain ⟨e1, e2⟩ := new_no (n := n) (by omega)
      have E1 := Lib.hid e1; have E2 := Lib.hid e2
      clear e1 e2
      go_enter Try.func34, Try.ntmps34
      go_wp2
      go_ret2
      exact ⟨RetS.no E1.out E2.out, Below.refl _ _⟩
    · obtain ⟨k, rfl⟩ : ∃ k : Nat, n = k := ⟨n.toNat, by omega⟩
      obtain ⟨e1, e2⟩ := new_ok (k := k) (by omega)
      have E1 := Lib.hid e1; have E2 := Lib.hid e2
      clear e1 e2
      go_enter Try.func34, Try.ntmps34
      go_wp2_with (at_make; refine wpList_make_full _ rfl _ _ 36 rfl w.heap.size 29 i0 (.int .u64 0) 1 Try.underlying36 hi hz0 hz1 .i64 .i64 k k k rfl rfl rfl rfl ?c1 ?c2 ?c3 ?_)
      any_goals first | omega | (rw [hz2]; omega) | (unfold maxLen; omega)
      intro w2 hown hg
      rw [made_zeros] at hown
      have hb : Below w.heap.size w w2 := (Below.refl _ _).grown hg (Nat.le_refl _) (fun k h => by cases h)
      have hblk := Lib.hid (Blk.of_own hown).2
      clear hown hg
      go_wp2
      go_ret2
      exact ⟨RetS.mk (hblk.out.srow (by simp) (by unfold maxLen; omega)) E1.out E2.out, hb⟩

set_option maxHeartbeats 1600000 in
theorem address_any (pw np p o : Int) (w : World) :
    Calls Try.prog 16 #[.agg #[.int .i64 pw, .int .i64 np], .int .i64 p, .int .i64 o] w fun e w' => e = .returned (.tuple #[.int .u64 (addrV pw np p o), .int .i64 (addrE pw np p o)]) ∧ Below w.heap.size w w' := by
  by_cases hv : confB pw np = true
  · have hc := Lib.hid (fun w => valid_is hv w)
    obtain ⟨k1, k2, -, k4, k5⟩ := conf_parts hv
    by_cases h1 : 0 ≤ p ∧ p ≤ np - 1
    · have hw1 := Lib.hid (fun w => within_yes h1.1 h1.2 w)
      by_cases h2 : 0 ≤ o ∧ o ≤ pw - 1
      · have hw2 := Lib.hid (fun w => within_yes h2.1 h2.2 w)
        obtain ⟨e1, e2⟩ := addr_ok hv (decide_eq_true (show 0 ≤ p ∧ p < np ∧ 0 ≤ o ∧ o < pw by omega))
        rw [e1, e2]
        obtain ⟨g1, g2⟩ := page_prod hv h1.1 (show p < np by omega)
        obtain ⟨g3, g4⟩ := conf_prod hv
        obtain ⟨h1, h3⟩ := h1
        obtain ⟨h2, h4⟩ := h2
        have g5 : p * pw ≤ 4096 := by omega
        have g6 : o ≤ 64 := by omega
        have h3 : p ≤ 64 := by omega
        clear hv e1 e2 g2 g3 g4
        go_enter Try.func16, Try.ntmps16
        go_wp2_with fail
        refine (hc.out _).mono ?_
        rintro e w1 ⟨rfl, hb1⟩
        have c0 := box_cell hb1 0 rfl
        have c1 := box_cell hb1 1 rfl
        go_wp2_with fail
        refine (hw1.out _).mono ?_
        rintro e w2 ⟨rfl, rfl⟩
        go_wp2_with fail
        refine (hw2.out _).mono ?_
        rintro e w2 ⟨rfl, rfl⟩
        go_wp2
        go_ret2
        exact ⟨ret_ints (by omega) rfl, below_boxed hb1⟩
      · obtain ⟨e1, e2⟩ := addr_out hv (inPg_false (show p < 0 ∨ np ≤ p ∨ o < 0 ∨ pw ≤ o by omega))
        rw [e1, e2]
        have hw2 := Lib.hid (fun w => within_no (n := o) (l := 0) (h := pw - 1) (by omega) w)
        clear hv e1 e2 h2
        go_enter Try.func16, Try.ntmps16
        go_wp2_with fail
        refine (hc.out _).mono ?_
        rintro e w1 ⟨rfl, hb1⟩
        have c0 := box_cell hb1 0 rfl
        have c1 := box_cell hb1 1 rfl
        go_wp2_with fail
        refine (hw1.out _).mono ?_
        rintro e w2 ⟨rfl, rfl⟩
        go_wp2_with fail
        refine (hw2.out _).mono ?_
        rintro e w2 ⟨rfl, rfl⟩
        go_wp2
        go_ret2
        exact ⟨rfl, below_boxed hb1⟩
    · obtain ⟨e1, e2⟩ := addr_out hv (inPg_false (show p < 0 ∨ np ≤ p ∨ o < 0 ∨ pw ≤ o by omega))
      rw [e1, e2]
      have hw1 := Lib.hid (fun w => within_no (n := p) (l := 0) (h := np - 1) (by omega) w)
      clear hv e1 e2 h1
      go_enter Try.func16, Try.ntmps16
      go_wp2_with fail
      refine (hc.out _).mono ?_
      rintro e w1 ⟨rfl, hb1⟩
      have c0 := box_cell hb1 0 rfl
      have c1 := box_cell hb1 1 rfl
      go_wp2_with fail
      refine (hw1.out _).mono ?_
      rintro e w2 ⟨rfl, rfl⟩
      go_wp2
      go_ret2
      exact ⟨rfl, below_boxed hb1⟩
  · have hv : confB pw np = false := by simpa using hv
    obtain ⟨e1, e2⟩ := addr_no (p := p) (o := o) hv
    rw [e1, e2]
    have hc := Lib.hid (fun w => valid_is hv w)
    clear hv e1 e2
    go_enter Try.func16, Try.ntmps16
    go_wp2_with fail
    refine (hc.out _).mono ?_
    rintro e w1 ⟨rfl, hb1⟩
    go_wp2
    go_ret2
    exact ⟨rfl, below_boxed hb1⟩

set_option maxHeartbeats 400000 in
theorem size_any (pw np : Int) (w : World) (h0 : 0 ≤ np * pw) (h1 : np * pw ≤ 4096) :
    Calls Try.prog 33 #[.agg #[.int .i64 pw, .int .i64 np]] w fun e w' => e = .returned (.int .i64 (np * pw)) ∧ Below w.heap.size w w' := by
  obtain ⟨X, hX⟩ : ∃ X, np * pw = X := ⟨_, rfl⟩
  have hX2 : pw * np = X := by rw [Int.mul_comm]; exact hX
  rw [hX] at h0 h1
  have HX := Lib.hid hX
  clear hX
  rw [HX.out]
  go_enter Try.func33, Try.ntmps33
  go_wp2
  go_ret
  exact ⟨ret_int (by first | rfl | exact hX2 | (rw [hX2])), below_box⟩

set_option maxHeartbeats 1600000 in
theorem of_any (pw np a : Int) (w : World) (ha : 0 ≤ a) (ha2 : a < 18446744073709551616) :
    Calls Try.prog 18 #[.agg #[.int .i64 pw, .int .i64 np], .int .u64 a] w fun e w' => e = .returned (.tuple #[.int .i64 (ofI pw np a), .int .i64 (ofK pw np a), .int .i64 (ofE pw np a)]) ∧ Below w.heap.size w w' := by
  by_cases hv : confB pw np = true
  · have hc := Lib.hid (fun w => valid_is hv w)
    obtain ⟨g3, g4⟩ := conf_prod hv
    have hs := Lib.hid (fun w => size_any pw np w (by omega) g4)
    by_cases h : 4096 ≤ a ∧ a < 4096 + np * pw
    · obtain ⟨e1, e2, e3⟩ := of_ok hv (decide_eq_true h)
      rw [e1, e2, e3]
      obtain ⟨k1, k2, -, -, -⟩ := conf_parts hv
      obtain ⟨h1, h2⟩ := h
      obtain ⟨X, hX⟩ : ∃ X, np * pw = X := ⟨_, rfl⟩
      rw [hX] at hs h2 g3 g4
      clear hv e1 e2 e3 hX
      go_enter Try.func18, Try.ntmps18
      go_wp2_with fail
      refine (hc.out _).mono ?_
      rintro e w1 ⟨rfl, hb1⟩
      have c0 := box_cell hb1 0 (v := .int .i64 pw) rfl
      have c1 := box_cell hb1 1 (v := .int .i64 np) rfl
      go_wp2_with fail
      refine (hs.out _).mono ?_
      rintro e w2 ⟨rfl, hb2⟩
      have d0 := cell_keep hb2 c0
      have hw := bthen (below_boxed hb1) hb2
      clear hb1 hb2 hc hs c0 c1
      go_wp2
      go_quiet (fail)
      go_wp2
      go_ret3
      exact ⟨rfl, below_drewN hw _⟩
    · have hn : inAr pw np a = false := decide_eq_false h
      obtain ⟨e1, e2, e3⟩ := of_out hv hn
      rw [e1, e2, e3]
      clear e1 e2 e3 hn
      by_cases h1 : a < 4096
      · clear h hv g3 g4
        go_enter Try.func18, Try.ntmps18
        go_wp2_with fail
        refine (hc.out _).mono ?_
        rintro e w1 ⟨rfl, hb1⟩
        go_wp2
        go_ret3
        exact ⟨rfl, below_boxed hb1⟩
      · have h2 : 4096 + np * pw ≤ a := by omega
        obtain ⟨X, hX⟩ : ∃ X, np * pw = X := ⟨_, rfl⟩
        rw [hX] at hs h2 g3 g4
        clear h hv hX
        go_enter Try.func18, Try.ntmps18
        go_wp2_with fail
        refine (hc.out _).mono ?_
        rintro e w1 ⟨rfl, hb1⟩
        have c0 := box_cell hb1 0 (v := .int .i64 pw) rfl
        have c1 := box_cell hb1 1 (v := .int .i64 np) rfl
        go_wp2_with fail
        refine (hs.out _).mono ?_
        rintro e w2 ⟨rfl, hb2⟩
        have hw := bthen (below_boxed hb1) hb2
        clear hb1 hb2 hc hs
        go_wp2
        go_ret3
        exact ⟨rfl, hw⟩
  · have hv : confB pw np = false := by simpa using hv
    obtain ⟨e1, e2, e3⟩ := of_no (a := a) hv
    rw [e1, e2, e3]
    have hc := Lib.hid (fun w => valid_is hv w)
    clear hv e1 e2 e3
    go_enter Try.func18, Try.ntmps18
    go_wp2_with fail
    refine (hc.out _).mono ?_
    rintro e w1 ⟨rfl, hb1⟩
    go_wp2
    go_ret3
    exact ⟨rfl, below_boxed hb1⟩
end Go.Proofs.Ytnelnabeajkpfaa
