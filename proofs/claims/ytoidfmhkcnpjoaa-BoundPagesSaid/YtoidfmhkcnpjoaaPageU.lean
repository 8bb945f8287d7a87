/- Contracts of the references of layer 4 on configurations: ValidConf, Limit, SmallWords, Need, Address, Of. -/
import Derived.Test.YtoidfmhkcnpjoaaPageM
import Derived.Test.YtoidfmhkcnpjoaaRow
namespace Go.Proofs.Ytoidfmhkcnpjoaa
open Go.RowKit

set_option maxHeartbeats 800000 in
theorem refConf_any (pw np : Int) (w : World) :
    Calls Try.prog 24 #[.agg #[.int .i64 pw, .int .i64 np]] w fun e w' => e = .returned (.bool (confB pw np)) ∧ Below w.heap.size w w' := by
  by_cases h1 : 16 ≤ pw
  · by_cases h2 : pw ≤ 64
    · by_cases h3 : pw % 4 = 0
      · by_cases h4 : 8 ≤ np
        · by_cases h5 : np ≤ 64
          · have E := Lib.hid (conf_mk ⟨h1, h2, h3, h4, h5⟩)
            go_enter Try.func24, Try.ntmps24
            go_wp2
            go_ret
            exact ⟨ret_bool E.out.symm, below_box⟩
          · have E := Lib.hid (conf_no (pw := pw) (np := np) fun h => h5 h.2.2.2.2)
            go_enter Try.func24, Try.ntmps24
            go_wp2
            go_ret
            exact ⟨ret_bool E.out.symm, below_box⟩
        · have E := Lib.hid (conf_no (pw := pw) (np := np) fun h => h4 h.2.2.2.1)
          go_enter Try.func24, Try.ntmps24
          go_wp2
          go_ret
          exact ⟨ret_bool E.out.symm, below_box⟩
      · have E := Lib.hid (conf_no (pw := pw) (np := np) fun h => h3 h.2.2.1)
        have hd : (pw % 4 == 0) = false := beq_eq_false_iff_ne.2 h3
        clear h3
        go_enter Try.func24, Try.ntmps24
        go_wp2
        go_ret
        exact ⟨ret_bool E.out.symm, below_box⟩
    · have E := Lib.hid (conf_no (pw := pw) (np := np) fun h => h2 h.2.1)
      go_enter Try.func24, Try.ntmps24
      go_wp2
      go_ret
      exact ⟨ret_bool E.out.symm, below_box⟩
  · have E := Lib.hid (conf_no (pw := pw) (np := np) fun h => h1 h.1)
    go_enter Try.func24, Try.ntmps24
    go_wp2
    go_ret
    exact ⟨ret_bool E.out.symm, below_box⟩

/-- ValidConf with a known answer. -/
theorem refConf_is {b : Bool} {pw np : Int} (h : confB pw np = b) (w : World) :
    Calls Try.prog 24 #[.agg #[.int .i64 pw, .int .i64 np]] w fun e w' => e = .returned (.bool b) ∧ Below w.heap.size w w' := by
  subst h; exact refConf_any pw np w

set_option maxHeartbeats 800000 in
theorem refLimit_any (pw np : Int) (w : World) :
    Calls Try.prog 22 #[.agg #[.int .i64 pw, .int .i64 np]] w fun e w' => e = .returned (.int .i64 (limitV pw np)) ∧ Below w.heap.size w w' := by
  cases hv : confB pw np
  · rw [limit_no hv]
    have hc := Lib.hid (fun w => refConf_is hv w)
    clear hv
    go_enter Try.func22, Try.ntmps22
    go_wp2_with fail
    refine (hc.out _).mono ?_
    rintro e w1 ⟨rfl, hb1⟩
    go_wp2
    go_ret
    exact ⟨rfl, below_boxed hb1⟩
  · rw [limit_ok hv]
    have hc := Lib.hid (fun w => refConf_is hv w)
    obtain ⟨-, -, -, h4, h5⟩ := conf_parts hv
    clear hv
    go_enter Try.func22, Try.ntmps22
    go_wp2_with fail
    refine (hc.out _).mono ?_
    rintro e w1 ⟨rfl, hb1⟩
    have c1 := box_cell hb1 1 rfl
    go_wp2
    go_ret
    exact ⟨rfl, below_boxed hb1⟩

set_option maxHeartbeats 800000 in
theorem refSmall_any (pw np : Int) (w : World) :
    Calls Try.prog 28 #[.agg #[.int .i64 pw, .int .i64 np]] w fun e w' => e = .returned (.int .i64 (smallV pw np)) ∧ Below w.heap.size w w' := by
  cases hv : confB pw np
  · rw [small_no hv]
    have hc := Lib.hid (fun w => refConf_is hv w)
    clear hv
    go_enter Try.func28, Try.ntmps28
    go_wp2_with fail
    refine (hc.out _).mono ?_
    rintro e w1 ⟨rfl, hb1⟩
    go_wp2
    go_ret
    exact ⟨rfl, below_boxed hb1⟩
  · rw [small_ok hv]
    have hc := Lib.hid (fun w => refConf_is hv w)
    obtain ⟨h4, h5, -, -, -⟩ := conf_parts hv
    clear hv
    go_enter Try.func28, Try.ntmps28
    go_wp2_with fail
    refine (hc.out _).mono ?_
    rintro e w1 ⟨rfl, hb1⟩
    have c0 := box_cell hb1 0 rfl
    go_wp2
    go_ret
    exact ⟨rfl, below_boxed hb1⟩

theorem needP_small {pw n : Int} (h : n ≤ pw / 4) : needP pw n = 0 := by unfold needP; rw [if_pos h]
theorem needP_at {pw n : Int} {k : Nat} (h0 : pw / 4 < n) (h1 : 1 ≤ k) (h4 : k ≤ 4) (hl : k = 1 ∨ (k - 1 : Int) * pw < n) (h : n ≤ (k : Int) * pw) : needP pw n = k := by
  unfold needP
  rw [if_neg (by omega)]
  rcases (show k = 1 ∨ k = 2 ∨ k = 3 ∨ k = 4 by omega) with rfl | rfl | rfl | rfl
  · rw [if_pos (by omega)]; rfl
  · rw [if_neg (by omega), if_pos (by omega)]; rfl
  · rw [if_neg (by omega), if_neg (by omega), if_pos (by omega)]; rfl
  · rw [if_neg (by omega), if_neg (by omega), if_neg (by omega), if_pos (by omega)]; rfl
theorem needP_none {pw n : Int} (hp : 16 ≤ pw) (h0 : pw / 4 < n) (h : 4 * pw < n) : needP pw n = -1 := by
  unfold needP
  rw [if_neg (by omega), if_neg (by omega), if_neg (by omega), if_neg (by omega), if_neg (by omega)]

set_option maxHeartbeats 1600000 in
theorem refNeed_any (pw np n : Int) (w : World) :
    Calls Try.prog 20 #[.agg #[.int .i64 pw, .int .i64 np], .int .i64 n] w fun e w' => e = .returned (.int .i64 (needV pw np n)) ∧ Below w.heap.size w w' := by
  by_cases hv : confB pw np = true
  · have hc := Lib.hid (fun w => refConf_is hv w)
    by_cases h1 : n < 1
    · rw [need_no (Or.inr h1)]
      clear hv
      go_enter Try.func20, Try.ntmps20
      go_wp2_with fail
      refine (hc.out _).mono ?_
      rintro e w1 ⟨rfl, hb1⟩
      go_wp2
      go_ret
      exact ⟨rfl, below_boxed hb1⟩
    · rw [need_ok hv (by omega)]
      obtain ⟨h4, h5, -, -, -⟩ := conf_parts hv
      have hs := Lib.hid (fun w => refSmall_any pw np w)
      rw [small_ok hv] at hs
      clear hv
      by_cases h0 : n ≤ pw / 4
      · rw [needP_small h0]
        go_enter Try.func20, Try.ntmps20
        go_wp2_with fail
        refine (hc.out _).mono ?_
        rintro e w1 ⟨rfl, hb1⟩
        have c0 := box_cell hb1 0 rfl
        have c1 := box_cell hb1 1 rfl
        go_wp2_with fail
        refine (hs.out _).mono ?_
        rintro e w2 ⟨rfl, hb2⟩
        go_wp2
        go_ret
        exact ⟨rfl, bthen (below_boxed hb1) hb2⟩
      · have h0 : pw / 4 < n := by omega
        go_enter Try.func20, Try.ntmps20
        go_wp2_with fail
        refine (hc.out _).mono ?_
        rintro e w1 ⟨rfl, hb1⟩
        have c0 := box_cell hb1 0 rfl
        have c1 := box_cell hb1 1 rfl
        go_wp2_with fail
        refine (hs.out _).mono ?_
        rintro e w2 ⟨rfl, hb2⟩
        have d0 := cell_keep hb2 c0
        have hw := bthen (below_boxed hb1) hb2
        clear hb1 hb2 hc hs c0 c1
        go_wp2
        go_loop [5] (fun i => ∃ k : Nat, 1 ≤ k ∧ k ≤ 5 ∧ (k = 1 ∨ (k - 1 : Int) * pw < n) ∧ i = .int .i64 k) (fun i => 5 - (intOf i).toNat)
        case atStart => exact ⟨1, by omega, by omega, Or.inl rfl, rfl⟩
        case round =>
          obtain ⟨k, hk1, hk5, hl, rfl⟩ := hrel
          have Hl := Lib.hid hl
          clear hl
          by_cases hk : k ≤ 4
          · have hm1 : (k : Int) * pw ≤ 4 * 64 := Int.mul_le_mul (by omega) h5 (by omega) (by omega)
            have hm0 : 0 ≤ (k : Int) * pw := Int.mul_nonneg (by omega) (by omega)
            have es : ((k + 1 : Nat) - 1 : Int) * pw = (k : Int) * pw := by congr 1; omega
            have Es := Lib.hid es
            clear es
            by_cases hn : n ≤ (k : Int) * pw
            · have E := Lib.hid (needP_at h0 hk1 hk Hl.out hn)
              go_wp2
              go_ret
              exact ⟨ret_int E.out.symm, hw⟩
            · go_wp2
              go_round
              case rel => exact ⟨k + 1, by omega, by omega, Or.inr (by rw [Es.out]; omega), by go_num⟩
              case measure => simp [intOf]; omega
          · obtain rfl : k = 5 := by omega
            have E := Lib.hid (needP_none h4 h0 (by have := Hl.out; omega))
            go_wp2
            go_ret
            exact ⟨ret_int E.out.symm, hw⟩
  · have hv : confB pw np = false := by simpa using hv
    rw [need_no (Or.inl hv)]
    have hc := Lib.hid (fun w => refConf_is hv w)
    clear hv
    go_enter Try.func20, Try.ntmps20
    go_wp2_with fail
    refine (hc.out _).mono ?_
    rintro e w1 ⟨rfl, hb1⟩
    go_wp2
    go_ret
    exact ⟨rfl, below_boxed hb1⟩

theorem inPg_false {pw np p o : Int} (h : p < 0 ∨ np ≤ p ∨ o < 0 ∨ pw ≤ o) : inPg pw np p o = false := decide_eq_false (by omega)

end Go.Proofs.Ytoidfmhkcnpjoaa
