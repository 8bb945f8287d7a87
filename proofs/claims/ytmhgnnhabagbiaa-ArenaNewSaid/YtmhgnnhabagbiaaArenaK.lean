/- The laws ArenaKeeps and ArenaMoves walked. -/
import Derived.Test.YtmhgnnhabagbiaaArenaL
namespace Go.Proofs.Ytmhgnnhabagbiaa
open Go.RowKit

theorem write_read {xs l : List Int} {i : Nat} (h : i + l.length ≤ xs.length) : readV (splice xs i l) (4096 + (i : Int)) l.length = l ∧ readE (splice xs i l) (4096 + (i : Int)) l.length = 0 := by
  have hk : okA (splice xs i l).length (4096 + (i : Int)) l.length = true := decide_eq_true (by rw [splice_len h]; omega)
  obtain ⟨e1, e2⟩ := read_ok hk
  refine ⟨?_, e2⟩
  rw [e1]
  apply List.ext_getElem?
  intro j
  rw [List.getElem?_take]
  by_cases hj : j < l.length
  · rw [if_pos hj, List.getElem?_drop, splice_in h (by omega) (by omega)]; congr 1; omega
  · rw [if_neg hj, List.getElem?_eq_none (by omega)]

set_option maxRecDepth 100000 in
set_option maxHeartbeats 1600000 in
theorem lawKeeps_ok (p q : Option Addr) (n cap m c i : Nat) (xs l : List Int) (a o : Int) (w : World) (hr : SRow w .u64 p n cap xs) (hs : SRow w .u64 q m c l) (ha : Hid (a = 4096 + (i : Int))) (hn : n ≤ 500) (hm : m ≤ 500) (hn0 : 0 < n) (hi : i + m ≤ n) :
    Calls Try.prog 6 #[.slice p n cap, .slice q m c, .int .u64 a, .int .i64 o] w fun e w' => e = .returned (.bool true) ∧ Below w.heap.size w w' := by
  have Hr := Lib.hid hr
  have Hs := Lib.hid hs
  have hxl := Lib.hid hr.len
  have hll := Lib.hid hs.len
  clear hr hs
  have h0 := Lib.hid (light_any p n cap w Hr.out.i63.2)
  have h1 := Lib.hid (light_any q m c w Hs.out.i63.2)
  rw [decide_eq_true hn] at h0
  rw [decide_eq_true hm] at h1
  have hW := write_ok (xs := xs) (l := l) (i := i) (decide_eq_true (by rw [hxl.out, hll.out]; omega))
  have hR := write_read (xs := xs) (l := l) (i := i) (by rw [hxl.out, hll.out]; omega)
  rw [hll.out] at hR
  have ha1 : 4096 ≤ a ∧ a ≤ 5000 := by rw [ha.out]; omega
  obtain ⟨ha1, ha2⟩ := ha1
  rw [← ha.out] at hW hR
  have hw1 := Lib.hid (write_any p q n cap m c xs l a w Hr.out Hs.out (by omega) (by omega) (by omega))
  rw [hW.1, hW.2] at hw1
  clear hW
  have ho1 : -(n : Int) < o.tmod n := Int.lt_tmod_of_pos o (by omega)
  have ho2 : o.tmod n < n := Int.tmod_lt_of_pos o (by omega)
  obtain ⟨r, hr0⟩ : ∃ r : Int, o.tmod n % n = r := ⟨_, rfl⟩
  have hr1 : 0 ≤ r := by rw [← hr0]; exact Int.emod_nonneg _ (by omega)
  have hr2 : r < n := by rw [← hr0]; exact Int.emod_lt_of_pos _ (by omega)
  obtain ⟨j, hj⟩ : ∃ j : Nat, Hid (r = j) := ⟨r.toNat, by unfold Hid; omega⟩
  have hjn : j < n := by have := hj.out; omega
  have hjr : r.toNat = j := by have := hj.out; omega
  go_enter Try.func6, Try.ntmps6
  go_wp2_with fail
  refine h0.out.mono ?_
  rintro e w' ⟨rfl, rfl⟩
  go_wp2_with fail
  refine h1.out.mono ?_
  rintro e w' ⟨rfl, rfl⟩
  clear h0 h1
  go_wp2_with fail
  refine hw1.out.mono ?_
  rintro e w1 ⟨⟨q1, m1, c1, rfl, hq1⟩, hb1⟩
  have hm1 : n = m1 := by rw [← hq1.len, splice_len (by rw [hxl.out, hll.out]; omega), hxl.out]
  subst hm1
  have Hq1 := Lib.hid hq1
  have hw2 := Lib.hid (read_any q1 n c1 (splice xs i l) a m w1 hq1 (by omega) (by omega) (by omega) (by omega))
  rw [hR.1, hR.2] at hw2
  clear hq1 hw1 hR
  go_wp2_with fail
  refine hw2.out.mono ?_
  rintro e w2 ⟨⟨q2, m2, c2, rfl, hq2⟩, hb2⟩
  have Hq2 := Lib.hid hq2
  clear hq2 hw2
  have hb02 := bthen hb1 hb2
  go_wp2_with fail
  refine (same_eq q2 q m2 m c2 c l w2 Hq2.out (Hs.out.keep hb02)).mono ?_
  rintro e w3 ⟨rfl, hb3⟩
  have hb03 := bthen hb02 hb3
  go_wp2_with fail
  · go_at_call 13
    refine (awake_any w3).mono ?_
    rintro e w4 ⟨rfl, hb4⟩
    go_wp2
    go_ret
    exact ⟨rfl, bthen hb03 hb4⟩
  all_goals
    have hout : j < i ∨ i + l.length ≤ j := by rw [hll.out]; have := ha.out; have := hj.out; omega
    obtain ⟨v, b1, o1, hv, rfl, hc1⟩ := (Hr.out.keep hb03).at_ hjn
    obtain ⟨v', b2, o2, hv', rfl, hc2⟩ := (Hq1.out.keep (bthen hb2 hb3)).at_ hjn
    rw [splice_out (by rw [hxl.out, hll.out]; omega) hout, hv] at hv'
    injection hv' with hv'
    subst hv'
    clear hout hv
    have hbd : Below w3.heap.size w3 w3.drew := (Below.refl _ _).drew
    go_region_held3 (fun w' => w'.cell? ⟨b1, o1 + j, none⟩ = some (.int .u64 v) ∧ w'.cell? ⟨b2, o2 + j, none⟩ = some (.int .u64 v) ∧ Below w3.heap.size w3 w')
      (first
        | go_keep
        | (go_split_ands
           refine ⟨?_, ?_, ?_⟩
           · exact cell_keep hb4 (by assumption)
           · exact cell_keep hb4 (by assumption)
           · exact bthen (by assumption) hb4))
      ((go_at_call 13; refine (awake_any _).mono ?_; rintro e w4 ⟨rfl, hb4⟩))
    all_goals
      go_wp2
      go_ret
      exact ⟨rfl, bthen hb03 (bthen hbd hb4)⟩

set_option maxRecDepth 100000 in
set_option maxHeartbeats 1600000 in
theorem lawKeeps_err (p q : Option Addr) (n cap m c : Nat) (xs l : List Int) (a o : Int) (w : World) (hr : SRow w .u64 p n cap xs) (hs : SRow w .u64 q m c l) (ha : 0 ≤ a) (ha2 : a < 18446744073709551616) (hn : n ≤ 500) (hm : m ≤ 500) (hn0 : 0 < n) (hk : okA n a m = false) :
    Calls Try.prog 6 #[.slice p n cap, .slice q m c, .int .u64 a, .int .i64 o] w fun e w' => e = .returned (.bool true) ∧ Below w.heap.size w w' := by
  have h0 := Lib.hid (light_any p n cap w hr.i63.2)
  have h1 := Lib.hid (light_any q m c w hs.i63.2)
  rw [decide_eq_true hn] at h0
  rw [decide_eq_true hm] at h1
  have hW := write_no (xs := xs) (l := l) (a := a) (by rw [hr.len, hs.len]; exact hk)
  have hw1 := Lib.hid (write_any p q n cap m c xs l a w hr hs (by omega) ha ha2)
  rw [hW.1, hW.2] at hw1
  clear hW hr hs hk
  go_enter Try.func6, Try.ntmps6
  go_wp2_with fail
  refine h0.out.mono ?_
  rintro e w' ⟨rfl, rfl⟩
  go_wp2_with fail
  refine h1.out.mono ?_
  rintro e w' ⟨rfl, rfl⟩
  clear h0 h1
  go_wp2_with fail
  refine hw1.out.mono ?_
  rintro e w1 ⟨⟨q1, m1, c1, rfl, hq1⟩, hb1⟩
  obtain rfl : m1 = 0 := hq1.len.symm
  clear hq1 hw1
  go_wp2_with fail
  refine (awake_any w1).mono ?_
  rintro e w2 ⟨rfl, hb2⟩
  go_wp2
  go_ret
  exact ⟨rfl, bthen hb1 hb2⟩

set_option maxRecDepth 100000 in
set_option maxHeartbeats 1600000 in
theorem lawKeeps (p q : Option Addr) (n cap m c : Nat) (xs l : List Int) (a o : Int) (w : World) (hr : SRow w .u64 p n cap xs) (hs : SRow w .u64 q m c l) (ha : 0 ≤ a) (ha2 : a < 18446744073709551616) :
    Calls Try.prog 6 #[.slice p n cap, .slice q m c, .int .u64 a, .int .i64 o] w fun e w' => e = .returned (.bool true) ∧ Below w.heap.size w w' := by
  have h0 := Lib.hid (light_any p n cap w hr.i63.2)
  have h1 := Lib.hid (light_any q m c w hs.i63.2)
  by_cases hn : n ≤ 500
  · by_cases hm : m ≤ 500
    · by_cases hn0 : 0 < n
      · rcases okA_cases n a m with ⟨i, hi, him, hk⟩ | ⟨hk, _⟩
        · exact lawKeeps_ok p q n cap m c i xs l a o w hr hs hi hn hm hn0 him
        · exact lawKeeps_err p q n cap m c xs l a o w hr hs ha ha2 hn hm hn0 hk
      · obtain rfl : n = 0 := by omega
        rw [decide_eq_true hn] at h0
        rw [decide_eq_true hm] at h1
        clear hr hs
        go_enter Try.func6, Try.ntmps6
        go_wp2_with fail
        refine h0.out.mono ?_
        rintro e w' ⟨rfl, rfl⟩
        go_wp2_with fail
        refine h1.out.mono ?_
        rintro e w' ⟨rfl, rfl⟩
        clear h0 h1
        go_wp2_with fail
        refine (awake_any w).mono ?_
        rintro e w2 ⟨rfl, hb2⟩
        go_wp2
        go_ret
        exact ⟨rfl, hb2⟩
    · rw [decide_eq_true hn] at h0
      rw [decide_eq_false hm] at h1
      clear hr hs
      go_enter Try.func6, Try.ntmps6
      go_wp2_with fail
      refine h0.out.mono ?_
      rintro e w' ⟨rfl, rfl⟩
      go_wp2_with fail
      refine h1.out.mono ?_
      rintro e w' ⟨rfl, rfl⟩
      clear h0 h1
      go_wp2_with fail
      refine (awake_any w).mono ?_
      rintro e w2 ⟨rfl, hb2⟩
      go_wp2
      go_ret
      exact ⟨rfl, hb2⟩
  · rw [decide_eq_false hn] at h0
    clear hr hs h1
    go_enter Try.func6, Try.ntmps6
    go_wp2_with fail
    refine h0.out.mono ?_
    rintro e w' ⟨rfl, rfl⟩
    clear h0
    go_wp2_with fail
    refine (awake_any w).mono ?_
    rintro e w2 ⟨rfl, hb2⟩
    go_wp2
    go_ret
    exact ⟨rfl, hb2⟩

theorem move_at {xs : List Int} {i j k r : Nat} {t f : Int} (ht : t = 4096 + (i : Int)) (hf : f = 4096 + (j : Int)) (hi : i + k ≤ xs.length) (hj : j + k ≤ xs.length) (hr : r < k) :
    ∃ v : Int, loadV (splice xs i ((xs.drop j).take k)) (t + (r : Int)) = v ∧ loadE (splice xs i ((xs.drop j).take k)) (t + (r : Int)) = 0 ∧ loadV xs (f + (r : Int)) = v ∧ loadE xs (f + (r : Int)) = 0 := by
  have hl : ((xs.drop j).take k).length = k := by rw [List.length_take, List.length_drop]; omega
  have hx : xs[j + r]? = some (xs[j + r]'(by omega)) := List.getElem?_eq_getElem _
  refine ⟨xs[j + r]'(by omega), ?_⟩
  have e1 : t + (r : Int) = 4096 + ((i + r : Nat) : Int) := by omega
  have e2 : f + (r : Int) = 4096 + ((j + r : Nat) : Int) := by omega
  obtain ⟨a1, a2⟩ := load_ok' (xs := xs) (i := j + r) (decide_eq_true (by omega)) hx
  obtain ⟨b1, b2⟩ := load_ok' (xs := splice xs i ((xs.drop j).take k)) (i := i + r) (x := xs[j + r]'(by omega)) (decide_eq_true (by rw [splice_len (by omega)]; omega)) (by
    rw [splice_in (by omega) (by omega) (by omega), List.getElem?_take, if_pos (by omega), List.getElem?_drop, show i + r - i = r from by omega]; exact hx)
  rw [e1, e2]
  exact ⟨b1, b2, a1, a2⟩

set_option maxRecDepth 100000 in
set_option maxHeartbeats 1600000 in
theorem lawMoves_ok (p : Option Addr) (n cap i j k : Nat) (xs : List Int) (t f : Int) (w : World) (hr : SRow w .u64 p n cap xs) (ht : Hid (t = 4096 + (i : Int))) (hf : Hid (f = 4096 + (j : Int))) (hn : n ≤ 500) (hi : i + k ≤ n) (hj : j + k ≤ n) :
    Calls Try.prog 7 #[.slice p n cap, .int .u64 t, .int .u64 f, .int .i64 k] w fun e w' => e = .returned (.bool true) ∧ Below w.heap.size w w' := by
  have Hr := Lib.hid hr
  have hxl := Lib.hid hr.len
  clear hr
  have h0 := Lib.hid (light_any p n cap w Hr.out.i63.2)
  rw [decide_eq_true hn] at h0
  have ht1 : 4096 ≤ t ∧ t ≤ 5000 := by rw [ht.out]; omega
  have hf1 : 4096 ≤ f ∧ f ≤ 5000 := by rw [hf.out]; omega
  obtain ⟨ht1, ht2⟩ := ht1
  obtain ⟨hf1, hf2⟩ := hf1
  have hM := move_ok (xs := xs) (i := i) (j := j) (n := k) (decide_eq_true (by rw [hxl.out]; omega)) (decide_eq_true (by rw [hxl.out]; omega))
  rw [← ht.out, ← hf.out] at hM
  have hw1 := Lib.hid (move_any p n cap xs t f k w Hr.out (by omega) (by omega) (by omega) (by omega) (by omega) (by omega))
  rw [hM.1, hM.2] at hw1
  clear hM
  go_enter Try.func7, Try.ntmps7
  go_wp2_with fail
  refine h0.out.mono ?_
  rintro e w' ⟨rfl, rfl⟩
  clear h0
  go_wp2_with fail
  refine hw1.out.mono ?_
  rintro e w1 ⟨⟨q1, m1, c1, rfl, hq1⟩, hb1⟩
  have hm1 : n = m1 := by rw [← hq1.len, splice_len (by rw [List.length_take, List.length_drop, hxl.out]; omega), hxl.out]
  subst hm1
  have Hq1 := Lib.hid hq1
  have Hr1 := Lib.hid (Hr.out.keep hb1)
  clear hq1 hw1 Hr
  go_wp2_with fail
  go_loop [11] (fun i' => ∃ r : Nat, r ≤ k ∧ i' = .int .i64 r) (fun i' => k - (intOf i').toNat)
  case atStart => exact ⟨0, by omega, rfl⟩
  case round =>
    obtain ⟨r, hrk, rfl⟩ := hrel
    by_cases hlt : r < k
    · obtain ⟨v, a1, a2, a3, a4⟩ := move_at (r := r) ht.out hf.out (by rw [hxl.out]; exact hi) (by rw [hxl.out]; exact hj) hlt
      have hL1 := Lib.hid (load_any q1 n c1 _ (t + (r : Int)) w1 Hq1.out (by omega) (by omega))
      have hL2 := Lib.hid (load_any p n cap _ (f + (r : Int)) w1 Hr1.out (by omega) (by omega))
      rw [a1, a2] at hL1
      rw [a3, a4] at hL2
      clear a1 a2 a3 a4
      go_wp2_with fail
      refine hL1.out.mono ?_
      rintro e w' ⟨rfl, rfl⟩
      go_wp2_with fail
      refine hL2.out.mono ?_
      rintro e w' ⟨rfl, rfl⟩
      clear hL1 hL2
      go_wp2
      go_round
      case rel => exact ⟨r + 1, by omega, by go_num⟩
      case measure => simp [intOf]; omega
    · go_wp2_with fail
      refine (awake_any w1).mono ?_
      rintro e w2 ⟨rfl, hb2⟩
      go_wp2
      go_ret
      exact ⟨rfl, bthen hb1 hb2⟩

set_option maxRecDepth 100000 in
set_option maxHeartbeats 1600000 in
theorem lawMoves_err (p : Option Addr) (n cap : Nat) (xs : List Int) (t f k : Int) (w : World) (hr : SRow w .u64 p n cap xs) (ht : 0 ≤ t) (ht2 : t < 18446744073709551616) (hf : 0 ≤ f) (hf2 : f < 18446744073709551616) (hk : k ≤ 9223372036854775807) (hn : n ≤ 500) (hv : moveV xs t f k = []) (he : Hid (moveE xs t f k ≠ 0)) :
    Calls Try.prog 7 #[.slice p n cap, .int .u64 t, .int .u64 f, .int .i64 k] w fun e w' => e = .returned (.bool true) ∧ Below w.heap.size w w' := by
  have h0 := Lib.hid (light_any p n cap w hr.i63.2)
  rw [decide_eq_true hn] at h0
  have hw1 := Lib.hid (move_any p n cap xs t f k w hr (by omega) ht ht2 hf hf2 hk)
  rw [hv] at hw1
  have he2 : (moveE xs t f k != 0) = true := by rw [bne_iff_ne]; exact he.out
  obtain ⟨er, her⟩ : ∃ er, moveE xs t f k = er := ⟨_, rfl⟩
  rw [her] at he2 hw1
  clear hr hv he her
  go_enter Try.func7, Try.ntmps7
  go_wp2_with fail
  refine h0.out.mono ?_
  rintro e w' ⟨rfl, rfl⟩
  clear h0
  go_wp2_with fail
  refine hw1.out.mono ?_
  rintro e w1 ⟨⟨q1, m1, c1, rfl, hq1⟩, hb1⟩
  obtain rfl : m1 = 0 := hq1.len.symm
  clear hq1 hw1
  go_wp2_with fail
  refine (awake_any w1).mono ?_
  rintro e w2 ⟨rfl, hb2⟩
  go_wp2
  go_ret
  exact ⟨rfl, bthen hb1 hb2⟩

set_option maxRecDepth 100000 in
set_option maxHeartbeats 1600000 in
theorem lawMoves (p : Option Addr) (n cap : Nat) (xs : List Int) (t f k : Int) (w : World) (hr : SRow w .u64 p n cap xs) (ht : 0 ≤ t) (ht2 : t < 18446744073709551616) (hf : 0 ≤ f) (hf2 : f < 18446744073709551616) (hk : k ≤ 9223372036854775807) :
    Calls Try.prog 7 #[.slice p n cap, .int .u64 t, .int .u64 f, .int .i64 k] w fun e w' => e = .returned (.bool true) ∧ Below w.heap.size w w' := by
  by_cases hn : n ≤ 500
  · by_cases h1 : k < 0
    · obtain ⟨e1, e2⟩ := move_arg (xs := xs) (t := t) (f := f) h1
      exact lawMoves_err p n cap xs t f k w hr ht ht2 hf hf2 hk hn e1 (by unfold Hid; rw [e2]; omega)
    · obtain ⟨k, rfl⟩ : ∃ m : Nat, k = m := ⟨k.toNat, by omega⟩
      rcases okA_cases n t k with ⟨i, hi, him, hk1⟩ | ⟨hk1, _⟩
      · rcases okA_cases n f k with ⟨j, hj, hjm, hk2⟩ | ⟨hk2, _⟩
        · exact lawMoves_ok p n cap i j k xs t f w hr hi hj hn him hjm
        · obtain ⟨e1, e2⟩ := move_no (xs := xs) (t := t) (f := f) (n := k) (Or.inr (by rw [hr.len]; exact hk2))
          exact lawMoves_err p n cap xs t f k w hr ht ht2 hf hf2 hk hn e1 (by unfold Hid; rw [e2]; omega)
      · obtain ⟨e1, e2⟩ := move_no (xs := xs) (t := t) (f := f) (n := k) (Or.inl (by rw [hr.len]; exact hk1))
        exact lawMoves_err p n cap xs t f k w hr ht ht2 hf hf2 hk hn e1 (by unfold Hid; rw [e2]; omega)
  · have h0 := Lib.hid (light_any p n cap w hr.i63.2)
    rw [decide_eq_false hn] at h0
    clear hr
    go_enter Try.func7, Try.ntmps7
    go_wp2_with fail
    refine h0.out.mono ?_
    rintro e w' ⟨rfl, rfl⟩
    go_wp2
    go_ret
    exact ⟨rfl, Below.refl _ _⟩
end Go.Proofs.Ytmhgnnhabagbiaa
