/- The laws of layer 2 walked. -/
import Derived.Test.YtmhgnnhabagbiaaArenaT
import Derived.Test.YtmhgnnhabagbiaaSame
namespace Go.Proofs.Ytmhgnnhabagbiaa
open Go.RowKit

/-- Two rows of the same words. -/
theorem same_eq (p q : Option Addr) (n m cap cap' : Nat) (xs : List Int) (w : World) (hr : SRow w .u64 p n cap xs) (hr' : SRow w .u64 q m cap' xs) :
    Calls Try.prog 14 #[.slice p n cap, .slice q m cap'] w fun e w' => e = .returned (.bool true) ∧ Below w.heap.size w w' :=
  (same_any p q n m cap cap' xs xs w hr.len hr'.len hr.i63.2 hr.row hr'.row).mono fun e w' h => ⟨by rw [h.1]; simp, h.2.below _⟩

set_option maxHeartbeats 800000 in
theorem lawNew (n : Int) (p : Option Addr) (len cap : Nat) (xs : List Int) (a : Int) (w : World) (hr : SRow w .u64 p len cap xs) (ha : 0 ≤ a) (ha2 : a < 18446744073709551616) :
    Calls Try.prog 3 #[.int .i64 n, .slice p len cap, .int .u64 a] w fun e w' => e = .returned (.bool true) ∧ Below w.heap.size w w' := by
  have hl := hr.i63.2
  clear hr
  have h0 := Lib.hid (light_any p len cap w hl)
  by_cases hlt : len ≤ 500
  · rw [decide_eq_true hlt] at h0
    go_enter Try.func3, Try.ntmps3
    go_wp2_with fail
    refine h0.out.mono ?_
    rintro e w' ⟨rfl, rfl⟩
    clear h0
    go_wp2_with fail
    refine (new_any n w).mono ?_
    rintro e w1 ⟨⟨q1, m1, c1, rfl, hq1⟩, hb1⟩
    have Hq1 := Lib.hid hq1
    clear hq1
    go_wp2_with fail
    refine (refNew_any n w1).mono ?_
    rintro e w2 ⟨⟨q2, m2, c2, rfl, hq2⟩, hb2⟩
    have Hq2 := Lib.hid hq2
    clear hq2
    go_wp2_with fail
    refine (index_any p len cap a w2 hl ha ha2).mono ?_
    rintro e w' ⟨rfl, rfl⟩
    go_wp2_with fail
    refine (refIndex_any p len cap a w2 (by omega) ha ha2).mono ?_
    rintro e w' ⟨rfl, rfl⟩
    go_wp2_with fail
    refine (awake_any w2).mono ?_
    rintro e w3 ⟨rfl, hb3⟩
    go_wp2_with fail
    refine (same_eq q1 q2 m1 m2 c1 c2 _ w3 (Hq1.out.keep (bthen hb2 hb3)) (Hq2.out.keep hb3)).mono ?_
    rintro e w4 ⟨rfl, hb4⟩
    go_wp2
    go_ret
    exact ⟨rfl, bthen (bthen (bthen hb1 hb2) hb3) hb4⟩
  · rw [decide_eq_false hlt] at h0
    go_enter Try.func3, Try.ntmps3
    go_wp2_with fail
    refine h0.out.mono ?_
    rintro e w' ⟨rfl, rfl⟩
    clear h0
    go_wp2
    go_ret
    exact ⟨rfl, Below.refl _ _⟩

set_option maxHeartbeats 800000 in
theorem lawWords (p : Option Addr) (len cap : Nat) (xs : List Int) (a v : Int) (w : World) (hr : SRow w .u64 p len cap xs) (ha : 0 ≤ a) (ha2 : a < 18446744073709551616) :
    Calls Try.prog 4 #[.slice p len cap, .int .u64 a, .int .u64 v] w fun e w' => e = .returned (.bool true) ∧ Below w.heap.size w w' := by
  have hl := hr.i63.2
  have Hr := Lib.hid hr
  clear hr
  have h0 := Lib.hid (light_any p len cap w hl)
  by_cases hlt : len ≤ 500
  · rw [decide_eq_true hlt] at h0
    go_enter Try.func4, Try.ntmps4
    go_wp2_with fail
    refine h0.out.mono ?_
    rintro e w' ⟨rfl, rfl⟩
    clear h0
    go_wp2_with fail
    refine (load_any p len cap xs a w Hr.out ha ha2).mono ?_
    rintro e w' ⟨rfl, rfl⟩
    go_wp2_with fail
    refine (refLoad_any p len cap xs a w Hr.out (by omega) ha ha2).mono ?_
    rintro e w' ⟨rfl, rfl⟩
    go_wp2_with fail
    refine (store_any p len cap xs a v w Hr.out (by omega) ha ha2).mono ?_
    rintro e w1 ⟨⟨q1, m1, c1, rfl, hq1⟩, hb1⟩
    have Hq1 := Lib.hid hq1
    clear hq1
    go_wp2_with fail
    refine (refStore_any p len cap xs a v w1 (Hr.out.keep hb1) (by omega) ha ha2).mono ?_
    rintro e w2 ⟨⟨q2, m2, c2, rfl, hq2⟩, hb2⟩
    have Hq2 := Lib.hid hq2
    clear hq2
    go_wp2_with fail
    refine (awake_any w2).mono ?_
    rintro e w3 ⟨rfl, hb3⟩
    go_wp2_with fail
    refine (same_eq q1 q2 m1 m2 c1 c2 _ w3 (Hq1.out.keep (bthen hb2 hb3)) (Hq2.out.keep hb3)).mono ?_
    rintro e w4 ⟨rfl, hb4⟩
    go_wp2
    go_ret
    exact ⟨rfl, bthen (bthen (bthen hb1 hb2) hb3) hb4⟩
  · rw [decide_eq_false hlt] at h0
    go_enter Try.func4, Try.ntmps4
    go_wp2_with fail
    refine h0.out.mono ?_
    rintro e w' ⟨rfl, rfl⟩
    clear h0
    go_wp2
    go_ret
    exact ⟨rfl, Below.refl _ _⟩

set_option maxRecDepth 20000 in
set_option maxHeartbeats 1600000 in
theorem lawRanges (p q : Option Addr) (n cap m c : Nat) (xs l : List Int) (t f k : Int) (w : World) (hr : SRow w .u64 p n cap xs) (hs : SRow w .u64 q m c l) (ht : 0 ≤ t) (ht2 : t < 18446744073709551616) (hf : 0 ≤ f) (hf2 : f < 18446744073709551616) (hk : k ≤ 9223372036854775807) :
    Calls Try.prog 5 #[.slice p n cap, .slice q m c, .int .u64 t, .int .u64 f, .int .i64 k] w fun e w' => e = .returned (.bool true) ∧ Below w.heap.size w w' := by
  have hl := hr.i63.2
  have hl2 := hs.i63.2
  have Hr := Lib.hid hr
  have Hs := Lib.hid hs
  clear hr hs
  have h0 := Lib.hid (light_any p n cap w hl)
  have h1 := Lib.hid (light_any q m c w hl2)
  by_cases hlt : n ≤ 500
  · rw [decide_eq_true hlt] at h0
    by_cases hlt2 : m ≤ 500
    · rw [decide_eq_true hlt2] at h1
      go_enter Try.func5, Try.ntmps5
      go_wp2_with fail
      refine h0.out.mono ?_
      rintro e w' ⟨rfl, rfl⟩
      go_wp2_with fail
      refine h1.out.mono ?_
      rintro e w' ⟨rfl, rfl⟩
      clear h0 h1
      go_wp2_with fail
      refine (read_any p n cap xs f k w Hr.out (by omega) hf hf2 hk).mono ?_
      rintro e w1 ⟨⟨q1, m1, c1, rfl, hq1⟩, hb1⟩
      have Hq1 := Lib.hid hq1
      clear hq1
      go_wp2_with fail
      refine (refRead_any p n cap xs f k w1 (Hr.out.keep hb1) (by omega) hf hf2 hk).mono ?_
      rintro e w2 ⟨⟨q2, m2, c2, rfl, hq2⟩, hb2⟩
      have Hq2 := Lib.hid hq2
      clear hq2
      have hb02 := bthen hb1 hb2
      go_wp2_with fail
      refine (write_any p q n cap m c xs l t w2 (Hr.out.keep hb02) (Hs.out.keep hb02) (by omega) ht ht2).mono ?_
      rintro e w3 ⟨⟨q3, m3, c3, rfl, hq3⟩, hb3⟩
      have Hq3 := Lib.hid hq3
      clear hq3
      have hb03 := bthen hb02 hb3
      go_wp2_with fail
      refine (refWrite_any p q n cap m c xs l t w3 (Hr.out.keep hb03) (Hs.out.keep hb03) (by omega) (by omega) ht ht2).mono ?_
      rintro e w4 ⟨⟨q4, m4, c4, rfl, hq4⟩, hb4⟩
      have Hq4 := Lib.hid hq4
      clear hq4
      have hb04 := bthen hb03 hb4
      go_wp2_with fail
      refine (move_any p n cap xs t f k w4 (Hr.out.keep hb04) (by omega) ht ht2 hf hf2 hk).mono ?_
      rintro e w5 ⟨⟨q5, m5, c5, rfl, hq5⟩, hb5⟩
      have Hq5 := Lib.hid hq5
      clear hq5
      have hb05 := bthen hb04 hb5
      go_wp2_with fail
      refine (refMove_any p n cap xs t f k w5 (Hr.out.keep hb05) (by omega) ht ht2 hf hf2 hk).mono ?_
      rintro e w6 ⟨⟨q6, m6, c6, rfl, hq6⟩, hb6⟩
      have Hq6 := Lib.hid hq6
      clear hq6
      have hb06 := bthen hb05 hb6
      go_wp2_with fail
      refine (awake_any w6).mono ?_
      rintro e w7 ⟨rfl, hb7⟩
      have hb67 := bthen hb6 hb7
      have hb57 := bthen hb5 hb67
      have hb47 := bthen hb4 hb57
      have hb37 := bthen hb3 hb47
      have hb27 := bthen hb2 hb37
      have S1 := Lib.hid (Hq1.out.keep hb27)
      have S2 := Lib.hid (Hq2.out.keep hb37)
      have S3 := Lib.hid (Hq3.out.keep hb47)
      have S4 := Lib.hid (Hq4.out.keep hb57)
      have S5 := Lib.hid (Hq5.out.keep hb67)
      have S6 := Lib.hid (Hq6.out.keep hb7)
      go_wp2_with fail
      refine (same_eq q1 q2 m1 m2 c1 c2 _ w7 S1.out S2.out).mono ?_
      rintro e w8 ⟨rfl, hb8⟩
      go_wp2_with fail
      refine (same_eq q3 q4 m3 m4 c3 c4 _ w8 (S3.out.keep hb8) (S4.out.keep hb8)).mono ?_
      rintro e w9 ⟨rfl, hb9⟩
      have hb79 := bthen hb8 hb9
      go_wp2_with fail
      refine (same_eq q5 q6 m5 m6 c5 c6 _ w9 (S5.out.keep hb79) (S6.out.keep hb79)).mono ?_
      rintro e w10 ⟨rfl, hb10⟩
      go_wp2
      go_ret
      exact ⟨rfl, bthen (bthen (bthen hb06 hb7) hb79) hb10⟩
    · rw [decide_eq_false hlt2] at h1
      go_enter Try.func5, Try.ntmps5
      go_wp2_with fail
      refine h0.out.mono ?_
      rintro e w' ⟨rfl, rfl⟩
      go_wp2_with fail
      refine h1.out.mono ?_
      rintro e w' ⟨rfl, rfl⟩
      go_wp2
      go_ret
      exact ⟨rfl, Below.refl _ _⟩
  · rw [decide_eq_false hlt] at h0
    go_enter Try.func5, Try.ntmps5
    go_wp2_with fail
    refine h0.out.mono ?_
    rintro e w' ⟨rfl, rfl⟩
    go_wp2
    go_ret
    exact ⟨rfl, Below.refl _ _⟩
end Go.Proofs.Ytmhgnnhabagbiaa
