/- Contracts of package scope: validCap, validIssued, countLive, span.live, issued. -/
import Derived.Test.YtapfbnhcndifhaaScM
import Derived.Test.YtapfbnhcndifhaaCut
namespace Go.Proofs.Ytapfbnhcndifhaa
open Go.RowKit

theorem validCap_any (c : Int) (w : World) :
    Calls Try.prog 51 #[.int .i64 c] w fun e w' => e = .returned (.bool (capB c)) ∧ w = w' := by
  unfold capB
  by_cases h0 : 0 ≤ c
  · go_enter Try.func51, Try.ntmps51
    go_wp2
    go_ret
    exact ⟨ret_bool (by simp [h0]), rfl⟩
  · go_enter Try.func51, Try.ntmps51
    go_wp2
    go_ret
    exact ⟨ret_bool (by rw [decide_eq_false (show ¬ 0 ≤ c by omega), Bool.false_and]), rfl⟩

set_option maxHeartbeats 800000 in
theorem validIssued_any (p : Option Addr) (n cap : Nat) (xs : List Int) (w : World) (hr : SRow w .i64 p n cap xs) :
    Calls Try.prog 48 #[.slice p n cap] w fun e w' => e = .returned (.bool (issAll xs)) ∧ w = w' := by
  have hl := hr.i63.2
  have Hr := Lib.hid hr
  have Hlen := Lib.hid hr.len
  clear hr
  by_cases hbig : (4096 : Int) < n
  · have H := Lib.hid (issAll_long (xs := xs) (by have := Hlen.out; omega))
    go_enter Try.func48, Try.ntmps48
    go_wp2
    go_ret
    exact ⟨ret_bool H.out.symm, rfl⟩
  · go_enter Try.func48, Try.ntmps48
    go_wp2
    go_loop [10] (fun i => ∃ k : Nat, k ≤ n ∧ (∀ j x, j < k → xs[j]? = some x → 0 ≤ x ∧ x < 4096) ∧ i = .int .i64 k) (fun i => n - (intOf i).toNat)
    case atStart => exact ⟨0, by omega, fun j x h => absurd h (Nat.not_lt_zero _), rfl⟩
    case round =>
      obtain ⟨k, hk, hf, rfl⟩ := hrel
      have Hf := Lib.hid hf
      clear hf
      by_cases hlt : k < n
      · obtain ⟨x, b, off, hx, rfl, hc⟩ := Hr.out.at_ hlt
        have Hx := Lib.hid hx
        have hlt2 : (k : Int) < n := by omega
        clear hx
        by_cases h0 : x < 0
        · have H := Lib.hid (issAll_bad Hx.out (.inl h0))
          go_wp2
          go_ret
          exact ⟨ret_bool H.out.symm, rfl⟩
        · by_cases h1 : 4096 ≤ x
          · have H := Lib.hid (issAll_bad Hx.out (.inr h1))
            go_wp2
            go_ret
            exact ⟨ret_bool H.out.symm, rfl⟩
          · go_wp2
            go_round
            case rel => exact ⟨k + 1, by omega, fun j y hj hy => by
              by_cases e : j = k
              · subst e; rw [Hx.out] at hy; cases hy; omega
              · exact Hf.out j y (by omega) hy, by go_num⟩
            case measure => simp [intOf]; omega
      · have H := Lib.hid (issAll_good (xs := xs) (by have := Hlen.out; omega) fun j x hj hx => Hf.out j x (by have := Hlen.out; omega) hx)
        go_wp2
        go_ret
        exact ⟨ret_bool H.out.symm, rfl⟩

set_option maxHeartbeats 800000 in
theorem countLive_any (p : Option Addr) (n cap : Nat) (sl : List Sl) (w : World) (hr : VRow w 3 p n cap (sl.flatMap slC)) :
    Calls Try.prog 63 #[.slice p n cap] w fun e w' => e = .returned (.int .i64 (cnt sl)) ∧ Below w.heap.size w w' := by
  have hl := hr.i63.2
  have Hr := Lib.hid (fun w' (h : Below w.heap.size w w') => hr.keep h)
  have Hlen := Lib.hid (show sl.length = n from by have h := hr.len; rw [flat_len _ 3 slC_len] at h; omega)
  clear hr
  go_enter Try.func63, Try.ntmps63
  go_wp2
  go_loopw [3, 8] (fun c i wr => ∃ k m : Nat, k ≤ n ∧ m ≤ k ∧ m = cnt (sl.take k) ∧ c = .int .i64 m ∧ i = .int .i64 k ∧ Below w.heap.size w wr) (fun _ i _ => n - (intOf i).toNat)
  case atStart => exact ⟨0, 0, by omega, by omega, by simp [cnt], rfl, rfl, Below.refl _ _⟩
  case round =>
    obtain ⟨k, m, hk, hmk, hm, rfl, rfl, hb⟩ := hrel
    have Hm := Lib.hid hm
    clear hm
    by_cases hlt : k < n
    · obtain ⟨x, b, off, hx, rfl, c0, c1, c2⟩ := slot_at (Hr.out wr hb) hlt
      have hs := cnt_take hx
      have hlt2 : (k : Int) < n := by omega
      clear hx
      by_cases h0 : x.lv = true
      · rw [if_pos h0] at hs
        have Hs := Lib.hid hs
        rw [h0] at c2
        clear hs h0
        go_wp2
        go_roundw
        case rel => exact ⟨k + 1, m + 1, by omega, by omega, by rw [Hs.out, Hm.out], by go_num, by go_num, bthen hb below_box⟩
        case measure => simp [intOf]; omega
      · rw [if_neg h0] at hs
        have Hs := Lib.hid hs
        rw [Bool.not_eq_true] at h0
        rw [h0] at c2
        clear hs h0
        go_wp2
        go_roundw
        case rel => exact ⟨k + 1, m, by omega, by omega, by rw [Hs.out, Hm.out]; omega, rfl, by go_num, bthen hb below_box⟩
        case measure => simp [intOf]; omega
    · have E := Lib.hid (show sl.take k = sl from List.take_of_length_le (by rw [Hlen.out]; omega))
      go_wp2
      go_ret
      exact ⟨ret_int (by rw [Hm.out, E.out]), hb⟩

theorem part_row {w : World} {p : Option Addr} {n cap : Nat} {sl : List Sl} (h : VRow w 3 p n cap (sl.flatMap slC)) {a b : Nat} (hab : a ≤ b) (hb : b ≤ n) : VRow w 3 (cutS 3 p cap a) (b - a) (cap - a) ((part sl a b).flatMap slC) := by
  have hc := h.cut (l := a) (m := b - a) (by omega)
  rw [flat_cut _ 3 slC_len, flat_take _ 3 slC_len] at hc
  have e : part sl a b = (sl.drop a).take (b - a) := by unfold part; rw [Int.toNat_natCast]; congr 1; omega
  rw [e]; exact hc
set_option maxHeartbeats 800000 in
/-- How many of a scope's slots are live. -/
theorem spanLive_any (p : Option Addr) (n cap : Nat) (sl : List Sl) (fr cp : Int) (bs : Bool) (to : Int) (w : World) (hr : VRow w 3 p n cap (sl.flatMap slC)) (h0 : 0 ≤ fr) (h1 : fr ≤ to) (h2 : to ≤ n) :
    Calls Try.prog 53 #[.agg #[.int .i64 fr, .int .i64 cp, .bool bs, .int .i64 to], .slice p n cap] w fun e w' => e = .returned (.int .i64 (cnt (part sl fr to))) ∧ Below w.heap.size w w' := by
  obtain ⟨a, rfl⟩ : ∃ a : Nat, fr = a := ⟨fr.toNat, by omega⟩
  obtain ⟨b, rfl⟩ : ∃ b : Nat, to = b := ⟨to.toNat, by omega⟩
  have hle := hr.le
  have Hp := Lib.hid (fun w' (h : Below w.heap.size w w') => part_row (hr.keep h) (a := a) (b := b) (by omega) (by omega))
  obtain ⟨ca, hca⟩ : ∃ ca, Hid (cutS 3 p cap a = ca) := ⟨_, rfl⟩
  rw [hca.out] at Hp
  have hc := Lib.hid (fun w h => countLive_any ca (b - a) (cap - a) (part sl a b) w h)
  clear hr
  go_enter Try.func53, Try.ntmps53
  go_wp2_with (first
    | ((with_reducible refine wpList_cutS rfl _ _ _ 24 rfl 75 Try.underlying24 3 (by kernel_rfl) p n cap rfl .i64 .i64 (a : Int) (b : Int) rfl rfl a (b - a) rfl (by omega) (by omega) ?_); rw [hca.out])
    | ((go_at_call 63; refine (hc.out _ (Hp.out _ below_box)).mono ?_); rintro e w1 ⟨rfl, hb1⟩))
  go_ret
  exact ⟨rfl, below_boxed hb1⟩
end Go.Proofs.Ytapfbnhcndifhaa
