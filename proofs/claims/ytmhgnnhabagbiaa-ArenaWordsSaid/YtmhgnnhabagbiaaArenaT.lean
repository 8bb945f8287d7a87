/- Contracts of the references of layer 2: Store, Move; the law's helpers. -/
import Derived.Test.YtmhgnnhabagbiaaArenaS
namespace Go.Proofs.Ytmhgnnhabagbiaa
open Go.RowKit

set_option maxHeartbeats 400000 in
theorem refStore_any (p : Option Addr) (n cap : Nat) (xs : List Int) (a v : Int) (w : World) (hr : SRow w .u64 p n cap xs) (hn : n ≤ 100000) (ha : 0 ≤ a) (ha2 : a < 18446744073709551616) :
    Calls Try.prog 18 #[.slice p n cap, .int .u64 a, .int .u64 v] w fun e w' => RetS (writeV xs a [v]) (writeE xs a [v]) e w' ∧ Below w.heap.size w w' := by
  have hb0 : Below w.heap.size w (w.alloc (.cells #[.int .u64 v] 23)) := (Below.refl _ _).alloc (Nat.le_refl _) _
  have hc := Lib.hid (refWrite_any p (some ⟨w.heap.size, 0, none⟩) n cap 1 1 xs [v] a _ (hr.keep hb0) (one_row w 23 v) hn (by omega) ha ha2)
  clear hr hb0
  go_enter Try.func18, Try.ntmps18
  go_wp2_with fail
  refine hc.out.mono ?_
  rintro e w' ⟨⟨q, m, c, rfl, hq⟩, hb⟩
  have hq := Lib.hid hq
  clear hc
  go_wp2
  go_ret2
  exact ⟨⟨q, m, c, rfl, hq.out⟩, bthen ((Below.refl _ _).alloc (Nat.le_refl _) _) hb⟩

/-- Move by way of Read and Write. -/
theorem read_then {xs : List Int} {t f m : Int} : (readE xs f m = 0 → moveV xs t f m = writeV xs t (readV xs f m) ∧ moveE xs t f m = writeE xs t (readV xs f m)) ∧ (readE xs f m ≠ 0 → moveV xs t f m = [] ∧ moveE xs t f m = readE xs f m) := by
  by_cases h1 : m < 0
  · obtain ⟨e1, e2⟩ := read_arg (xs := xs) (a := f) h1
    obtain ⟨e3, e4⟩ := move_arg (xs := xs) (t := t) (f := f) h1
    rw [e2]
    exact ⟨fun h => by omega, fun _ => ⟨e3, e4⟩⟩
  · obtain ⟨k, rfl⟩ : ∃ k : Nat, m = k := ⟨m.toNat, by omega⟩
    rcases okA_cases xs.length f k with ⟨j, rfl, hj, hk⟩ | ⟨hk, hj⟩
    · obtain ⟨e1, e2⟩ := read_ok hk
      rw [e1, e2]
      refine ⟨fun _ => ?_, fun h => by omega⟩
      have hl : ((xs.drop j).take k).length = k := by rw [List.length_take, List.length_drop]; omega
      rcases okA_cases xs.length t k with ⟨i, rfl, hi, hk2⟩ | ⟨hk2, hi⟩
      · obtain ⟨e3, e4⟩ := move_ok hk2 hk
        obtain ⟨e5, e6⟩ := write_ok (xs := xs) (l := (xs.drop j).take k) (i := i) (by rw [hl]; exact hk2)
        rw [e3, e4, e5, e6]; exact ⟨rfl, rfl⟩
      · obtain ⟨e3, e4⟩ := move_no (xs := xs) (t := t) (f := 4096 + (j : Int)) (n := k) (Or.inl hk2)
        obtain ⟨e5, e6⟩ := write_no (xs := xs) (l := (xs.drop j).take k) (a := t) (by rw [hl]; exact hk2)
        rw [e3, e4, e5, e6]; exact ⟨rfl, rfl⟩
    · obtain ⟨e1, e2⟩ := read_no hk
      obtain ⟨e3, e4⟩ := move_no (xs := xs) (t := t) (f := f) (n := k) (Or.inr hk)
      rw [e2]
      exact ⟨fun h => by omega, fun _ => ⟨e3, e4⟩⟩

theorem readV_len (xs : List Int) (a m : Int) : (readV xs a m).length ≤ xs.length := by
  unfold readV
  by_cases h1 : m < 0
  · rw [if_pos h1]; exact Nat.zero_le _
  · rw [if_neg h1]
    by_cases h2 : okA xs.length a m.toNat = true
    · rw [if_pos h2, List.length_take, List.length_drop]; omega
    · rw [if_neg h2]; exact Nat.zero_le _

set_option maxHeartbeats 400000 in
theorem refMove_any (p : Option Addr) (n cap : Nat) (xs : List Int) (t f m : Int) (w : World) (hr : SRow w .u64 p n cap xs) (hn : n ≤ 100000) (ht : 0 ≤ t) (ht2 : t < 18446744073709551616) (hf : 0 ≤ f) (hf2 : f < 18446744073709551616) (hm : m ≤ 9223372036854775807) :
    Calls Try.prog 24 #[.slice p n cap, .int .u64 t, .int .u64 f, .int .i64 m] w fun e w' => RetS (moveV xs t f m) (moveE xs t f m) e w' ∧ Below w.heap.size w w' := by
  have hc := Lib.hid (refRead_any p n cap xs f m w hr hn hf hf2 hm)
  have hlen := Lib.hid hr.len
  have Hr := Lib.hid hr
  have hrl := readV_len xs f m
  clear hr
  by_cases h0 : readE xs f m = 0
  · obtain ⟨e1, e2⟩ := (read_then (xs := xs) (t := t) (f := f) (m := m)).1 h0
    have E1 := Lib.hid e1; have E2 := Lib.hid e2
    rw [h0] at hc
    clear e1 e2 h0
    go_enter Try.func24, Try.ntmps24
    go_wp2_with fail
    refine hc.out.mono ?_
    rintro e w1 ⟨⟨q, k, c, rfl, hq⟩, hb⟩
    have hk : k ≤ 100000 := by rw [← hq.len]; rw [hlen.out] at hrl; omega
    have hw := Lib.hid (refWrite_any p q n cap k c xs (readV xs f m) t w1 (Hr.out.keep hb) hq hn hk ht ht2)
    clear hc hq hrl
    go_wp2_with fail
    refine hw.out.mono ?_
    rintro e w2 ⟨⟨q2, k2, c2, rfl, hq2⟩, hb2⟩
    have hq2 := Lib.hid hq2
    clear hw
    go_wp2
    go_ret2
    exact ⟨RetS.mk hq2.out E1.out E2.out, bthen hb hb2⟩
  · obtain ⟨e1, e2⟩ := (read_then (xs := xs) (t := t) (f := f) (m := m)).2 h0
    have E1 := Lib.hid e1; have E2 := Lib.hid e2
    have h0' : (readE xs f m != 0) = true := by rw [bne_iff_ne]; exact h0
    clear e1 e2 h0 hrl
    go_enter Try.func24, Try.ntmps24
    go_wp2_with fail
    refine hc.out.mono ?_
    rintro e w1 ⟨⟨q, k, c, rfl, hq⟩, hb⟩
    clear hc hq
    go_wp2
    go_ret2
    exact ⟨RetS.no E1.out E2.out, hb⟩

set_option maxHeartbeats 400000 in
theorem light_any (p : Option Addr) (n cap : Nat) (w : World) (hn : (n : Int) ≤ 9223372036854775807) :
    Calls Try.prog 8 #[.slice p n cap] w fun e w' => e = .returned (.bool (decide (n ≤ 500))) ∧ w = w' := by
  go_enter Try.func8, Try.ntmps8
  go_wp2
  go_ret
  exact ⟨ret_bool (by simp; try omega), rfl⟩

theorem two_row (w : World) (T : TypeId) (u v : Int) : SRow (w.alloc (.cells #[.int .u64 u, .int .u64 v] T)) .u64 (some ⟨w.heap.size, 0, none⟩) 2 2 [u, v] :=
  ⟨rfl, Nat.le_refl _, by unfold maxLen; omega, fun i x hx => by
    match i with
    | 0 => simp at hx; subst hx; exact ⟨_, _, rfl, by simp⟩
    | 1 => simp at hx; subst hx; exact ⟨_, _, rfl, by simp⟩
    | i + 2 => simp at hx⟩

set_option maxHeartbeats 400000 in
theorem awake_any (w : World) :
    Calls Try.prog 13 #[] w fun e w' => e = .returned (.bool true) ∧ Below w.heap.size w w' := by
  have hc := Lib.hid (load_any (some ⟨w.heap.size, 0, none⟩) 2 2 [7, 8] 4097 _ (two_row w 23 7 8) (by omega) (by omega))
  rw [show loadV [7, 8] 4097 = 8 from by decide, show loadE [7, 8] 4097 = 0 from by decide] at hc
  go_enter Try.func13, Try.ntmps13
  go_wp2_with fail
  refine hc.out.mono ?_
  rintro e w' ⟨rfl, rfl⟩
  clear hc
  go_wp2
  go_ret
  exact ⟨rfl, (Below.refl _ _).alloc (Nat.le_refl _) _⟩
end Go.Proofs.Ytmhgnnhabagbiaa
