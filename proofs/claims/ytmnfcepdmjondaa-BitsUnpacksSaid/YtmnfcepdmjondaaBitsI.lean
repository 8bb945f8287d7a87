/- Contract of the reference's Unpack; the law BitsUnpacks walked. -/
import Derived.Test.YtmnfcepdmjondaaBitsH
namespace Go.Proofs.Ytmnfcepdmjondaa
open Go.RowKit

theorem andNot_zero (x s : Nat) (hx : x < 18446744073709551616) (hs : s ≤ 64) : (x &&& (18446744073709551615 - onesN s) = 0) ↔ x >>> s = 0 := by
  have e0 : min (s : Int).toNat 64 = s := by omega
  have ho : onesN s = 2 ^ s - 1 := by unfold onesN; rw [e0]
  have hp := pow_pos2 s
  have hle := pow_le64 s hs
  have e64 : (18446744073709551615 : Nat) - onesN s = 2 ^ 64 - (onesN s + 1) := by omega
  have hb : ∀ i, (x &&& (18446744073709551615 - onesN s)).testBit i = (x.testBit i && (decide (i < 64) && !decide (i < s))) := by
    intro i
    rw [e64, Nat.testBit_and, Nat.testBit_two_pow_sub_succ (by omega), onesN_bit, e0]
  constructor
  · intro h
    refine Nat.eq_of_testBit_eq fun j => ?_
    rw [Nat.testBit_shiftRight, Nat.zero_testBit]
    by_cases hj : s + j < 64
    · have h1 := hb (s + j)
      rw [h, Nat.zero_testBit] at h1
      simpa [hj, show ¬ s + j < s from by omega] using h1.symm
    · exact Nat.testBit_lt_two_pow (Nat.lt_of_lt_of_le hx (by rw [show (18446744073709551616 : Nat) = 2 ^ 64 from rfl]; exact Nat.pow_le_pow_right (by decide) (by omega)))
  · intro h
    refine Nat.eq_of_testBit_eq fun i => ?_
    rw [hb, Nat.zero_testBit]
    by_cases hi : i < s
    · simp [hi]
    · have h1 : (x >>> s).testBit (i - s) = x.testBit i := by rw [Nat.testBit_shiftRight]; congr 1; omega
      rw [h, Nat.zero_testBit] at h1
      simp [← h1]
theorem andNot_spell (x s : Nat) (hx : x < 18446744073709551616) : bits .andNot .u64 (x : Int) (onesV s) = ((x &&& (18446744073709551615 - onesN s) : Nat) : Int) := by
  rw [onesV_cast]; exact u64_andNot_nat _ _ hx (onesN_lt _)
theorem andNot_test (x s : Nat) (hx : x < 18446744073709551616) (hs : s ≤ 64) : (bits .andNot .u64 (x : Int) (onesV s) != 0) = !decide (x >>> s = 0) := by
  rw [andNot_spell x s hx]
  by_cases h : x >>> s = 0
  · rw [(andNot_zero x s hx hs).2 h, decide_eq_true h]; rfl
  · rw [decide_eq_false h]
    have hne : x &&& (18446744073709551615 - onesN s) ≠ 0 := fun e => h ((andNot_zero x s hx hs).1 e)
    have hz : ((x &&& (18446744073709551615 - onesN s) : Nat) : Int) ≠ 0 := Int.natCast_ne_zero.2 hne
    rw [bne_iff_ne.2 hz]; rfl

/-- The numbers of the first k fields. -/
def uvT (x : Nat) (ws : List Int) (k : Nat) : List Int := uvals x (ws.take k)
theorem uvT_step {w1 : World} {base k x : Nat} {e : TypeId} {v : Value} {ws : List Int} {a : Int} (hx : x < 18446744073709551616) (h : w1.ownsRow base e 1 v (k + 1) (ivals .u64 (uvT x ws k) ++ [.int .u64 (bits .and .u64 ((x : Int) / 2 ^ sumW (ws.take k)) (onesV a))])) (ha : ws[k]? = some a) : w1.ownsRow base e 1 v (k + 1) (ivals .u64 (uvT x ws (k + 1))) := by
  unfold uvT at *
  rw [get_spell x _ a hx, ivals_snoc] at h
  rw [take_snoc' ha, uvals_snoc]; exact h

set_option maxHeartbeats 800000 in
theorem refUnpack_any (x : Nat) (p : Option Addr) (n cap : Nat) (ws : List Int) (w : World) (hx : x < 18446744073709551616) (hlen : Hid (ws.length = n)) (hn : n ≤ 100000) (hr : IRow w .i64 p ws) :
    Calls Try.prog 20 #[.int .u64 x, .slice p n cap] w fun e w' => (∃ q m c, e = .returned (.tuple #[.slice q m c, .int .i64 (unpE x ws)]) ∧ (unpV x ws).length = m ∧ IRow w' .u64 q (unpV x ws)) ∧ Below w.heap.size w w' := by
  obtain ⟨i0, hi, hz0, hz1, hz2⟩ := info_parts infoU64
  have hr1 := Lib.hid hr
  have Hp := Lib.hid (proper_any p n cap ws w hlen (by omega) hr)
  clear hr
  by_cases hf : fitL 64 ws = true
  · go_enter Try.func20, Try.ntmps20
    go_wp2_with (refine Hp.out.mono ?_; rintro e w' ⟨rfl, rfl⟩)
    clear Hp
    go_loopw [6, 7, 8] (fun v s i wr => ∃ (k : Nat), k ≤ n ∧ wr.ownsRow w.heap.size 23 1 v k (ivals .u64 (uvT x ws k)) ∧ s = .int .i64 ((sumW (ws.take k) : Nat) : Int) ∧ i = .int .i64 k ∧ Below w.heap.size w wr) (fun _ _ i _ => n - (intOf i).toNat)
    case atStart => exact ⟨0, by omega, World.ownsRow_nil _ _ _ _, rfl, rfl, Below.refl _ _⟩
    case round =>
      obtain ⟨k, hk, hown, rfl, rfl, hb⟩ := hrel
      have hsz := hb.size
      by_cases hlt : k < n
      · obtain ⟨a, ha⟩ : ∃ a, ws[k]? = some a := ⟨_, List.getElem?_eq_getElem (by rw [hlen.out]; exact hlt)⟩
        obtain ⟨b, off, rfl, d1⟩ := hr1.out _ a ha
        have hbw := cell_lt d1
        have c1 := cell_keep hb d1
        have lb := cell_lt c1
        obtain ⟨ha1, ha2⟩ := fitL_mem _ _ (by omega) hf a (List.mem_of_getElem? ha)
        have hsum : sumW (ws.take k) + a.toNat ≤ 64 := by
          rw [← sumT_snoc ha]
          have h1 := sumW_take (k + 1) ws
          have h2 := fitL_sum _ _ (by omega) hf
          omega
        have Ha := Lib.hid ha
        clear ha d1
        go_wp2_with (first | (go_at_call 11; refine (refOnes_any _ _).mono ?_; rintro e w' ⟨rfl, rfl⟩) | (at_builtin; refine wpList_append_own _ rfl _ _ 40 rfl w.heap.size 23 i0 (.int .u64 0) 1 8 Try.underlying40 hi hz0 hz1 hz2 rfl (by decide) _ _ _ rfl (hown.alloc _) ⟨wr.heap.size, 0, none⟩ 1 1 [.int .u64 (bits .and .u64 ((x : Int) / 2 ^ sumW (ws.take k)) (onesV a))] rfl rfl ?c1 ?c2 ?c3 ?c4 ?c5 ?_))
        case c1 => exact cell_one_new _ _ _
        case c2 => simp [Value.oneCell']
        case c3 => unfold maxLen; omega
        case c4 => omega
        case c5 => simp; omega
        intro v' w1 hown1 hgrow1 _
        have hb1 := below_append hb hown hgrow1
        have hown2 := Lib.hid (uvT_step hx hown1 Ha.out)
        have c3 : w1.cell? ⟨b, off + k, none⟩ = some (.int .i64 a) := by rw [hb1.cell (by exact hbw), ← hb.cell (by exact hbw)]; exact c1
        clear hown1 hgrow1 hown c1
        go_wp2
        go_roundw
        case rel => exact ⟨k + 1, by omega, hown2.out, by rw [sumT_snoc Ha.out]; go_num, by go_num, hb1⟩
        case measure => simp [intOf]; omega
      · have e1 : ws.take k = ws := List.take_of_length_le (by rw [hlen.out]; omega)
        have e2 : uvT x ws k = uvals x ws := by unfold uvT; rw [e1]
        rw [e2] at hown
        rw [e1]
        clear e1 e2
        obtain ⟨q, c, rfl, hl, hrow⟩ := IRow.of_own hown
        have Hrow := Lib.hid hrow
        have Hl := Lib.hid hl
        have hsum : sumW ws ≤ 64 := by
          have h2 := fitL_sum _ _ (by omega) hf
          omega
        clear hown hrow hl
        have ht := andNot_test x (sumW ws) hx hsum
        by_cases hz : x >>> sumW ws = 0
        · obtain ⟨E, V⟩ := unp_ok hf hz
          rw [decide_eq_true hz, Bool.not_true] at ht
          clear hz
          go_wp2_with (go_at_call 11; refine (refOnes_any _ _).mono ?_; rintro e w' ⟨rfl, rfl⟩)
          go_ret2
          rw [V.out, E.out]
          exact ⟨⟨_, _, _, rfl, Hl.out, Hrow.out⟩, hb⟩
        · obtain ⟨E, V⟩ := unp_bad hf hz
          rw [decide_eq_false hz, Bool.not_false] at ht
          clear hz
          go_wp2_with (go_at_call 11; refine (refOnes_any _ _).mono ?_; rintro e w' ⟨rfl, rfl⟩)
          go_ret2
          rw [V.out, E.out]
          exact ⟨⟨none, 0, 0, rfl, rfl, IRow.nil _ _ _⟩, hb⟩
  · obtain ⟨E, V⟩ := unp_no (x := x) hf
    go_enter Try.func20, Try.ntmps20
    go_wp2_with (refine Hp.out.mono ?_; rintro e w' ⟨rfl, rfl⟩)
    go_ret2
    rw [V.out, E.out]
    exact ⟨⟨none, 0, 0, rfl, rfl, IRow.nil _ _ _⟩, Below.refl _ _⟩

set_option maxHeartbeats 800000 in
theorem lawUnpacks (x : Nat) (p : Option Addr) (n cap : Nat) (ws : List Int) (w : World) (hx : x < 18446744073709551616) (hlen : Hid (ws.length = n)) (hn : (n : Int) ≤ 9223372036854775807) (hr : IRow w .i64 p ws) :
    Calls Try.prog 7 #[.int .u64 x, .slice p n cap] w fun e w' => e = .returned (.bool true) ∧ Below w.heap.size w w' := by
  have hr1 := Lib.hid hr
  clear hr
  by_cases hlt : (100 : Int) < n
  · go_enter Try.func7, Try.ntmps7
    go_wp2
    go_ret
    exact ⟨rfl, Below.refl _ _⟩
  · have hn2 : n ≤ 100000 := by omega
    go_enter Try.func7, Try.ntmps7
    go_wp2_with fail
    refine (unpack_any x p n cap ws _ hx hlen hn2 hr1.out).mono ?_
    rintro e w1 ⟨⟨q, m, c, rfl, hm, hq⟩, hb1⟩
    have hr2 := Lib.hid (hr1.out.keep hb1)
    have Hq := Lib.hid hq
    have Hm := Lib.hid hm
    clear hq hm
    go_wp2_with fail
    refine (refUnpack_any x p n cap ws _ hx hlen hn2 hr2.out).mono ?_
    rintro e w2 ⟨⟨q2, m2, c2, rfl, hm2, hq2⟩, hb2⟩
    have hb12 := hb1.trans (hb2.mono hb1.size)
    have Hq1 := Lib.hid (Hq.out.keep hb2)
    have Hq2 := Lib.hid hq2
    have Hm2 := Lib.hid hm2
    clear hq2 hm2
    go_wp2_with fail
    refine (awake_any _).mono ?_
    rintro e w3 ⟨rfl, hb3⟩
    have hb13 := hb12.trans (hb3.mono hb12.size)
    have Hs := Lib.hid (same_any q q2 m m2 c c2 _ _ w3 Hm Hm2 (by have := unpV_len x ws; rw [Hm.out, hlen.out] at this; omega) (Hq1.out.keep hb3) (Hq2.out.keep hb3))
    go_wp2_with fail
    refine Hs.out.mono ?_
    rintro e w4 ⟨rfl, d, rfl⟩
    go_wp2
    go_ret
    exact ⟨ret_bool (by simp), below_drewN hb13 _⟩
end Go.Proofs.Ytmnfcepdmjondaa
