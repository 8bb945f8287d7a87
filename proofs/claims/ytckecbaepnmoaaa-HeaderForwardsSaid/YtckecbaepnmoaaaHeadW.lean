/- Contracts of the references of layer 3: Size, Pointer, Pointers. -/
import Derived.Test.YtckecbaepnmoaaaHeadV
namespace Go.Proofs.Ytckecbaepnmoaaa
open Go.RowKit

set_option maxHeartbeats 800000 in
theorem refSize_any (k n m : Int) (w : World) (hm0 : 0 ≤ m) (hm : m < 4294967296) :
    Calls Try.prog 22 #[.agg #[.int .i64 k, .int .i64 n, .int .u32 m]] w fun e w' => e = .returned (.int .i64 (sizeV k n m)) ∧ Below w.heap.size w w' := by
  have hc := Lib.hid (refValid_any k n m (w.alloc (.cells #[.int .i64 k, .int .i64 n, .int .u32 m] 24)) hm0 hm)
  by_cases hv : validB k n m = true
  · rw [size_ok hv]
    obtain ⟨-, -, h3, h4, -, -⟩ := valid_parts hv
    rw [hv] at hc
    clear hv
    go_enter Try.func22, Try.ntmps22
    go_wp2_with fail
    refine hc.out.mono ?_
    rintro e w1 ⟨rfl, hb1⟩
    obtain ⟨c0, c1, c2⟩ := box3 (by simpa using hb1)
    clear hc
    go_wp2
    go_ret
    exact ⟨rfl, below_boxed hb1⟩
  · have hv : validB k n m = false := by simpa using hv
    rw [size_no hv]
    rw [hv] at hc
    clear hv
    go_enter Try.func22, Try.ntmps22
    go_wp2_with fail
    refine hc.out.mono ?_
    rintro e w1 ⟨rfl, hb1⟩
    clear hc
    go_wp2
    go_ret
    exact ⟨rfl, below_boxed hb1⟩

set_option maxHeartbeats 800000 in
theorem refPointer_in (k n m : Int) (i : Nat) (w : World) (hm0 : 0 ≤ m) (hm : m < 4294967296) (hv : validB k n m = true) (hi : (i : Int) < n) :
    Calls Try.prog 24 #[.agg #[.int .i64 k, .int .i64 n, .int .u32 m], .int .i64 i] w fun e w' => e = .returned (.bool (decide (k = 2) || (decide (k = 1) && m.toNat.testBit i))) ∧ Below w.heap.size w w' := by
  have hc := Lib.hid (refValid_any k n m (w.alloc (.cells #[.int .i64 k, .int .i64 n, .int .u32 m] 24)) hm0 hm)
  rw [hv] at hc
  obtain ⟨h1, h2, h3, h4, -, -⟩ := valid_parts hv
  obtain ⟨m, rfl⟩ := Int.eq_ofNat_of_zero_le hm0
  have hbit := Lib.hid (bit_test m i (by omega))
  rw [Int.toNat_natCast]
  clear hv hm0 hm
  obtain ⟨b, hb⟩ : ∃ b, Hid (m.testBit i = b) := ⟨_, rfl⟩
  rw [hb.out]
  rw [hb.out] at hbit
  rcases (show k = 0 ∨ k = 1 ∨ k = 2 ∨ k = 3 by omega) with rfl | rfl | rfl | rfl
  all_goals
    go_enter Try.func24, Try.ntmps24
    go_wp2_with fail
    refine hc.out.mono ?_
    rintro e w1 ⟨rfl, hb1⟩
    obtain ⟨c0, c1, c2⟩ := box3 (by simpa using hb1)
    clear hc
    go_wp2
    go_ret
    first
      | exact ⟨rfl, below_boxed hb1⟩
      | exact ⟨ret_bool (by rw [← hbit.out]; simp), below_boxed hb1⟩

set_option maxHeartbeats 800000 in
theorem refPointer_out (k n m i : Int) (w : World) (hm0 : 0 ≤ m) (hm : m < 4294967296) (h : validB k n m = false ∨ i < 0 ∨ n ≤ i) :
    Calls Try.prog 24 #[.agg #[.int .i64 k, .int .i64 n, .int .u32 m], .int .i64 i] w fun e w' => e = .returned (.bool false) ∧ Below w.heap.size w w' := by
  have hc := Lib.hid (refValid_any k n m (w.alloc (.cells #[.int .i64 k, .int .i64 n, .int .u32 m] 24)) hm0 hm)
  by_cases hv : validB k n m = true
  · have hin : i < 0 ∨ n ≤ i := by
      rcases h with h | h
      · rw [hv] at h; cases h
      · exact h
    rw [hv] at hc
    clear hv h hm0 hm
    by_cases hi : i < 0
    · clear hin
      go_enter Try.func24, Try.ntmps24
      go_wp2_with fail
      refine hc.out.mono ?_
      rintro e w1 ⟨rfl, hb1⟩
      clear hc
      go_wp2
      go_ret
      exact ⟨rfl, below_boxed hb1⟩
    · have hi : n ≤ i := by omega
      clear hin
      go_enter Try.func24, Try.ntmps24
      go_wp2_with fail
      refine hc.out.mono ?_
      rintro e w1 ⟨rfl, hb1⟩
      obtain ⟨c0, c1, c2⟩ := box3 (by simpa using hb1)
      clear hc
      go_wp2
      go_ret
      exact ⟨rfl, below_boxed hb1⟩
  · have hv : validB k n m = false := by simpa using hv
    rw [hv] at hc
    clear hv h hm0 hm
    go_enter Try.func24, Try.ntmps24
    go_wp2_with fail
    refine hc.out.mono ?_
    rintro e w1 ⟨rfl, hb1⟩
    clear hc
    go_wp2
    go_ret
    exact ⟨rfl, below_boxed hb1⟩

theorem refPointer_any (k n m i : Int) (w : World) (hm0 : 0 ≤ m) (hm : m < 4294967296) :
    Calls Try.prog 24 #[.agg #[.int .i64 k, .int .i64 n, .int .u32 m], .int .i64 i] w fun e w' => e = .returned (.bool (ptrB k n m i)) ∧ Below w.heap.size w w' := by
  by_cases h : validB k n m = true ∧ 0 ≤ i ∧ i < n
  · obtain ⟨h1, h2, h3⟩ := h
    rw [ptr_ok h1 h2 h3]
    obtain ⟨i, rfl⟩ := Int.eq_ofNat_of_zero_le h2
    exact refPointer_in k n m i w hm0 hm h1 h3
  · have h : validB k n m = false ∨ i < 0 ∨ n ≤ i := by
      by_cases hv : validB k n m = true
      · right; by_cases h1 : i < 0
        · exact Or.inl h1
        · right; by_cases h2 : n ≤ i
          · exact h2
          · exact absurd ⟨hv, by omega, by omega⟩ h
      · left; simpa using hv
    rw [ptr_no h]
    exact refPointer_out k n m i w hm0 hm h

set_option maxHeartbeats 1600000 in
theorem refPointers_ok (k m : Int) (n : Nat) (w : World) (hm0 : 0 ≤ m) (hm : m < 4294967296) (hv : validB k n m = true) :
    Calls Try.prog 26 #[.agg #[.int .i64 k, .int .i64 n, .int .u32 m]] w fun e w' => RetI (ptrsTo k n m n) e w' ∧ Below w.heap.size w w' := by
  obtain ⟨i0, hi, hz0, hz1, hz2⟩ := info_parts infoInt
  obtain ⟨-, -, h3, h4, -, -⟩ := valid_parts hv
  have Hm := Lib.hid (And.intro hm0 hm)
  have Hv := Lib.hid (fun w => refValid_any k n m w hm0 hm)
  rw [hv] at Hv
  clear hv hm0 hm
  go_enter Try.func26, Try.ntmps26
  go_wp2
  go_loopw [3, 4] (fun v i wr => ∃ j : Nat, j ≤ n ∧ wr.ownsRow (w.heap.size + 1) 3 1 v (ptrsTo k n m j).length (ivals .i64 (ptrsTo k n m j)) ∧ i = .int .i64 j ∧ Below (w.heap.size + 1) (w.alloc (.cells #[.int .i64 k, .int .i64 n, .int .u32 m] 24)) wr) (fun _ i _ => n - (intOf i).toNat)
  case atStart => exact ⟨0, by omega, World.ownsRow_nil _ _ _ _, rfl, Below.refl _ _⟩
  case round =>
    obtain ⟨j, hj, hown, rfl, hb⟩ := hrel
    have Hown := Lib.hid hown
    clear hown
    by_cases hlt : j < n
    · obtain ⟨c0, c1, c2⟩ := box3 hb
      have hlen := ptrsTo_len k n m j
      have hs := ptrsTo_succ k n m j
      obtain ⟨xs, hxs⟩ : ∃ xs, Hid (ptrsTo k n m j = xs) := ⟨_, rfl⟩
      rw [hxs.out] at Hown hlen hs
      by_cases hp : ptrB k n m j = true
      · rw [if_pos hp] at hs
        have Hs := Lib.hid hs
        have hq := Lib.hid (fun w => refPointer_any k n m j w Hm.out.1 Hm.out.2)
        rw [hp] at hq
        clear hs hp
        go_wp2_with fail
        refine (Hv.out _).mono ?_
        rintro e w1 ⟨rfl, hb1⟩
        have hb01 := hb.trans (hb1.mono (by have := hb.size; simpa using this))
        have Hown1 := Lib.hid (own_below Hown.out hb1)
        obtain ⟨d0, d1, d2⟩ := box3 hb01
        clear hb hb1 c0 c1 c2 Hown
        go_wp2_with fail
        refine (hq.out _).mono ?_
        rintro e w2 ⟨rfl, hb2⟩
        have hb02 := hb01.trans (hb2.mono (by have := hb01.size; simpa using this))
        have hown := own_below Hown1.out hb2
        have hsz := hb02.size
        simp at hsz
        clear hq d0 d1 d2
        go_wp2_with (at_builtin; refine wpList_append_own _ rfl _ _ 39 rfl (w.heap.size + 1) 3 i0 (.int .i64 0) 1 8 Try.underlying39 hi hz0 hz1 hz2 rfl (by decide) _ _ _ rfl (hown.alloc _) ⟨w2.heap.size, 0, none⟩ 1 1 [.int .i64 j] rfl rfl ?c1 ?c2 ?c3 ?c4 ?c5 ?_)
        case c1 => exact cell_one_new _ _ _
        case c2 => simp [Value.oneCell']
        case c3 => unfold maxLen; omega
        case c4 => omega
        case c5 => simp; omega
        intro v' w3 hown1 hgrow1 _
        have hb3 : Below (w.heap.size + 1) (w.alloc (.cells #[.int .i64 k, .int .i64 n, .int .u32 m] 24)) w3 := (hb02.alloc hsz _).grown hgrow1 (by simp; omega) (fun j hj => (hown.lt j hj).1)
        rw [ivals_snoc] at hown1
        have hown2 := Lib.hid hown1
        clear hown1 hgrow1 hown hb01 hb2 hb02
        go_wp2
        go_roundw
        case rel => exact ⟨j + 1, by omega, by rw [Hs.out, List.length_append]; exact hown2.out, by go_num, hb3⟩
        case measure => simp [intOf]; omega
      · have hp : ptrB k n m j = false := by simpa using hp
        rw [hp, if_neg (by simp)] at hs
        have Hs := Lib.hid hs
        have hq := Lib.hid (fun w => refPointer_any k n m j w Hm.out.1 Hm.out.2)
        rw [hp] at hq
        clear hs hp
        go_wp2_with fail
        refine (Hv.out _).mono ?_
        rintro e w1 ⟨rfl, hb1⟩
        have hb01 := hb.trans (hb1.mono (by have := hb.size; simpa using this))
        have Hown1 := Lib.hid (own_below Hown.out hb1)
        obtain ⟨d0, d1, d2⟩ := box3 hb01
        clear hb hb1 c0 c1 c2 Hown
        go_wp2_with fail
        refine (hq.out _).mono ?_
        rintro e w2 ⟨rfl, hb2⟩
        have hb02 := hb01.trans (hb2.mono (by have := hb01.size; simpa using this))
        have hown := Lib.hid (own_below Hown1.out hb2)
        clear hq d0 d1 d2 hb01 hb2
        go_wp2
        go_roundw
        case rel => exact ⟨j + 1, by omega, by rw [Hs.out]; exact hown.out, by go_num, hb02⟩
        case measure => simp [intOf]; omega
    · obtain rfl : n = j := by omega
      obtain ⟨c0, c1, c2⟩ := box3 hb
      obtain ⟨q, c, rfl, hrow⟩ := SRow.of_own Hown.out
      have Hrow := Lib.hid hrow
      clear Hown hrow
      go_wp2
      go_ret
      exact ⟨⟨q, _, c, rfl, Hrow.out⟩, below_of_alloc hb⟩

set_option maxHeartbeats 800000 in
theorem refPointers_no (k n m : Int) (w : World) (hm0 : 0 ≤ m) (hm : m < 4294967296) (hv : validB k n m = false) :
    Calls Try.prog 26 #[.agg #[.int .i64 k, .int .i64 n, .int .u32 m]] w fun e w' => RetI [] e w' ∧ Below w.heap.size w w' := by
  have Hv := Lib.hid (fun w => refValid_any k n m w hm0 hm)
  rw [hv] at Hv
  clear hv hm0 hm
  go_enter Try.func26, Try.ntmps26
  go_wp2
  go_loopw [3, 4] (fun v i wr => v = .slice none 0 0 ∧ i = .int .i64 0 ∧ wr = w.alloc (.cells #[.int .i64 k, .int .i64 n, .int .u32 m] 24)) (fun _ _ _ => 0)
  case atStart => exact ⟨rfl, rfl, rfl⟩
  case round =>
    obtain ⟨rfl, rfl, rfl⟩ := hrel
    by_cases h : 0 < n
    · go_wp2_with fail
      refine (Hv.out _).mono ?_
      rintro e w1 ⟨rfl, hb1⟩
      clear Hv
      go_wp2
      go_ret
      exact ⟨RetI.nil _, below_boxed hb1⟩
    · go_wp2
      go_ret
      exact ⟨RetI.nil _, below_box⟩

theorem refPointers_any (k n m : Int) (w : World) (hm0 : 0 ≤ m) (hm : m < 4294967296) :
    Calls Try.prog 26 #[.agg #[.int .i64 k, .int .i64 n, .int .u32 m]] w fun e w' => RetI (ptrsV k n m) e w' ∧ Below w.heap.size w w' := by
  by_cases hv : validB k n m = true
  · rw [ptrs_ok hv]
    obtain ⟨-, -, h3, -, -, -⟩ := valid_parts hv
    obtain ⟨n, rfl⟩ := Int.eq_ofNat_of_zero_le h3
    exact refPointers_ok k m n w hm0 hm hv
  · have hv : validB k n m = false := by simpa using hv
    rw [ptrs_no hv]
    exact refPointers_no k n m w hm0 hm hv
end Go.Proofs.Ytckecbaepnmoaaa
