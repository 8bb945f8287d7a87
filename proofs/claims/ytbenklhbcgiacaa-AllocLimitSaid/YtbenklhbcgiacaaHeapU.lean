/- Contracts of the references of layer 4 on heaps: New. -/
import Derived.Test.YtbenklhbcgiacaaHeapM
namespace Go.Proofs.Ytbenklhbcgiacaa
open Go.RowKit

set_option maxHeartbeats 1600000 in
theorem refNew_ok (pw np : Int) (w : World) (hv : confB pw np = true) :
    Calls Try.prog 8 #[.agg #[.int .i64 pw, .int .i64 np]] w fun e w' => RetH (newHV pw np) (newHE pw np) e w' ∧ Below w.heap.size w w' := by
  obtain ⟨e1, e2⟩ := newH_ok hv
  have E1 := Lib.hid e1
  have E2 := Lib.hid e2
  have hc := Lib.hid (fun w => refConf_is hv w)
  obtain ⟨g1, g2⟩ := conf_prod hv
  obtain ⟨k1, k2, -, k4, k5⟩ := conf_parts hv
  obtain ⟨A, hA⟩ := Int.eq_ofNat_of_zero_le (show 0 ≤ np * pw by omega)
  obtain ⟨B, hB⟩ := Int.eq_ofNat_of_zero_le (show 0 ≤ np by omega)
  have hm1 := fun w => run_words A (by omega) w
  have hm2 := fun w => run_pages B (by omega) w
  rw [← hA] at hm1
  rw [← hB] at hm2
  have HA := Lib.hid hA
  have HB := Lib.hid hB
  have hA5 : A ≤ 100000 := by omega
  have hB5 : B ≤ 100000 := by omega
  clear hv e1 e2 hA hB
  have Ho := Lib.hid (Own6.new (w.alloc (.cells #[.int .i64 pw, .int .i64 np] 23)) (.int .i64 0) (.int .i64 0) (.slice none 0 0) (.slice none 0 0) (.int .i64 0) (.int .i64 0) 32)
  go_enter Try.func8, Try.ntmps8
  go_wp2_with fail
  refine (hc.out _).mono ?_
  rintro e w1 ⟨rfl, hb1⟩
  have hw1 := below_boxed hb1
  have c0 := box_cell (w := w) (cs := #[.int .i64 pw, .int .i64 np]) (T := 23) hw1 0 (v := .int .i64 pw) rfl
  have c1 := box_cell (w := w) (cs := #[.int .i64 pw, .int .i64 np]) (T := 23) hw1 1 (v := .int .i64 np) rfl
  have Ho1 := Ho.out.keep hb1
  simp only [World.size_alloc] at Ho1
  have HO := Lib.hid Ho1
  obtain ⟨d0, d1, d2, d3, d4, d5, f0, f1, f2, f3, f4, f5⟩ := Ho1
  have lb : w.heap.size < w1.heap.size := cell_lt c0
  have lb1 := cell_lt d0
  simp only [] at lb1
  have lne : w.heap.size ≠ w1.heap.size := Nat.ne_of_lt lb
  have lne1 : w.heap.size + 1 ≠ w1.heap.size := Nat.ne_of_lt lb1
  have lne2 : w.heap.size ≠ w1.heap.size + 1 := by omega
  have lne3 : w.heap.size + 1 ≠ w1.heap.size + 1 := by omega
  have hwp : IntKind.i64.wrap (np * pw) = np * pw := IntWalk.i64_in _ (by omega)
  have hwB := below_boxed hw1
  clear hc Ho hb1 hw1
  have hmA : A ≤ maxLen := by unfold maxLen; omega
  have hmB : B ≤ maxLen := by unfold maxLen; omega
  go_wp2
  go_region
  · go_wp2
    generalize hW : (World.alloc (World.alloc _ _) _).drew = W
    obtain ⟨r0, r1, r2, r3, r4, r5, -, -, -, -, -, -⟩ := (HO.out.set (.int .i64 pw) (.int .i64 np) (.slice (some ⟨w1.heap.size, 0, none⟩) A A) (.slice (some ⟨w1.heap.size + 1, 0, none⟩) B B) (.int .i64 0) (.int .i64 (-1))).keep (w' := W) (by rw [← hW]; exact ((below_box.trans (below_box.mono (by simp))).drew))
    refine bodyPost_ret (v := .tuple #[.agg #[.int .i64 pw, .int .i64 np, .slice (some ⟨w1.heap.size, 0, none⟩) A A, .slice (some ⟨w1.heap.size + 1, 0, none⟩) B B, .int .i64 0, .int .i64 (-1)], .int .i64 0]) (by simp [results, Try.results8, go_sem, r0, r1, r2, r3, r4, r5]) rfl ?_
    rw [← hW]
    rw [E1.out, E2.out, HA.out, HB.out]
    refine ⟨⟨_, rfl, _, _, _, _, _, _, rfl, ?_, ?_, WB.zeros _⟩, ?_⟩
    · exact SRow.keep (made_words' _ _ A _ (by simp) hmA) (((Below.refl _ _).alloc (Nat.le_refl _) _).drew)
    · exact PRow.keep (made_pages' _ _ B _ (by simp) hmB) (Below.drew (Below.refl _ _))
    · exact (((below_set6 hwB (Nat.le_succ _)).alloc (by simp; omega) _).alloc (by simp; omega) _).drew
  · go_wp2
    generalize hW : (World.alloc (World.alloc _ _) _).drew = W
    obtain ⟨r0, r1, r2, r3, r4, r5, -, -, -, -, -, -⟩ := (HO.out.set (.int .i64 pw) (.int .i64 np) (.slice (some ⟨w1.heap.size + 1, 0, none⟩) A A) (.slice (some ⟨w1.heap.size, 0, none⟩) B B) (.int .i64 0) (.int .i64 (-1))).keep (w' := W) (by rw [← hW]; exact ((below_box.trans (below_box.mono (by simp))).drew))
    refine bodyPost_ret (v := .tuple #[.agg #[.int .i64 pw, .int .i64 np, .slice (some ⟨w1.heap.size + 1, 0, none⟩) A A, .slice (some ⟨w1.heap.size, 0, none⟩) B B, .int .i64 0, .int .i64 (-1)], .int .i64 0]) (by simp [results, Try.results8, go_sem, r0, r1, r2, r3, r4, r5]) rfl ?_
    rw [← hW]
    rw [E1.out, E2.out, HA.out, HB.out]
    refine ⟨⟨_, rfl, _, _, _, _, _, _, rfl, ?_, ?_, WB.zeros _⟩, ?_⟩
    · exact SRow.keep (made_words' _ _ A _ (by simp) hmA) (Below.drew (Below.refl _ _))
    · exact PRow.keep (made_pages' _ _ B _ (by simp) hmB) (((Below.refl _ _).alloc (Nat.le_refl _) _).drew)
    · exact (((below_set6 hwB (Nat.le_succ _)).alloc (by simp; omega) _).alloc (by simp; omega) _).drew

set_option maxHeartbeats 800000 in
theorem refNew_no (pw np : Int) (w : World) (hv : confB pw np = false) :
    Calls Try.prog 8 #[.agg #[.int .i64 pw, .int .i64 np]] w fun e w' => RetH (newHV pw np) (newHE pw np) e w' ∧ Below w.heap.size w w' := by
  obtain ⟨e1, e2⟩ := newH_no hv
  have E1 := Lib.hid e1
  have E2 := Lib.hid e2
  have hc := Lib.hid (fun w => refConf_is hv w)
  clear hv e1 e2
  have Ho := Lib.hid (Own6.new (w.alloc (.cells #[.int .i64 pw, .int .i64 np] 23)) (.int .i64 0) (.int .i64 0) (.slice none 0 0) (.slice none 0 0) (.int .i64 0) (.int .i64 0) 32)
  go_enter Try.func8, Try.ntmps8
  go_wp2_with fail
  refine (hc.out _).mono ?_
  rintro e w1 ⟨rfl, hb1⟩
  have hw1 := below_boxed hb1
  obtain ⟨d0, d1, d2, d3, d4, d5, f0, f1, f2, f3, f4, f5⟩ := Ho.out.keep hb1
  simp only [World.size_alloc] at d0 d1 d2 d3 d4 d5 f0 f1 f2 f3 f4 f5
  have hwB := below_boxed hw1
  clear hc Ho hb1 hw1
  go_wp2
  refine bodyPost_ret (v := .tuple #[.agg #[.int .i64 0, .int .i64 0, .slice none 0 0, .slice none 0 0, .int .i64 0, .int .i64 0], .int .i64 1]) (by simp [results, Try.results8, go_sem, d0, d1, d2, d3, d4, d5]) rfl ?_
  rw [E1.out, E2.out]
  exact ⟨⟨_, rfl, HV.zero _⟩, below_set6 hwB (Nat.le_succ _)⟩
theorem refNew_any (pw np : Int) (w : World) :
    Calls Try.prog 8 #[.agg #[.int .i64 pw, .int .i64 np]] w fun e w' => RetH (newHV pw np) (newHE pw np) e w' ∧ Below w.heap.size w w' := by
  cases hv : confB pw np
  · exact refNew_no pw np w hv
  · exact refNew_ok pw np w hv
end Go.Proofs.Ytbenklhbcgiacaa
