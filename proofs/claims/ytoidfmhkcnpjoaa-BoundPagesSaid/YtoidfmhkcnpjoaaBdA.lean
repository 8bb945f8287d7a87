/- Contracts of package bound: countersOf, inRange, copyPages; the law's given. -/
import Derived.Test.YtoidfmhkcnpjoaaBdM
import Derived.Test.YtoidfmhkcnpjoaaDraw
import Derived.Test.YtoidfmhkcnpjoaaPgP
import Derived.Test.YtoidfmhkcnpjoaaOwn
set_option linter.unusedSimpArgs false
set_option linter.unusedVariables false
namespace Go.Proofs.Ytoidfmhkcnpjoaa
open Go.RowKit

set_option maxRecDepth 100000 in
set_option maxHeartbeats 1600000 in
theorem cnt_any (l : Lv) (w : World) :
    Calls Try.prog 11 #[.agg #[.int .i64 l.o, .int .i64 l.wd, .int .i64 l.s, .int .i64 l.la, .int .i64 l.pi]] w fun e w' => e = .returned (.agg #[.int .i64 l.o, .int .i64 l.wd, .int .i64 l.s, .int .i64 l.la, .int .i64 l.pi]) ∧ Below w.heap.size w w' := by
  go_enter Try.func11, Try.ntmps11
  go_wp2
  refine bodyPost_ret (v := .agg #[.int .i64 l.o, .int .i64 l.wd, .int .i64 l.s, .int .i64 l.la, .int .i64 l.pi]) (by simp [results, Try.results11, go_sem]) rfl ⟨rfl, ?_⟩
  exact bthen below_box below_box

set_option maxRecDepth 100000 in
set_option maxHeartbeats 1600000 in
theorem given_any (l : Lv) (w : World) :
    Calls Try.prog 6 #[.agg #[.int .i64 l.o, .int .i64 l.wd, .int .i64 l.s, .int .i64 l.la, .int .i64 l.pi]] w fun e w' => e = .returned (.agg #[.int .i64 l.o, .int .i64 l.wd, .int .i64 l.s, .int .i64 l.la, .int .i64 l.pi]) ∧ Below w.heap.size w w' := by
  go_enter Try.func6, Try.ntmps6
  go_wp2
  refine bodyPost_ret (v := .agg #[.int .i64 l.o, .int .i64 l.wd, .int .i64 l.s, .int .i64 l.la, .int .i64 l.pi]) (by simp [results, Try.results6, go_sem]) rfl ⟨rfl, ?_⟩
  exact bthen below_box below_box

theorem index_cnt0 (a b c d e : Int) (w : World) : (Instr.index 38 (.agg #[.int .i64 a, .int .i64 b, .int .i64 c, .int .i64 d, .int .i64 e]) (.int .i64 0)).run Try.prog w = .ok (.int .i64 a) w := by kernel_rfl
theorem index_cnt1 (a b c d e : Int) (w : World) : (Instr.index 38 (.agg #[.int .i64 a, .int .i64 b, .int .i64 c, .int .i64 d, .int .i64 e]) (.int .i64 1)).run Try.prog w = .ok (.int .i64 b) w := by kernel_rfl
theorem index_cnt2 (a b c d e : Int) (w : World) : (Instr.index 38 (.agg #[.int .i64 a, .int .i64 b, .int .i64 c, .int .i64 d, .int .i64 e]) (.int .i64 2)).run Try.prog w = .ok (.int .i64 c) w := by kernel_rfl
theorem index_cnt3 (a b c d e : Int) (w : World) : (Instr.index 38 (.agg #[.int .i64 a, .int .i64 b, .int .i64 c, .int .i64 d, .int .i64 e]) (.int .i64 3)).run Try.prog w = .ok (.int .i64 d) w := by kernel_rfl
theorem index_cnt4 (a b c d e : Int) (w : World) : (Instr.index 38 (.agg #[.int .i64 a, .int .i64 b, .int .i64 c, .int .i64 d, .int .i64 e]) (.int .i64 4)).run Try.prog w = .ok (.int .i64 e) w := by kernel_rfl

set_option maxRecDepth 100000 in
set_option maxHeartbeats 1600000 in
theorem inRange_any (l : Lv) (w : World) :
    Calls Try.prog 12 #[.agg #[.int .i64 l.o, .int .i64 l.wd, .int .i64 l.s, .int .i64 l.la, .int .i64 l.pi]] w fun e w' => e = .returned (.bool (liveB l)) ∧ Below w.heap.size w w' := by
  by_cases a0 : l.o < 0
  · have E := Lib.hid (live_no (l := l) (by unfold inR; omega))
    have qx0 := fun w => index_cnt0 l.o l.wd l.s l.la l.pi w
    go_enter Try.func12, Try.ntmps12
    go_wp2
    refine wp_loop_rounds 1 ?_
    rw [rounds_succ]
    go_wp2
    go_ret
    exact ⟨ret_bool E.out.symm, below_box⟩
  by_cases b0 : 2147483647 < l.o
  · have E := Lib.hid (live_no (l := l) (by unfold inR; omega))
    have qx0 := fun w => index_cnt0 l.o l.wd l.s l.la l.pi w
    go_enter Try.func12, Try.ntmps12
    go_wp2
    refine wp_loop_rounds 1 ?_
    rw [rounds_succ]
    go_wp2
    go_ret
    exact ⟨ret_bool E.out.symm, below_box⟩
  by_cases a1 : l.wd < 0
  · have E := Lib.hid (live_no (l := l) (by unfold inR; omega))
    have qx0 := fun w => index_cnt0 l.o l.wd l.s l.la l.pi w
    have qx1 := fun w => index_cnt1 l.o l.wd l.s l.la l.pi w
    go_enter Try.func12, Try.ntmps12
    go_wp2
    refine wp_loop_rounds 2 ?_
    rw [rounds_succ]
    go_wp2
    rw [rounds_succ]
    go_wp2
    go_ret
    exact ⟨ret_bool E.out.symm, below_box⟩
  by_cases b1 : 2147483647 < l.wd
  · have E := Lib.hid (live_no (l := l) (by unfold inR; omega))
    have qx0 := fun w => index_cnt0 l.o l.wd l.s l.la l.pi w
    have qx1 := fun w => index_cnt1 l.o l.wd l.s l.la l.pi w
    go_enter Try.func12, Try.ntmps12
    go_wp2
    refine wp_loop_rounds 2 ?_
    rw [rounds_succ]
    go_wp2
    rw [rounds_succ]
    go_wp2
    go_ret
    exact ⟨ret_bool E.out.symm, below_box⟩
  by_cases a2 : l.s < 0
  · have E := Lib.hid (live_no (l := l) (by unfold inR; omega))
    have qx0 := fun w => index_cnt0 l.o l.wd l.s l.la l.pi w
    have qx1 := fun w => index_cnt1 l.o l.wd l.s l.la l.pi w
    have qx2 := fun w => index_cnt2 l.o l.wd l.s l.la l.pi w
    go_enter Try.func12, Try.ntmps12
    go_wp2
    refine wp_loop_rounds 3 ?_
    rw [rounds_succ]
    go_wp2
    rw [rounds_succ]
    go_wp2
    rw [rounds_succ]
    go_wp2
    go_ret
    exact ⟨ret_bool E.out.symm, below_box⟩
  by_cases b2 : 2147483647 < l.s
  · have E := Lib.hid (live_no (l := l) (by unfold inR; omega))
    have qx0 := fun w => index_cnt0 l.o l.wd l.s l.la l.pi w
    have qx1 := fun w => index_cnt1 l.o l.wd l.s l.la l.pi w
    have qx2 := fun w => index_cnt2 l.o l.wd l.s l.la l.pi w
    go_enter Try.func12, Try.ntmps12
    go_wp2
    refine wp_loop_rounds 3 ?_
    rw [rounds_succ]
    go_wp2
    rw [rounds_succ]
    go_wp2
    rw [rounds_succ]
    go_wp2
    go_ret
    exact ⟨ret_bool E.out.symm, below_box⟩
  by_cases a3 : l.la < 0
  · have E := Lib.hid (live_no (l := l) (by unfold inR; omega))
    have qx0 := fun w => index_cnt0 l.o l.wd l.s l.la l.pi w
    have qx1 := fun w => index_cnt1 l.o l.wd l.s l.la l.pi w
    have qx2 := fun w => index_cnt2 l.o l.wd l.s l.la l.pi w
    have qx3 := fun w => index_cnt3 l.o l.wd l.s l.la l.pi w
    go_enter Try.func12, Try.ntmps12
    go_wp2
    refine wp_loop_rounds 4 ?_
    rw [rounds_succ]
    go_wp2
    rw [rounds_succ]
    go_wp2
    rw [rounds_succ]
    go_wp2
    rw [rounds_succ]
    go_wp2
    go_ret
    exact ⟨ret_bool E.out.symm, below_box⟩
  by_cases b3 : 2147483647 < l.la
  · have E := Lib.hid (live_no (l := l) (by unfold inR; omega))
    have qx0 := fun w => index_cnt0 l.o l.wd l.s l.la l.pi w
    have qx1 := fun w => index_cnt1 l.o l.wd l.s l.la l.pi w
    have qx2 := fun w => index_cnt2 l.o l.wd l.s l.la l.pi w
    have qx3 := fun w => index_cnt3 l.o l.wd l.s l.la l.pi w
    go_enter Try.func12, Try.ntmps12
    go_wp2
    refine wp_loop_rounds 4 ?_
    rw [rounds_succ]
    go_wp2
    rw [rounds_succ]
    go_wp2
    rw [rounds_succ]
    go_wp2
    rw [rounds_succ]
    go_wp2
    go_ret
    exact ⟨ret_bool E.out.symm, below_box⟩
  by_cases a4 : l.pi < 0
  · have E := Lib.hid (live_no (l := l) (by unfold inR; omega))
    have qx0 := fun w => index_cnt0 l.o l.wd l.s l.la l.pi w
    have qx1 := fun w => index_cnt1 l.o l.wd l.s l.la l.pi w
    have qx2 := fun w => index_cnt2 l.o l.wd l.s l.la l.pi w
    have qx3 := fun w => index_cnt3 l.o l.wd l.s l.la l.pi w
    have qx4 := fun w => index_cnt4 l.o l.wd l.s l.la l.pi w
    go_enter Try.func12, Try.ntmps12
    go_wp2
    refine wp_loop_rounds 5 ?_
    rw [rounds_succ]
    go_wp2
    rw [rounds_succ]
    go_wp2
    rw [rounds_succ]
    go_wp2
    rw [rounds_succ]
    go_wp2
    rw [rounds_succ]
    go_wp2
    go_ret
    exact ⟨ret_bool E.out.symm, below_box⟩
  by_cases b4 : 2147483647 < l.pi
  · have E := Lib.hid (live_no (l := l) (by unfold inR; omega))
    have qx0 := fun w => index_cnt0 l.o l.wd l.s l.la l.pi w
    have qx1 := fun w => index_cnt1 l.o l.wd l.s l.la l.pi w
    have qx2 := fun w => index_cnt2 l.o l.wd l.s l.la l.pi w
    have qx3 := fun w => index_cnt3 l.o l.wd l.s l.la l.pi w
    have qx4 := fun w => index_cnt4 l.o l.wd l.s l.la l.pi w
    go_enter Try.func12, Try.ntmps12
    go_wp2
    refine wp_loop_rounds 5 ?_
    rw [rounds_succ]
    go_wp2
    rw [rounds_succ]
    go_wp2
    rw [rounds_succ]
    go_wp2
    rw [rounds_succ]
    go_wp2
    rw [rounds_succ]
    go_wp2
    go_ret
    exact ⟨ret_bool E.out.symm, below_box⟩
  have E := Lib.hid (live_mk (l := l) (by unfold inR; omega))
  have qx0 := fun w => index_cnt0 l.o l.wd l.s l.la l.pi w
  have qx1 := fun w => index_cnt1 l.o l.wd l.s l.la l.pi w
  have qx2 := fun w => index_cnt2 l.o l.wd l.s l.la l.pi w
  have qx3 := fun w => index_cnt3 l.o l.wd l.s l.la l.pi w
  have qx4 := fun w => index_cnt4 l.o l.wd l.s l.la l.pi w
  go_enter Try.func12, Try.ntmps12
  go_wp2
  refine wp_loop_rounds 6 ?_
  rw [rounds_succ]
  go_wp2
  rw [rounds_succ]
  go_wp2
  rw [rounds_succ]
  go_wp2
  rw [rounds_succ]
  go_wp2
  rw [rounds_succ]
  go_wp2
  rw [rounds_succ]
  go_wp2
  go_ret
  exact ⟨ret_bool E.out.symm, below_box⟩

set_option maxRecDepth 100000 in
set_option maxHeartbeats 1600000 in
theorem copy_any (pw np s : Int) (w : World) (h1 : 16 ≤ pw) (h2 : pw ≤ 64) (h3 : 0 ≤ s) (h4 : s ≤ 2147483647) :
    Calls Try.prog 13 #[.agg #[.int .i64 pw, .int .i64 np], .int .i64 s] w fun e w' => e = .returned (.int .i64 (copyV pw s)) ∧ Below w.heap.size w w' := by
  have p1 : IntKind.i64.wrap (3 * pw) = 3 * pw := IntWalk.i64_in _ (by omega)
  have p2 : IntKind.i64.wrap (4 * s) = 4 * s := IntWalk.i64_in _ (by omega)
  have p3 : IntKind.i64.wrap (4 * s + 3 * pw) = 4 * s + 3 * pw := IntWalk.i64_in _ (by omega)
  have p4 : IntKind.i64.wrap (4 * s + 3 * pw - 1) = 4 * s + 3 * pw - 1 := IntWalk.i64_in _ (by omega)
  obtain ⟨Q, hQ⟩ : ∃ Q, Hid ((4 * s + 3 * pw - 1).tdiv (3 * pw) = Q) := ⟨_, Lib.hid rfl⟩
  have hb := Lib.hid (copy_bound h1 h2 ⟨h3, h4⟩)
  have hq : (4 * s + 3 * pw - 1).tdiv (3 * pw) = Q := hQ.out
  have hz : ¬ 3 * pw = 0 := by omega
  have p5 : IntKind.i64.wrap Q = Q := IntWalk.i64_in _ (by have := hb.out; have := hQ.out; unfold copyV at *; omega)
  go_enter Try.func13, Try.ntmps13
  go_wp2
  go_ret
  exact ⟨by unfold copyV; rw [hQ.out]; rfl, below_box⟩
end Go.Proofs.Ytoidfmhkcnpjoaa
