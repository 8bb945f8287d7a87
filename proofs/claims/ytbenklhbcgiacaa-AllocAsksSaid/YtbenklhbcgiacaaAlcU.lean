/- The law AllocAsks. -/
import Derived.Test.YtbenklhbcgiacaaAlcT
set_option linter.unusedSimpArgs false
set_option linter.unusedVariables false
namespace Go.Proofs.Ytbenklhbcgiacaa
open Go.RowKit

set_option maxRecDepth 100000 in
set_option maxHeartbeats 3200000 in
theorem lawAsks (pw np k n m : Int) (w : World) (hm0 : 0 ≤ m) (hm : m < 4294967296) :
    Calls Try.prog 3 #[.agg #[.int .i64 pw, .int .i64 np], .agg #[.int .i64 k, .int .i64 n, .int .u32 m]] w fun e w' => e = .returned (.bool true) ∧ Below w.heap.size w w' := by
  have haw := Lib.hid awake_any
  have has := Lib.hid (fun w => asks_any pw np k n m w hm0 hm)
  have hrf := Lib.hid (fun w => refAsks_any pw np k n m w hm0 hm)
  generalize asksB pw np k n m = A at has hrf
  have hbx : Below w.heap.size w ((w.alloc (.cells #[.int .i64 pw, .int .i64 np] 23)).alloc (.cells #[.int .i64 k, .int .i64 n, .int .u32 m] 26)) := bthen below_box below_box
  have c0 : ((w.alloc (.cells #[.int .i64 pw, .int .i64 np] 23)).alloc (.cells #[.int .i64 k, .int .i64 n, .int .u32 m] 26)).cell? ⟨w.heap.size, 0, none⟩ = some (.int .i64 pw) := cell_keep below_box (by simp)
  have c1 : ((w.alloc (.cells #[.int .i64 pw, .int .i64 np] 23)).alloc (.cells #[.int .i64 k, .int .i64 n, .int .u32 m] 26)).cell? ⟨w.heap.size, 1, none⟩ = some (.int .i64 np) := cell_keep below_box (by simp)
  obtain ⟨d0, d1, d2⟩ : ((w.alloc (.cells #[.int .i64 pw, .int .i64 np] 23)).alloc (.cells #[.int .i64 k, .int .i64 n, .int .u32 m] 26)).cell? ⟨w.heap.size + 1, 0, none⟩ = some (.int .i64 k) ∧ ((w.alloc (.cells #[.int .i64 pw, .int .i64 np] 23)).alloc (.cells #[.int .i64 k, .int .i64 n, .int .u32 m] 26)).cell? ⟨w.heap.size + 1, 1, none⟩ = some (.int .i64 n) ∧ ((w.alloc (.cells #[.int .i64 pw, .int .i64 np] 23)).alloc (.cells #[.int .i64 k, .int .i64 n, .int .u32 m] 26)).cell? ⟨w.heap.size + 1, 2, none⟩ = some (.int .u32 m) := by
    obtain ⟨e0, e1, e2, -, -, -⟩ := Own3.new (w.alloc (.cells #[.int .i64 pw, .int .i64 np] 23)) (.int .i64 k) (.int .i64 n) (.int .u32 m) 26
    simp only [World.size_alloc] at e0 e1 e2
    exact ⟨e0, e1, e2⟩
  go_enter Try.func3, Try.ntmps3
  go_wp2_with fail
  refine wp_region_held_drew (S := fun w' => Below ((w.alloc (.cells #[.int .i64 pw, .int .i64 np] 23)).alloc (.cells #[.int .i64 k, .int .i64 n, .int .u32 m] 26)).heap.size ((w.alloc (.cells #[.int .i64 pw, .int .i64 np] 23)).alloc (.cells #[.int .i64 k, .int .i64 n, .int .u32 m] 26)) w') (by kernel_rfl) ((Below.refl _ _).drew) (fun hHeld => ?_)
  refine wpAnyH_ready (rs := [0]) (by kernel_rfl) (by simp) ?_
  refine AllReadyH.cons rfl (fun K hK => ?_) AllReadyH.nil
  go_simp
  (go_at_call 5; refine (haw.out _).mono ?_; rintro e w3 ⟨rfl, hbq⟩)
  go_wp2_with fail
  refine hK.out _ _ (bthen hHeld hbq) (fun hHeld => ?_)
  clear hK K
  try simp only [Act.put, List.setIfInBounds_toArray, List.set_cons_zero, List.set_cons_succ]
  refine draw_take 1 6 (v := ?_) rfl rfl (by kernel_rfl) (by kernel_rfl) (by kernel_rfl) (fun _ _ _ h => h) (by kernel_rfl) ?hy hHeld ?_
  case hy => (intro w hSw; (try dsimp only at hSw); go_simp; try (with_reducible rfl))
  simp only [Act.put, List.setIfInBounds_toArray, List.set_cons_zero, List.set_cons_succ]
  refine draw_take 2 7 (v := ?_) rfl rfl (by kernel_rfl) (by kernel_rfl) (by kernel_rfl) (fun _ _ _ h => h) (by kernel_rfl) ?hy hHeld ?_
  case hy => (intro w' hSw; (try dsimp only at hSw); have x0 := cell_keep hSw c0; have x1 := cell_keep hSw c1; have y0 := cell_keep hSw d0; have y1 := cell_keep hSw d1; have y2 := cell_keep hSw d2; go_simp; try (with_reducible rfl))
  simp only [Act.put, List.setIfInBounds_toArray, List.set_cons_zero, List.set_cons_succ]
  refine draw_take 3 8 (v := ?_) rfl rfl (by kernel_rfl) (by kernel_rfl) (by kernel_rfl) (fun _ _ _ h => h) (by kernel_rfl) ?hy hHeld ?_
  case hy => (intro w' hSw; (try dsimp only at hSw); have x0 := cell_keep hSw c0; have x1 := cell_keep hSw c1; have y0 := cell_keep hSw d0; have y1 := cell_keep hSw d1; have y2 := cell_keep hSw d2; go_simp; try (with_reducible rfl))
  simp only [Act.put, List.setIfInBounds_toArray, List.set_cons_zero, List.set_cons_succ]
  refine draw_take 5 10 (v := ?_) rfl rfl (by kernel_rfl) (by kernel_rfl) (by kernel_rfl) (fun _ _ _ h => h) (by kernel_rfl) ?hy hHeld ?_
  case hy => (intro w' hSw; (try dsimp only at hSw); have x0 := cell_keep hSw c0; have x1 := cell_keep hSw c1; have y0 := cell_keep hSw d0; have y1 := cell_keep hSw d1; have y2 := cell_keep hSw d2; go_simp; try (with_reducible rfl))
  simp only [Act.put, List.setIfInBounds_toArray, List.set_cons_zero, List.set_cons_succ]
  refine draw_take 6 11 (v := ?_) rfl rfl (by kernel_rfl) (by kernel_rfl) (by kernel_rfl) (fun _ _ _ h => h) (by kernel_rfl) ?hy hHeld ?_
  case hy => (intro w' hSw; (try dsimp only at hSw); have x0 := cell_keep hSw c0; have x1 := cell_keep hSw c1; have y0 := cell_keep hSw d0; have y1 := cell_keep hSw d1; have y2 := cell_keep hSw d2; go_simp; try (with_reducible rfl))
  simp only [Act.put, List.setIfInBounds_toArray, List.set_cons_zero, List.set_cons_succ]
  refine wpAnyH_ready (rs := [4]) (by kernel_rfl) (by simp) ?_
  refine AllReadyH.cons rfl (fun K hK => ?_) AllReadyH.nil
  go_simp
  (go_at_call 6; refine (has.out _).mono ?_; rintro e w4 ⟨rfl, hbq⟩)
  go_wp2_with fail
  refine hK.out _ _ (bthen hHeld hbq) (fun hHeld => ?_)
  clear hK K
  try simp only [Act.put, List.setIfInBounds_toArray, List.set_cons_zero, List.set_cons_succ]
  refine wpAnyH_ready (rs := [7]) (by kernel_rfl) (by simp) ?_
  refine AllReadyH.cons rfl (fun K hK => ?_) AllReadyH.nil
  go_simp
  (go_at_call 7; refine (hrf.out _).mono ?_; rintro e w5 ⟨rfl, hbq⟩)
  go_wp2_with fail
  refine hK.out _ _ (bthen hHeld hbq) (fun hHeld => ?_)
  clear hK K
  try simp only [Act.put, List.setIfInBounds_toArray, List.set_cons_zero, List.set_cons_succ]
  refine draw_take 8 13 (v := ?_) rfl rfl (by kernel_rfl) (by kernel_rfl) (by kernel_rfl) (fun _ _ _ h => h) (by kernel_rfl) ?hy hHeld ?_
  case hy => (intro w hSw; (try dsimp only at hSw); go_simp; try (with_reducible rfl))
  simp only [Act.put, List.setIfInBounds_toArray, List.set_cons_zero, List.set_cons_succ]
  refine draw_take 9 14 (v := ?_) rfl rfl (by kernel_rfl) (by kernel_rfl) (by kernel_rfl) (fun _ _ _ h => h) (by kernel_rfl) ?hy hHeld ?_
  case hy => (intro w hSw; (try dsimp only at hSw); go_simp; try (with_reducible rfl))
  simp only [Act.put, List.setIfInBounds_toArray, List.set_cons_zero, List.set_cons_succ]
  refine draw_take 10 4 (v := ?_) rfl rfl (by kernel_rfl) (by kernel_rfl) (by kernel_rfl) (fun _ _ _ h => h) (by kernel_rfl) ?hy hHeld ?_
  case hy => (intro w hSw; (try dsimp only at hSw); go_simp; try (with_reducible rfl))
  simp only [Act.put, List.setIfInBounds_toArray, List.set_cons_zero, List.set_cons_succ]
  refine wpAnyH_done (by kernel_rfl) ?_ _
  have hB := bthen hbx hHeld
  clear hHeld c0 c1 d0 d1 d2 hbx
  go_wp2
  go_ret
  exact ⟨by first | rfl | (cases A <;> rfl) | simp, hB⟩
end Go.Proofs.Ytbenklhbcgiacaa
