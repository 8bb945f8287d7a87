/- Contracts of package alloc: Asks. -/
import Derived.Test.YtoidfmhkcnpjoaaAlcM
import Derived.Test.YtoidfmhkcnpjoaaPgV
import Derived.Test.YtoidfmhkcnpjoaaHeadQ
import Derived.Test.YtoidfmhkcnpjoaaDraw
namespace Go.Proofs.Ytoidfmhkcnpjoaa
open Go.RowKit

theorem asks_zero {pw np k n m : Int} (h : k = 0) : asksB pw np k n m = false := by
  unfold asksB; simp [h]
theorem asks_else {pw np k n m : Int} (h : ¬ k = 0) : asksB pw np k n m = (needV pw np (sizeV k n m) != -1) := by
  unfold asksB
  cases hv : validB k n m
  · rw [size_no hv, need_no (Or.inr (by omega))]; rfl
  · by_cases hz : needV pw np (sizeV k n m) = -1 <;> simp [h, hz]

set_option maxRecDepth 100000 in
set_option maxHeartbeats 3200000 in
theorem asks_any (pw np k n m : Int) (w : World) (hm0 : 0 ≤ m) (hm : m < 4294967296) :
    Calls Try.prog 15 #[.agg #[.int .i64 pw, .int .i64 np], .agg #[.int .i64 k, .int .i64 n, .int .u32 m]] w fun e w' => e = .returned (.bool (asksB pw np k n m)) ∧ Below w.heap.size w w' := by
  have hsz := Lib.hid (fun w => hsize_any k n m w hm0 hm)
  have hnd := Lib.hid (fun w => need_any pw np (sizeV k n m) w)
  have hbx : Below w.heap.size w ((w.alloc (.cells #[.int .i64 pw, .int .i64 np] 23)).alloc (.cells #[.int .i64 k, .int .i64 n, .int .u32 m] 28)) := bthen below_box below_box
  have c0 : ((w.alloc (.cells #[.int .i64 pw, .int .i64 np] 23)).alloc (.cells #[.int .i64 k, .int .i64 n, .int .u32 m] 28)).cell? ⟨w.heap.size, 0, none⟩ = some (.int .i64 pw) := cell_keep below_box (by simp)
  have c1 : ((w.alloc (.cells #[.int .i64 pw, .int .i64 np] 23)).alloc (.cells #[.int .i64 k, .int .i64 n, .int .u32 m] 28)).cell? ⟨w.heap.size, 1, none⟩ = some (.int .i64 np) := cell_keep below_box (by simp)
  obtain ⟨d0, d1, d2⟩ : ((w.alloc (.cells #[.int .i64 pw, .int .i64 np] 23)).alloc (.cells #[.int .i64 k, .int .i64 n, .int .u32 m] 28)).cell? ⟨w.heap.size + 1, 0, none⟩ = some (.int .i64 k) ∧ ((w.alloc (.cells #[.int .i64 pw, .int .i64 np] 23)).alloc (.cells #[.int .i64 k, .int .i64 n, .int .u32 m] 28)).cell? ⟨w.heap.size + 1, 1, none⟩ = some (.int .i64 n) ∧ ((w.alloc (.cells #[.int .i64 pw, .int .i64 np] 23)).alloc (.cells #[.int .i64 k, .int .i64 n, .int .u32 m] 28)).cell? ⟨w.heap.size + 1, 2, none⟩ = some (.int .u32 m) := by
    obtain ⟨e0, e1, e2, -, -, -⟩ := Own3.new (w.alloc (.cells #[.int .i64 pw, .int .i64 np] 23)) (.int .i64 k) (.int .i64 n) (.int .u32 m) 28
    simp only [World.size_alloc] at e0 e1 e2
    exact ⟨e0, e1, e2⟩
  by_cases hk : k = 0
  · rw [asks_zero hk]
    subst hk
    clear hsz hnd
    go_enter Try.func15, Try.ntmps15
    go_wp2_with fail
    refine wp_region_held_drew (S := fun w' => w'.cell? ⟨w.heap.size, 0, none⟩ = some (.int .i64 pw) ∧ w'.cell? ⟨w.heap.size, 1, none⟩ = some (.int .i64 np) ∧ w'.cell? ⟨w.heap.size + 1, 0, none⟩ = some (.int .i64 0) ∧ w'.cell? ⟨w.heap.size + 1, 1, none⟩ = some (.int .i64 n) ∧ w'.cell? ⟨w.heap.size + 1, 2, none⟩ = some (.int .u32 m) ∧ Below w.heap.size w w') (by kernel_rfl) ⟨c0, c1, d0, d1, d2, hbx.drew⟩ (fun hHeld => ?_)
    refine draw_take 0 5 (v := ?_) rfl rfl (by kernel_rfl) (by kernel_rfl) (by kernel_rfl) (fun _ _ _ h => h) (by kernel_rfl) ?hy hHeld ?_
    case hy => (intro w hSw; (try dsimp only at hSw); go_simp; try (with_reducible rfl))
    simp only [Act.put, List.setIfInBounds_toArray, List.set_cons_zero, List.set_cons_succ]
    refine draw_take 1 6 (v := ?_) rfl rfl (by kernel_rfl) (by kernel_rfl) (by kernel_rfl) (fun _ _ _ h => h) (by kernel_rfl) ?hy hHeld ?_
    case hy => (intro w hSw; (try dsimp only at hSw); go_simp; try (with_reducible rfl))
    simp only [Act.put, List.setIfInBounds_toArray, List.set_cons_zero, List.set_cons_succ]
    refine draw_take 2 7 (v := ?_) rfl rfl (by kernel_rfl) (by kernel_rfl) (by kernel_rfl) (fun _ _ _ h => h) (by kernel_rfl) ?hy hHeld ?_
    case hy => (intro w hSw; (try dsimp only at hSw); go_simp; try (with_reducible rfl))
    simp only [Act.put, List.setIfInBounds_toArray, List.set_cons_zero, List.set_cons_succ]
    refine draw_take 3 8 (v := ?_) rfl rfl (by kernel_rfl) (by kernel_rfl) (by kernel_rfl) (fun _ _ _ h => h) (by kernel_rfl) ?hy hHeld ?_
    case hy => (intro w hSw; (try dsimp only at hSw); go_simp; try (with_reducible rfl))
    simp only [Act.put, List.setIfInBounds_toArray, List.set_cons_zero, List.set_cons_succ]
    refine draw_skip 4 9 rfl rfl (by kernel_rfl) (by kernel_rfl) (by kernel_rfl) (fun _ _ _ h => h) (by kernel_rfl) hHeld ?_
    simp only [Act.put, List.setIfInBounds_toArray, List.set_cons_zero, List.set_cons_succ]
    refine draw_skip 5 10 rfl rfl (by kernel_rfl) (by kernel_rfl) (by kernel_rfl) (fun _ _ _ h => h) (by kernel_rfl) hHeld ?_
    simp only [Act.put, List.setIfInBounds_toArray, List.set_cons_zero, List.set_cons_succ]
    refine draw_skip 6 11 rfl rfl (by kernel_rfl) (by kernel_rfl) (by kernel_rfl) (fun _ _ _ h => h) (by kernel_rfl) hHeld ?_
    simp only [Act.put, List.setIfInBounds_toArray, List.set_cons_zero, List.set_cons_succ]
    refine draw_skip 7 12 rfl rfl (by kernel_rfl) (by kernel_rfl) (by kernel_rfl) (fun _ _ _ h => h) (by kernel_rfl) hHeld ?_
    simp only [Act.put, List.setIfInBounds_toArray, List.set_cons_zero, List.set_cons_succ]
    refine draw_skip 8 13 rfl rfl (by kernel_rfl) (by kernel_rfl) (by kernel_rfl) (fun _ _ _ h => h) (by kernel_rfl) hHeld ?_
    simp only [Act.put, List.setIfInBounds_toArray, List.set_cons_zero, List.set_cons_succ]
    refine draw_take 9 14 (v := ?_) rfl rfl (by kernel_rfl) (by kernel_rfl) (by kernel_rfl) (fun _ _ _ h => h) (by kernel_rfl) ?hy hHeld ?_
    case hy => (intro w hSw; (try dsimp only at hSw); go_simp; try (with_reducible rfl))
    simp only [Act.put, List.setIfInBounds_toArray, List.set_cons_zero, List.set_cons_succ]
    refine draw_take 10 4 (v := ?_) rfl rfl (by kernel_rfl) (by kernel_rfl) (by kernel_rfl) (fun _ _ _ h => h) (by kernel_rfl) ?hy hHeld ?_
    case hy => (intro w hSw; (try dsimp only at hSw); go_simp; try (with_reducible rfl))
    simp only [Act.put, List.setIfInBounds_toArray, List.set_cons_zero, List.set_cons_succ]
    refine wpAnyH_done (by kernel_rfl) ?_ _
    have hB := hHeld.2.2.2.2.2
    clear hHeld c0 c1 d0 d1 d2 hbx
    go_wp2
    go_ret
    exact ⟨rfl, hB⟩
  · rw [asks_else hk]
    have b9 : (k != 0) = true := bne_iff_ne.2 hk
    generalize needV pw np (sizeV k n m) = Z at hnd
    generalize sizeV k n m = SZ at hsz hnd
    clear hk
    go_enter Try.func15, Try.ntmps15
    go_wp2_with fail
    refine wp_region_held_drew (S := fun w' => w'.cell? ⟨w.heap.size, 0, none⟩ = some (.int .i64 pw) ∧ w'.cell? ⟨w.heap.size, 1, none⟩ = some (.int .i64 np) ∧ w'.cell? ⟨w.heap.size + 1, 0, none⟩ = some (.int .i64 k) ∧ w'.cell? ⟨w.heap.size + 1, 1, none⟩ = some (.int .i64 n) ∧ w'.cell? ⟨w.heap.size + 1, 2, none⟩ = some (.int .u32 m) ∧ Below w.heap.size w w') (by kernel_rfl) ⟨c0, c1, d0, d1, d2, hbx.drew⟩ (fun hHeld => ?_)
    refine draw_take 0 5 (v := ?_) rfl rfl (by kernel_rfl) (by kernel_rfl) (by kernel_rfl) (fun _ _ _ h => h) (by kernel_rfl) ?hy hHeld ?_
    case hy => (intro w hSw; (try dsimp only at hSw); go_simp; try (with_reducible rfl))
    simp only [Act.put, List.setIfInBounds_toArray, List.set_cons_zero, List.set_cons_succ]
    refine draw_take 1 6 (v := ?_) rfl rfl (by kernel_rfl) (by kernel_rfl) (by kernel_rfl) (fun _ _ _ h => h) (by kernel_rfl) ?hy hHeld ?_
    case hy => (intro w hSw; (try dsimp only at hSw); go_simp; try (with_reducible rfl))
    simp only [Act.put, List.setIfInBounds_toArray, List.set_cons_zero, List.set_cons_succ]
    refine draw_take 2 7 (v := ?_) rfl rfl (by kernel_rfl) (by kernel_rfl) (by kernel_rfl) (fun _ _ _ h => h) (by kernel_rfl) ?hy hHeld ?_
    case hy => (intro w hSw; (try dsimp only at hSw); go_simp; try (with_reducible rfl))
    simp only [Act.put, List.setIfInBounds_toArray, List.set_cons_zero, List.set_cons_succ]
    refine draw_take 3 8 (v := ?_) rfl rfl (by kernel_rfl) (by kernel_rfl) (by kernel_rfl) (fun _ _ _ h => h) (by kernel_rfl) ?hy hHeld ?_
    case hy => (intro w hSw; (try dsimp only at hSw); go_simp; try (with_reducible rfl))
    simp only [Act.put, List.setIfInBounds_toArray, List.set_cons_zero, List.set_cons_succ]
    refine draw_take 4 9 (v := ?_) rfl rfl (by kernel_rfl) (by kernel_rfl) (by kernel_rfl) (fun _ _ _ h => h) (by kernel_rfl) ?hy hHeld ?_
    case hy => (intro w hSw; (try dsimp only at hSw); go_simp; try (with_reducible rfl))
    simp only [Act.put, List.setIfInBounds_toArray, List.set_cons_zero, List.set_cons_succ]
    refine draw_take 5 10 (v := ?_) rfl rfl (by kernel_rfl) (by kernel_rfl) (by kernel_rfl) (fun _ _ _ h => h) (by kernel_rfl) ?hy hHeld ?_
    case hy => (intro w hSw; (try dsimp only at hSw); go_simp; try (with_reducible rfl))
    simp only [Act.put, List.setIfInBounds_toArray, List.set_cons_zero, List.set_cons_succ]
    refine wpAnyH_ready (rs := [6]) (by kernel_rfl) (by simp) ?_
    refine AllReadyH.cons rfl (fun K hK => ?_) AllReadyH.nil
    go_simp
    (go_at_call 17; refine (hsz.out _).mono ?_; rintro e w2 ⟨rfl, hbq⟩)
    go_wp2_with fail
    refine hK.out _ _ (keep6 hHeld hbq) (fun hHeld => ?_)
    clear hK K
    try simp only [Act.put, List.setIfInBounds_toArray, List.set_cons_zero, List.set_cons_succ]
    refine wpAnyH_ready (rs := [7]) (by kernel_rfl) (by simp) ?_
    refine AllReadyH.cons rfl (fun K hK => ?_) AllReadyH.nil
    go_simp
    (go_at_call 16; refine (hnd.out _).mono ?_; rintro e w3 ⟨rfl, hbq⟩)
    go_wp2_with fail
    refine hK.out _ _ (keep6 hHeld hbq) (fun hHeld => ?_)
    clear hK K
    try simp only [Act.put, List.setIfInBounds_toArray, List.set_cons_zero, List.set_cons_succ]
    refine draw_take 8 13 (v := ?_) rfl rfl (by kernel_rfl) (by kernel_rfl) (by kernel_rfl) (fun _ _ _ h => h) (by kernel_rfl) ?hy hHeld ?_
    case hy => (intro w hSw; (try dsimp only at hSw); go_simp; try (with_reducible rfl))
    simp only [Act.put, List.setIfInBounds_toArray, List.set_cons_zero, List.set_cons_succ]
    refine draw_take 9 14 (v := ?_) rfl rfl (by kernel_rfl) (by kernel_rfl) (by kernel_rfl) (fun _ _ _ h => h) (by kernel_rfl) ?hy hHeld ?_
    case hy => (intro w hSw; (try dsimp only at hSw); go_simp; try (with_reducible rfl))
    simp only [Act.put, List.setIfInBounds_toArray, List.set_cons_zero, List.set_cons_succ]
    refine draw_take 10 4 (v := ?_) rfl rfl (by kernel_rfl) (by kernel_rfl) (by kernel_rfl) (fun _ _ _ h => h) (by kernel_rfl) ?hy hHeld ?_
    case hy => (intro w hSw; (try dsimp only at hSw); go_simp; try (with_reducible rfl))
    simp only [Act.put, List.setIfInBounds_toArray, List.set_cons_zero, List.set_cons_succ]
    refine wpAnyH_done (by kernel_rfl) ?_ _
    have hB := hHeld.2.2.2.2.2
    clear hHeld c0 c1 d0 d1 d2 hbx
    go_wp2
    go_ret
    exact ⟨rfl, hB⟩
end Go.Proofs.Ytoidfmhkcnpjoaa
