/- The law AllocLimit. -/
import Derived.Test.YtbenklhbcgiacaaAlcT
import Derived.Test.YtbenklhbcgiacaaAlcV
set_option linter.unusedSimpArgs false
set_option linter.unusedVariables false
namespace Go.Proofs.Ytbenklhbcgiacaa
open Go.RowKit

set_option maxRecDepth 100000 in
set_option maxHeartbeats 3200000 in
theorem limit_conf (pw np n : Int) (w : World) (hv : confB pw np = false) :
    Calls Try.prog 4 #[.agg #[.int .i64 pw, .int .i64 np], .int .i64 n] w fun e w' => e = .returned (.bool true) ∧ Below w.heap.size w w' := by
  have haw := Lib.hid awake_any
  have hrf := Lib.hid (fun w => refNew_any pw np w)
  rw [(newH_no hv).1, (newH_no hv).2] at hrf
  unfold Hp.zero at hrf
  have c0 : (w.alloc (.cells #[.int .i64 pw, .int .i64 np] 23)).cell? ⟨w.heap.size, 0, none⟩ = some (.int .i64 pw) := by simp
  have c1 : (w.alloc (.cells #[.int .i64 pw, .int .i64 np] 23)).cell? ⟨w.heap.size, 1, none⟩ = some (.int .i64 np) := by simp
  have hbx := Lib.hid (below_box (w := w) (o := .cells #[.int .i64 pw, .int .i64 np] 23))
  go_enter Try.func4, Try.ntmps4
  go_wp2_with fail
  refine (hrf.out _).mono ?_
  rintro e w1 ⟨⟨v, rfl, p, nn, c, q, m, d, rfl, hs, hr, -⟩, hb1⟩
  have hb0 := Lib.hid (bthen (bthen hbx.out hb1) (below_box (w := w1) (o := .cells #[.int .i64 0, .int .i64 0, .slice p nn c, .slice q m d, .int .i64 0, .int .i64 0] 32)))
  have k0 : (w1.alloc (.cells #[.int .i64 0, .int .i64 0, .slice p nn c, .slice q m d, .int .i64 0, .int .i64 0] 32)).cell? ⟨w.heap.size, 0, none⟩ = some (.int .i64 pw) := cell_keep below_box (cell_keep hb1 c0)
  have k1 : (w1.alloc (.cells #[.int .i64 0, .int .i64 0, .slice p nn c, .slice q m d, .int .i64 0, .int .i64 0] 32)).cell? ⟨w.heap.size, 1, none⟩ = some (.int .i64 np) := cell_keep below_box (cell_keep hb1 c1)
  clear hs hr hb1 hrf c0 c1
  go_wp2_with fail
  refine wp_region_held_drew (S := fun w' => Below (w1.alloc (.cells #[.int .i64 0, .int .i64 0, .slice p nn c, .slice q m d, .int .i64 0, .int .i64 0] 32)).heap.size (w1.alloc (.cells #[.int .i64 0, .int .i64 0, .slice p nn c, .slice q m d, .int .i64 0, .int .i64 0] 32)) w') (by kernel_rfl) ((Below.refl _ _).drew) (fun hHeld => ?_)
  refine draw_take 0 21 (v := ?_) rfl rfl (by kernel_rfl) (by kernel_rfl) (by kernel_rfl) (fun _ _ _ h => h) (by kernel_rfl) ?hy hHeld ?_
  case hy => (intro w' hSw; (try dsimp only at hSw); skip; go_simp; try (with_reducible rfl))
  simp only [Act.put, List.setIfInBounds_toArray, List.set_cons_zero, List.set_cons_succ]
  refine draw_take 1 22 (v := ?_) rfl rfl (by kernel_rfl) (by kernel_rfl) (by kernel_rfl) (fun _ _ _ h => h) (by kernel_rfl) ?hy hHeld ?_
  case hy => (intro w' hSw; (try dsimp only at hSw); skip; go_simp; try (with_reducible rfl))
  simp only [Act.put, List.setIfInBounds_toArray, List.set_cons_zero, List.set_cons_succ]
  refine draw_take 2 23 (v := ?_) rfl rfl (by kernel_rfl) (by kernel_rfl) (by kernel_rfl) (fun _ _ _ h => h) (by kernel_rfl) ?hy hHeld ?_
  case hy => (intro w' hSw; (try dsimp only at hSw); skip; go_simp; try (with_reducible rfl))
  simp only [Act.put, List.setIfInBounds_toArray, List.set_cons_zero, List.set_cons_succ]
  refine draw_skip 3 24 rfl rfl (by kernel_rfl) (by kernel_rfl) (by kernel_rfl) (fun _ _ _ h => h) (by kernel_rfl) hHeld ?_
  simp only [Act.put, List.setIfInBounds_toArray, List.set_cons_zero, List.set_cons_succ]
  refine draw_skip 4 25 rfl rfl (by kernel_rfl) (by kernel_rfl) (by kernel_rfl) (fun _ _ _ h => h) (by kernel_rfl) hHeld ?_
  simp only [Act.put, List.setIfInBounds_toArray, List.set_cons_zero, List.set_cons_succ]
  refine draw_take 5 26 (v := ?_) rfl rfl (by kernel_rfl) (by kernel_rfl) (by kernel_rfl) (fun _ _ _ h => h) (by kernel_rfl) ?hy hHeld ?_
  case hy => (intro w' hSw; (try dsimp only at hSw); skip; go_simp; try (with_reducible rfl))
  simp only [Act.put, List.setIfInBounds_toArray, List.set_cons_zero, List.set_cons_succ]
  refine draw_take 6 27 (v := ?_) rfl rfl (by kernel_rfl) (by kernel_rfl) (by kernel_rfl) (fun _ _ _ h => h) (by kernel_rfl) ?hy hHeld ?_
  case hy => (intro w' hSw; (try dsimp only at hSw); skip; go_simp; try (with_reducible rfl))
  simp only [Act.put, List.setIfInBounds_toArray, List.set_cons_zero, List.set_cons_succ]
  refine draw_skip 7 28 rfl rfl (by kernel_rfl) (by kernel_rfl) (by kernel_rfl) (fun _ _ _ h => h) (by kernel_rfl) hHeld ?_
  simp only [Act.put, List.setIfInBounds_toArray, List.set_cons_zero, List.set_cons_succ]
  refine draw_skip 8 29 rfl rfl (by kernel_rfl) (by kernel_rfl) (by kernel_rfl) (fun _ _ _ h => h) (by kernel_rfl) hHeld ?_
  simp only [Act.put, List.setIfInBounds_toArray, List.set_cons_zero, List.set_cons_succ]
  refine draw_take 9 30 (v := ?_) rfl rfl (by kernel_rfl) (by kernel_rfl) (by kernel_rfl) (fun _ _ _ h => h) (by kernel_rfl) ?hy hHeld ?_
  case hy => (intro w' hSw; (try dsimp only at hSw); skip; go_simp; try (with_reducible rfl))
  simp only [Act.put, List.setIfInBounds_toArray, List.set_cons_zero, List.set_cons_succ]
  refine draw_take 10 31 (v := ?_) rfl rfl (by kernel_rfl) (by kernel_rfl) (by kernel_rfl) (fun _ _ _ h => h) (by kernel_rfl) ?hy hHeld ?_
  case hy => (intro w' hSw; (try dsimp only at hSw); skip; go_simp; try (with_reducible rfl))
  simp only [Act.put, List.setIfInBounds_toArray, List.set_cons_zero, List.set_cons_succ]
  refine draw_skip 11 32 rfl rfl (by kernel_rfl) (by kernel_rfl) (by kernel_rfl) (fun _ _ _ h => h) (by kernel_rfl) hHeld ?_
  simp only [Act.put, List.setIfInBounds_toArray, List.set_cons_zero, List.set_cons_succ]
  refine draw_skip 12 33 rfl rfl (by kernel_rfl) (by kernel_rfl) (by kernel_rfl) (fun _ _ _ h => h) (by kernel_rfl) hHeld ?_
  simp only [Act.put, List.setIfInBounds_toArray, List.set_cons_zero, List.set_cons_succ]
  refine draw_skip 13 34 rfl rfl (by kernel_rfl) (by kernel_rfl) (by kernel_rfl) (fun _ _ _ h => h) (by kernel_rfl) hHeld ?_
  simp only [Act.put, List.setIfInBounds_toArray, List.set_cons_zero, List.set_cons_succ]
  refine draw_skip 14 35 rfl rfl (by kernel_rfl) (by kernel_rfl) (by kernel_rfl) (fun _ _ _ h => h) (by kernel_rfl) hHeld ?_
  simp only [Act.put, List.setIfInBounds_toArray, List.set_cons_zero, List.set_cons_succ]
  refine draw_skip 15 36 rfl rfl (by kernel_rfl) (by kernel_rfl) (by kernel_rfl) (fun _ _ _ h => h) (by kernel_rfl) hHeld ?_
  simp only [Act.put, List.setIfInBounds_toArray, List.set_cons_zero, List.set_cons_succ]
  refine draw_take 16 37 (v := ?_) rfl rfl (by kernel_rfl) (by kernel_rfl) (by kernel_rfl) (fun _ _ _ h => h) (by kernel_rfl) ?hy hHeld ?_
  case hy => (intro w' hSw; (try dsimp only at hSw); skip; go_simp; try (with_reducible rfl))
  simp only [Act.put, List.setIfInBounds_toArray, List.set_cons_zero, List.set_cons_succ]
  refine wpAnyH_done (by kernel_rfl) ?_ _
  have HB := Lib.hid (bthen hb0.out hHeld)
  clear hHeld hb0 k0 k1
  go_wp2_with fail
  refine (haw.out _).mono ?_
  rintro e w9 ⟨rfl, hb9⟩
  have HB9 := Lib.hid (bthen HB.out hb9)
  clear hb9 haw
  go_wp2
  go_ret
  exact ⟨rfl, HB9.out⟩

set_option maxRecDepth 100000 in
set_option maxHeartbeats 3200000 in
theorem limit_neg (pw np n : Int) (w : World) (hv : confB pw np = true) (hn : n < 0) :
    Calls Try.prog 4 #[.agg #[.int .i64 pw, .int .i64 np], .int .i64 n] w fun e w' => e = .returned (.bool true) ∧ Below w.heap.size w w' := by
  have haw := Lib.hid awake_any
  have hrf := Lib.hid (fun w => refNew_any pw np w)
  rw [(newH_ok hv).1, (newH_ok hv).2] at hrf
  have hd1 : decide (n < 0) = true := decide_eq_true hn
  have c0 : (w.alloc (.cells #[.int .i64 pw, .int .i64 np] 23)).cell? ⟨w.heap.size, 0, none⟩ = some (.int .i64 pw) := by simp
  have c1 : (w.alloc (.cells #[.int .i64 pw, .int .i64 np] 23)).cell? ⟨w.heap.size, 1, none⟩ = some (.int .i64 np) := by simp
  have hbx := Lib.hid (below_box (w := w) (o := .cells #[.int .i64 pw, .int .i64 np] 23))
  go_enter Try.func4, Try.ntmps4
  go_wp2_with fail
  refine (hrf.out _).mono ?_
  rintro e w1 ⟨⟨v, rfl, p, nn, c, q, m, d, rfl, hs, hr, -⟩, hb1⟩
  have hb0 := Lib.hid (bthen (bthen hbx.out hb1) (below_box (w := w1) (o := .cells #[.int .i64 pw, .int .i64 np, .slice p nn c, .slice q m d, .int .i64 0, .int .i64 (-1)] 32)))
  have k0 : (w1.alloc (.cells #[.int .i64 pw, .int .i64 np, .slice p nn c, .slice q m d, .int .i64 0, .int .i64 (-1)] 32)).cell? ⟨w.heap.size, 0, none⟩ = some (.int .i64 pw) := cell_keep below_box (cell_keep hb1 c0)
  have k1 : (w1.alloc (.cells #[.int .i64 pw, .int .i64 np, .slice p nn c, .slice q m d, .int .i64 0, .int .i64 (-1)] 32)).cell? ⟨w.heap.size, 1, none⟩ = some (.int .i64 np) := cell_keep below_box (cell_keep hb1 c1)
  clear hs hr hb1 hrf c0 c1
  go_wp2_with fail
  refine wp_region_held_drew (S := fun w' => Below (w1.alloc (.cells #[.int .i64 pw, .int .i64 np, .slice p nn c, .slice q m d, .int .i64 0, .int .i64 (-1)] 32)).heap.size (w1.alloc (.cells #[.int .i64 pw, .int .i64 np, .slice p nn c, .slice q m d, .int .i64 0, .int .i64 (-1)] 32)) w') (by kernel_rfl) ((Below.refl _ _).drew) (fun hHeld => ?_)
  refine draw_take 0 21 (v := ?_) rfl rfl (by kernel_rfl) (by kernel_rfl) (by kernel_rfl) (fun _ _ _ h => h) (by kernel_rfl) ?hy hHeld ?_
  case hy => (intro w' hSw; (try dsimp only at hSw); skip; go_simp; try (with_reducible rfl))
  simp only [Act.put, List.setIfInBounds_toArray, List.set_cons_zero, List.set_cons_succ]
  refine draw_take 1 22 (v := ?_) rfl rfl (by kernel_rfl) (by kernel_rfl) (by kernel_rfl) (fun _ _ _ h => h) (by kernel_rfl) ?hy hHeld ?_
  case hy => (intro w' hSw; (try dsimp only at hSw); skip; go_simp; try (with_reducible rfl))
  simp only [Act.put, List.setIfInBounds_toArray, List.set_cons_zero, List.set_cons_succ]
  refine draw_take 2 23 (v := ?_) rfl rfl (by kernel_rfl) (by kernel_rfl) (by kernel_rfl) (fun _ _ _ h => h) (by kernel_rfl) ?hy hHeld ?_
  case hy => (intro w' hSw; (try dsimp only at hSw); skip; go_simp; try (with_reducible rfl))
  simp only [Act.put, List.setIfInBounds_toArray, List.set_cons_zero, List.set_cons_succ]
  refine draw_take 3 24 (v := ?_) rfl rfl (by kernel_rfl) (by kernel_rfl) (by kernel_rfl) (fun _ _ _ h => h) (by kernel_rfl) ?hy hHeld ?_
  case hy => (intro w' hSw; (try dsimp only at hSw); skip; go_simp; try (with_reducible rfl))
  simp only [Act.put, List.setIfInBounds_toArray, List.set_cons_zero, List.set_cons_succ]
  refine draw_take 4 25 (v := ?_) rfl rfl (by kernel_rfl) (by kernel_rfl) (by kernel_rfl) (fun _ _ _ h => h) (by kernel_rfl) ?hy hHeld ?_
  case hy => (intro w' hSw; (try dsimp only at hSw); skip; go_simp; try (with_reducible rfl))
  simp only [Act.put, List.setIfInBounds_toArray, List.set_cons_zero, List.set_cons_succ]
  refine draw_take 5 26 (v := ?_) rfl rfl (by kernel_rfl) (by kernel_rfl) (by kernel_rfl) (fun _ _ _ h => h) (by kernel_rfl) ?hy hHeld ?_
  case hy => (intro w' hSw; (try dsimp only at hSw); skip; go_simp; try (with_reducible rfl))
  simp only [Act.put, List.setIfInBounds_toArray, List.set_cons_zero, List.set_cons_succ]
  refine draw_take 6 27 (v := ?_) rfl rfl (by kernel_rfl) (by kernel_rfl) (by kernel_rfl) (fun _ _ _ h => h) (by kernel_rfl) ?hy hHeld ?_
  case hy => (intro w' hSw; (try dsimp only at hSw); skip; go_simp; try (with_reducible rfl))
  simp only [Act.put, List.setIfInBounds_toArray, List.set_cons_zero, List.set_cons_succ]
  refine draw_skip 7 28 rfl rfl (by kernel_rfl) (by kernel_rfl) (by kernel_rfl) (fun _ _ _ h => h) (by kernel_rfl) hHeld ?_
  simp only [Act.put, List.setIfInBounds_toArray, List.set_cons_zero, List.set_cons_succ]
  refine draw_skip 8 29 rfl rfl (by kernel_rfl) (by kernel_rfl) (by kernel_rfl) (fun _ _ _ h => h) (by kernel_rfl) hHeld ?_
  simp only [Act.put, List.setIfInBounds_toArray, List.set_cons_zero, List.set_cons_succ]
  refine draw_take 9 30 (v := ?_) rfl rfl (by kernel_rfl) (by kernel_rfl) (by kernel_rfl) (fun _ _ _ h => h) (by kernel_rfl) ?hy hHeld ?_
  case hy => (intro w' hSw; (try dsimp only at hSw); skip; go_simp; try (with_reducible rfl))
  simp only [Act.put, List.setIfInBounds_toArray, List.set_cons_zero, List.set_cons_succ]
  refine draw_take 10 31 (v := ?_) rfl rfl (by kernel_rfl) (by kernel_rfl) (by kernel_rfl) (fun _ _ _ h => h) (by kernel_rfl) ?hy hHeld ?_
  case hy => (intro w' hSw; (try dsimp only at hSw); skip; go_simp; try (with_reducible rfl))
  simp only [Act.put, List.setIfInBounds_toArray, List.set_cons_zero, List.set_cons_succ]
  refine draw_skip 11 32 rfl rfl (by kernel_rfl) (by kernel_rfl) (by kernel_rfl) (fun _ _ _ h => h) (by kernel_rfl) hHeld ?_
  simp only [Act.put, List.setIfInBounds_toArray, List.set_cons_zero, List.set_cons_succ]
  refine draw_skip 12 33 rfl rfl (by kernel_rfl) (by kernel_rfl) (by kernel_rfl) (fun _ _ _ h => h) (by kernel_rfl) hHeld ?_
  simp only [Act.put, List.setIfInBounds_toArray, List.set_cons_zero, List.set_cons_succ]
  refine draw_skip 13 34 rfl rfl (by kernel_rfl) (by kernel_rfl) (by kernel_rfl) (fun _ _ _ h => h) (by kernel_rfl) hHeld ?_
  simp only [Act.put, List.setIfInBounds_toArray, List.set_cons_zero, List.set_cons_succ]
  refine draw_skip 14 35 rfl rfl (by kernel_rfl) (by kernel_rfl) (by kernel_rfl) (fun _ _ _ h => h) (by kernel_rfl) hHeld ?_
  simp only [Act.put, List.setIfInBounds_toArray, List.set_cons_zero, List.set_cons_succ]
  refine draw_skip 15 36 rfl rfl (by kernel_rfl) (by kernel_rfl) (by kernel_rfl) (fun _ _ _ h => h) (by kernel_rfl) hHeld ?_
  simp only [Act.put, List.setIfInBounds_toArray, List.set_cons_zero, List.set_cons_succ]
  refine draw_take 16 37 (v := ?_) rfl rfl (by kernel_rfl) (by kernel_rfl) (by kernel_rfl) (fun _ _ _ h => h) (by kernel_rfl) ?hy hHeld ?_
  case hy => (intro w' hSw; (try dsimp only at hSw); skip; go_simp; try (with_reducible rfl))
  simp only [Act.put, List.setIfInBounds_toArray, List.set_cons_zero, List.set_cons_succ]
  refine wpAnyH_done (by kernel_rfl) ?_ _
  have HB := Lib.hid (bthen hb0.out hHeld)
  clear hHeld hb0 k0 k1
  go_wp2_with fail
  refine (haw.out _).mono ?_
  rintro e w9 ⟨rfl, hb9⟩
  have HB9 := Lib.hid (bthen HB.out hb9)
  clear hb9 haw
  go_wp2
  go_ret
  exact ⟨rfl, HB9.out⟩

set_option maxRecDepth 100000 in
set_option maxHeartbeats 3200000 in
theorem limit_big (pw np n : Int) (w : World) (hv : confB pw np = true) (hn : 0 ≤ n) (hn2 : 63 < n) :
    Calls Try.prog 4 #[.agg #[.int .i64 pw, .int .i64 np], .int .i64 n] w fun e w' => e = .returned (.bool true) ∧ Below w.heap.size w w' := by
  have haw := Lib.hid awake_any
  have hrf := Lib.hid (fun w => refNew_any pw np w)
  rw [(newH_ok hv).1, (newH_ok hv).2] at hrf
  have hd1 : decide (n < 0) = false := decide_eq_false (by omega)
  have hd2 : decide (63 < n) = true := decide_eq_true hn2
  have c0 : (w.alloc (.cells #[.int .i64 pw, .int .i64 np] 23)).cell? ⟨w.heap.size, 0, none⟩ = some (.int .i64 pw) := by simp
  have c1 : (w.alloc (.cells #[.int .i64 pw, .int .i64 np] 23)).cell? ⟨w.heap.size, 1, none⟩ = some (.int .i64 np) := by simp
  have hbx := Lib.hid (below_box (w := w) (o := .cells #[.int .i64 pw, .int .i64 np] 23))
  go_enter Try.func4, Try.ntmps4
  go_wp2_with fail
  refine (hrf.out _).mono ?_
  rintro e w1 ⟨⟨v, rfl, p, nn, c, q, m, d, rfl, hs, hr, -⟩, hb1⟩
  have hb0 := Lib.hid (bthen (bthen hbx.out hb1) (below_box (w := w1) (o := .cells #[.int .i64 pw, .int .i64 np, .slice p nn c, .slice q m d, .int .i64 0, .int .i64 (-1)] 32)))
  have k0 : (w1.alloc (.cells #[.int .i64 pw, .int .i64 np, .slice p nn c, .slice q m d, .int .i64 0, .int .i64 (-1)] 32)).cell? ⟨w.heap.size, 0, none⟩ = some (.int .i64 pw) := cell_keep below_box (cell_keep hb1 c0)
  have k1 : (w1.alloc (.cells #[.int .i64 pw, .int .i64 np, .slice p nn c, .slice q m d, .int .i64 0, .int .i64 (-1)] 32)).cell? ⟨w.heap.size, 1, none⟩ = some (.int .i64 np) := cell_keep below_box (cell_keep hb1 c1)
  clear hs hr hb1 hrf c0 c1
  go_wp2_with fail
  refine wp_region_held_drew (S := fun w' => Below (w1.alloc (.cells #[.int .i64 pw, .int .i64 np, .slice p nn c, .slice q m d, .int .i64 0, .int .i64 (-1)] 32)).heap.size (w1.alloc (.cells #[.int .i64 pw, .int .i64 np, .slice p nn c, .slice q m d, .int .i64 0, .int .i64 (-1)] 32)) w') (by kernel_rfl) ((Below.refl _ _).drew) (fun hHeld => ?_)
  refine draw_take 0 21 (v := ?_) rfl rfl (by kernel_rfl) (by kernel_rfl) (by kernel_rfl) (fun _ _ _ h => h) (by kernel_rfl) ?hy hHeld ?_
  case hy => (intro w' hSw; (try dsimp only at hSw); skip; go_simp; try (with_reducible rfl))
  simp only [Act.put, List.setIfInBounds_toArray, List.set_cons_zero, List.set_cons_succ]
  refine draw_take 1 22 (v := ?_) rfl rfl (by kernel_rfl) (by kernel_rfl) (by kernel_rfl) (fun _ _ _ h => h) (by kernel_rfl) ?hy hHeld ?_
  case hy => (intro w' hSw; (try dsimp only at hSw); skip; go_simp; try (with_reducible rfl))
  simp only [Act.put, List.setIfInBounds_toArray, List.set_cons_zero, List.set_cons_succ]
  refine draw_take 2 23 (v := ?_) rfl rfl (by kernel_rfl) (by kernel_rfl) (by kernel_rfl) (fun _ _ _ h => h) (by kernel_rfl) ?hy hHeld ?_
  case hy => (intro w' hSw; (try dsimp only at hSw); skip; go_simp; try (with_reducible rfl))
  simp only [Act.put, List.setIfInBounds_toArray, List.set_cons_zero, List.set_cons_succ]
  refine draw_take 3 24 (v := ?_) rfl rfl (by kernel_rfl) (by kernel_rfl) (by kernel_rfl) (fun _ _ _ h => h) (by kernel_rfl) ?hy hHeld ?_
  case hy => (intro w' hSw; (try dsimp only at hSw); skip; go_simp; try (with_reducible rfl))
  simp only [Act.put, List.setIfInBounds_toArray, List.set_cons_zero, List.set_cons_succ]
  refine draw_take 4 25 (v := ?_) rfl rfl (by kernel_rfl) (by kernel_rfl) (by kernel_rfl) (fun _ _ _ h => h) (by kernel_rfl) ?hy hHeld ?_
  case hy => (intro w' hSw; (try dsimp only at hSw); skip; go_simp; try (with_reducible rfl))
  simp only [Act.put, List.setIfInBounds_toArray, List.set_cons_zero, List.set_cons_succ]
  refine draw_take 5 26 (v := ?_) rfl rfl (by kernel_rfl) (by kernel_rfl) (by kernel_rfl) (fun _ _ _ h => h) (by kernel_rfl) ?hy hHeld ?_
  case hy => (intro w' hSw; (try dsimp only at hSw); skip; go_simp; try (with_reducible rfl))
  simp only [Act.put, List.setIfInBounds_toArray, List.set_cons_zero, List.set_cons_succ]
  refine draw_take 6 27 (v := ?_) rfl rfl (by kernel_rfl) (by kernel_rfl) (by kernel_rfl) (fun _ _ _ h => h) (by kernel_rfl) ?hy hHeld ?_
  case hy => (intro w' hSw; (try dsimp only at hSw); skip; go_simp; try (with_reducible rfl))
  simp only [Act.put, List.setIfInBounds_toArray, List.set_cons_zero, List.set_cons_succ]
  refine draw_take 7 28 (v := ?_) rfl rfl (by kernel_rfl) (by kernel_rfl) (by kernel_rfl) (fun _ _ _ h => h) (by kernel_rfl) ?hy hHeld ?_
  case hy => (intro w' hSw; (try dsimp only at hSw); skip; go_simp; try (with_reducible rfl))
  simp only [Act.put, List.setIfInBounds_toArray, List.set_cons_zero, List.set_cons_succ]
  refine draw_take 8 29 (v := ?_) rfl rfl (by kernel_rfl) (by kernel_rfl) (by kernel_rfl) (fun _ _ _ h => h) (by kernel_rfl) ?hy hHeld ?_
  case hy => (intro w' hSw; (try dsimp only at hSw); skip; go_simp; try (with_reducible rfl))
  simp only [Act.put, List.setIfInBounds_toArray, List.set_cons_zero, List.set_cons_succ]
  refine draw_take 9 30 (v := ?_) rfl rfl (by kernel_rfl) (by kernel_rfl) (by kernel_rfl) (fun _ _ _ h => h) (by kernel_rfl) ?hy hHeld ?_
  case hy => (intro w' hSw; (try dsimp only at hSw); skip; go_simp; try (with_reducible rfl))
  simp only [Act.put, List.setIfInBounds_toArray, List.set_cons_zero, List.set_cons_succ]
  refine draw_take 10 31 (v := ?_) rfl rfl (by kernel_rfl) (by kernel_rfl) (by kernel_rfl) (fun _ _ _ h => h) (by kernel_rfl) ?hy hHeld ?_
  case hy => (intro w' hSw; (try dsimp only at hSw); skip; go_simp; try (with_reducible rfl))
  simp only [Act.put, List.setIfInBounds_toArray, List.set_cons_zero, List.set_cons_succ]
  refine draw_skip 11 32 rfl rfl (by kernel_rfl) (by kernel_rfl) (by kernel_rfl) (fun _ _ _ h => h) (by kernel_rfl) hHeld ?_
  simp only [Act.put, List.setIfInBounds_toArray, List.set_cons_zero, List.set_cons_succ]
  refine draw_skip 12 33 rfl rfl (by kernel_rfl) (by kernel_rfl) (by kernel_rfl) (fun _ _ _ h => h) (by kernel_rfl) hHeld ?_
  simp only [Act.put, List.setIfInBounds_toArray, List.set_cons_zero, List.set_cons_succ]
  refine draw_skip 13 34 rfl rfl (by kernel_rfl) (by kernel_rfl) (by kernel_rfl) (fun _ _ _ h => h) (by kernel_rfl) hHeld ?_
  simp only [Act.put, List.setIfInBounds_toArray, List.set_cons_zero, List.set_cons_succ]
  refine draw_skip 14 35 rfl rfl (by kernel_rfl) (by kernel_rfl) (by kernel_rfl) (fun _ _ _ h => h) (by kernel_rfl) hHeld ?_
  simp only [Act.put, List.setIfInBounds_toArray, List.set_cons_zero, List.set_cons_succ]
  refine draw_skip 15 36 rfl rfl (by kernel_rfl) (by kernel_rfl) (by kernel_rfl) (fun _ _ _ h => h) (by kernel_rfl) hHeld ?_
  simp only [Act.put, List.setIfInBounds_toArray, List.set_cons_zero, List.set_cons_succ]
  refine draw_take 16 37 (v := ?_) rfl rfl (by kernel_rfl) (by kernel_rfl) (by kernel_rfl) (fun _ _ _ h => h) (by kernel_rfl) ?hy hHeld ?_
  case hy => (intro w' hSw; (try dsimp only at hSw); skip; go_simp; try (with_reducible rfl))
  simp only [Act.put, List.setIfInBounds_toArray, List.set_cons_zero, List.set_cons_succ]
  refine wpAnyH_done (by kernel_rfl) ?_ _
  have HB := Lib.hid (bthen hb0.out hHeld)
  clear hHeld hb0 k0 k1
  go_wp2_with fail
  refine (haw.out _).mono ?_
  rintro e w9 ⟨rfl, hb9⟩
  have HB9 := Lib.hid (bthen HB.out hb9)
  clear hb9 haw
  go_wp2
  go_ret
  exact ⟨rfl, HB9.out⟩

set_option maxRecDepth 100000 in
set_option maxHeartbeats 3200000 in
theorem limit_asks (pw np n : Int) (w : World) (hv : confB pw np = true) (hn : 0 ≤ n) (hn2 : n ≤ 63) (ha : asksB pw np 3 n 0 = false) :
    Calls Try.prog 4 #[.agg #[.int .i64 pw, .int .i64 np], .int .i64 n] w fun e w' => e = .returned (.bool true) ∧ Below w.heap.size w w' := by
  have haw := Lib.hid awake_any
  have hrf := Lib.hid (fun w => refNew_any pw np w)
  rw [(newH_ok hv).1, (newH_ok hv).2] at hrf
  have hd1 : decide (n < 0) = false := decide_eq_false (by omega)
  have hd2 : decide (63 < n) = false := decide_eq_false (by omega)
  have hwo := Lib.hid (fun w => words_any n w)
  have has := Lib.hid (fun w => asks_any pw np 3 n 0 w (by decide) (by decide))
  rw [ha] at has
  have c0 : (w.alloc (.cells #[.int .i64 pw, .int .i64 np] 23)).cell? ⟨w.heap.size, 0, none⟩ = some (.int .i64 pw) := by simp
  have c1 : (w.alloc (.cells #[.int .i64 pw, .int .i64 np] 23)).cell? ⟨w.heap.size, 1, none⟩ = some (.int .i64 np) := by simp
  have hbx := Lib.hid (below_box (w := w) (o := .cells #[.int .i64 pw, .int .i64 np] 23))
  go_enter Try.func4, Try.ntmps4
  go_wp2_with fail
  refine (hrf.out _).mono ?_
  rintro e w1 ⟨⟨v, rfl, p, nn, c, q, m, d, rfl, hs, hr, -⟩, hb1⟩
  have hb0 := Lib.hid (bthen (bthen hbx.out hb1) (below_box (w := w1) (o := .cells #[.int .i64 pw, .int .i64 np, .slice p nn c, .slice q m d, .int .i64 0, .int .i64 (-1)] 32)))
  have k0 : (w1.alloc (.cells #[.int .i64 pw, .int .i64 np, .slice p nn c, .slice q m d, .int .i64 0, .int .i64 (-1)] 32)).cell? ⟨w.heap.size, 0, none⟩ = some (.int .i64 pw) := cell_keep below_box (cell_keep hb1 c0)
  have k1 : (w1.alloc (.cells #[.int .i64 pw, .int .i64 np, .slice p nn c, .slice q m d, .int .i64 0, .int .i64 (-1)] 32)).cell? ⟨w.heap.size, 1, none⟩ = some (.int .i64 np) := cell_keep below_box (cell_keep hb1 c1)
  clear hs hr hb1 hrf c0 c1
  go_wp2_with fail
  refine wp_region_held_drew (S := fun w' => Below (w1.alloc (.cells #[.int .i64 pw, .int .i64 np, .slice p nn c, .slice q m d, .int .i64 0, .int .i64 (-1)] 32)).heap.size (w1.alloc (.cells #[.int .i64 pw, .int .i64 np, .slice p nn c, .slice q m d, .int .i64 0, .int .i64 (-1)] 32)) w') (by kernel_rfl) ((Below.refl _ _).drew) (fun hHeld => ?_)
  refine draw_take 0 21 (v := ?_) rfl rfl (by kernel_rfl) (by kernel_rfl) (by kernel_rfl) (fun _ _ _ h => h) (by kernel_rfl) ?hy hHeld ?_
  case hy => (intro w' hSw; (try dsimp only at hSw); skip; go_simp; try (with_reducible rfl))
  simp only [Act.put, List.setIfInBounds_toArray, List.set_cons_zero, List.set_cons_succ]
  refine draw_take 1 22 (v := ?_) rfl rfl (by kernel_rfl) (by kernel_rfl) (by kernel_rfl) (fun _ _ _ h => h) (by kernel_rfl) ?hy hHeld ?_
  case hy => (intro w' hSw; (try dsimp only at hSw); skip; go_simp; try (with_reducible rfl))
  simp only [Act.put, List.setIfInBounds_toArray, List.set_cons_zero, List.set_cons_succ]
  refine draw_take 2 23 (v := ?_) rfl rfl (by kernel_rfl) (by kernel_rfl) (by kernel_rfl) (fun _ _ _ h => h) (by kernel_rfl) ?hy hHeld ?_
  case hy => (intro w' hSw; (try dsimp only at hSw); skip; go_simp; try (with_reducible rfl))
  simp only [Act.put, List.setIfInBounds_toArray, List.set_cons_zero, List.set_cons_succ]
  refine draw_take 3 24 (v := ?_) rfl rfl (by kernel_rfl) (by kernel_rfl) (by kernel_rfl) (fun _ _ _ h => h) (by kernel_rfl) ?hy hHeld ?_
  case hy => (intro w' hSw; (try dsimp only at hSw); skip; go_simp; try (with_reducible rfl))
  simp only [Act.put, List.setIfInBounds_toArray, List.set_cons_zero, List.set_cons_succ]
  refine draw_take 4 25 (v := ?_) rfl rfl (by kernel_rfl) (by kernel_rfl) (by kernel_rfl) (fun _ _ _ h => h) (by kernel_rfl) ?hy hHeld ?_
  case hy => (intro w' hSw; (try dsimp only at hSw); skip; go_simp; try (with_reducible rfl))
  simp only [Act.put, List.setIfInBounds_toArray, List.set_cons_zero, List.set_cons_succ]
  refine draw_take 5 26 (v := ?_) rfl rfl (by kernel_rfl) (by kernel_rfl) (by kernel_rfl) (fun _ _ _ h => h) (by kernel_rfl) ?hy hHeld ?_
  case hy => (intro w' hSw; (try dsimp only at hSw); skip; go_simp; try (with_reducible rfl))
  simp only [Act.put, List.setIfInBounds_toArray, List.set_cons_zero, List.set_cons_succ]
  refine draw_take 6 27 (v := ?_) rfl rfl (by kernel_rfl) (by kernel_rfl) (by kernel_rfl) (fun _ _ _ h => h) (by kernel_rfl) ?hy hHeld ?_
  case hy => (intro w' hSw; (try dsimp only at hSw); skip; go_simp; try (with_reducible rfl))
  simp only [Act.put, List.setIfInBounds_toArray, List.set_cons_zero, List.set_cons_succ]
  refine draw_take 7 28 (v := ?_) rfl rfl (by kernel_rfl) (by kernel_rfl) (by kernel_rfl) (fun _ _ _ h => h) (by kernel_rfl) ?hy hHeld ?_
  case hy => (intro w' hSw; (try dsimp only at hSw); skip; go_simp; try (with_reducible rfl))
  simp only [Act.put, List.setIfInBounds_toArray, List.set_cons_zero, List.set_cons_succ]
  refine draw_take 8 29 (v := ?_) rfl rfl (by kernel_rfl) (by kernel_rfl) (by kernel_rfl) (fun _ _ _ h => h) (by kernel_rfl) ?hy hHeld ?_
  case hy => (intro w' hSw; (try dsimp only at hSw); skip; go_simp; try (with_reducible rfl))
  simp only [Act.put, List.setIfInBounds_toArray, List.set_cons_zero, List.set_cons_succ]
  refine draw_take 9 30 (v := ?_) rfl rfl (by kernel_rfl) (by kernel_rfl) (by kernel_rfl) (fun _ _ _ h => h) (by kernel_rfl) ?hy hHeld ?_
  case hy => (intro w' hSw; (try dsimp only at hSw); skip; go_simp; try (with_reducible rfl))
  simp only [Act.put, List.setIfInBounds_toArray, List.set_cons_zero, List.set_cons_succ]
  refine draw_take 10 31 (v := ?_) rfl rfl (by kernel_rfl) (by kernel_rfl) (by kernel_rfl) (fun _ _ _ h => h) (by kernel_rfl) ?hy hHeld ?_
  case hy => (intro w' hSw; (try dsimp only at hSw); skip; go_simp; try (with_reducible rfl))
  simp only [Act.put, List.setIfInBounds_toArray, List.set_cons_zero, List.set_cons_succ]
  refine draw_take 11 32 (v := ?_) rfl rfl (by kernel_rfl) (by kernel_rfl) (by kernel_rfl) (fun _ _ _ h => h) (by kernel_rfl) ?hy hHeld ?_
  case hy => (intro w' hSw; (try dsimp only at hSw); have y0 := cell_keep hSw k0; have y1 := cell_keep hSw k1; go_simp; try (with_reducible rfl))
  simp only [Act.put, List.setIfInBounds_toArray, List.set_cons_zero, List.set_cons_succ]
  refine draw_take 12 33 (v := ?_) rfl rfl (by kernel_rfl) (by kernel_rfl) (by kernel_rfl) (fun _ _ _ h => h) (by kernel_rfl) ?hy hHeld ?_
  case hy => (intro w' hSw; (try dsimp only at hSw); skip; go_simp; try (with_reducible rfl))
  simp only [Act.put, List.setIfInBounds_toArray, List.set_cons_zero, List.set_cons_succ]
  refine wpAnyH_ready (rs := [13]) (by kernel_rfl) (by simp) ?_
  refine AllReadyH.cons rfl (fun K hK => ?_) AllReadyH.nil
  go_simp
  (go_at_call 9; refine (hwo.out _).mono ?_; rintro e w3 ⟨rfl, hbq⟩)
  go_wp2_with fail
  refine hK.out _ _ (bthen hHeld hbq) (fun hHeld => ?_)
  clear hK K
  try simp only [Act.put, List.setIfInBounds_toArray, List.set_cons_zero, List.set_cons_succ]
  refine wpAnyH_ready (rs := [14]) (by kernel_rfl) (by simp) ?_
  refine AllReadyH.cons rfl (fun K hK => ?_) AllReadyH.nil
  go_simp
  (go_at_call 6; refine (has.out _).mono ?_; rintro e w4 ⟨rfl, hbq⟩)
  go_wp2_with fail
  refine hK.out _ _ (bthen hHeld hbq) (fun hHeld => ?_)
  clear hK K
  try simp only [Act.put, List.setIfInBounds_toArray, List.set_cons_zero, List.set_cons_succ]
  refine draw_take 15 36 (v := ?_) rfl rfl (by kernel_rfl) (by kernel_rfl) (by kernel_rfl) (fun _ _ _ h => h) (by kernel_rfl) ?hy hHeld ?_
  case hy => (intro w' hSw; (try dsimp only at hSw); skip; go_simp; try (with_reducible rfl))
  simp only [Act.put, List.setIfInBounds_toArray, List.set_cons_zero, List.set_cons_succ]
  refine draw_take 16 37 (v := ?_) rfl rfl (by kernel_rfl) (by kernel_rfl) (by kernel_rfl) (fun _ _ _ h => h) (by kernel_rfl) ?hy hHeld ?_
  case hy => (intro w' hSw; (try dsimp only at hSw); skip; go_simp; try (with_reducible rfl))
  simp only [Act.put, List.setIfInBounds_toArray, List.set_cons_zero, List.set_cons_succ]
  refine wpAnyH_done (by kernel_rfl) ?_ _
  have HB := Lib.hid (bthen hb0.out hHeld)
  clear hHeld hb0 k0 k1
  go_wp2_with fail
  refine (haw.out _).mono ?_
  rintro e w9 ⟨rfl, hb9⟩
  have HB9 := Lib.hid (bthen HB.out hb9)
  clear hb9 haw
  go_wp2
  go_ret
  exact ⟨rfl, HB9.out⟩

end Go.Proofs.Ytbenklhbcgiacaa
