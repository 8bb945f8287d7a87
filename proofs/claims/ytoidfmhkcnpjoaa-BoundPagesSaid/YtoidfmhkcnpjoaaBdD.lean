/- Reference of layer 13: Sure; the law BoundPages. -/
import Derived.Test.YtoidfmhkcnpjoaaBdC
set_option linter.unusedSimpArgs false
set_option linter.unusedVariables false
namespace Go.Proofs.Ytoidfmhkcnpjoaa
open Go.RowKit

theorem refAsks_is {b : Bool} {pw np k n m : Int} (h : asksB pw np k n m = b) (w : World) (hm0 : 0 ≤ m) (hm : m < 4294967296) :
    Calls Try.prog 19 #[.agg #[.int .i64 pw, .int .i64 np], .agg #[.int .i64 k, .int .i64 n, .int .u32 m]] w fun e w' => e = .returned (.bool b) ∧ Below w.heap.size w w' := by
  subst h; exact refAsks_any pw np k n m w hm0 hm
set_option maxRecDepth 100000 in
set_option maxHeartbeats 3200000 in
theorem refSure_any (pw np : Int) (l : Lv) (k n m : Int) (w : World) (hm0 : 0 ≤ m) (hm : m < 4294967296) :
    Calls Try.prog 9 #[.agg #[.int .i64 pw, .int .i64 np], .agg #[.int .i64 l.o, .int .i64 l.wd, .int .i64 l.s, .int .i64 l.la, .int .i64 l.pi], .agg #[.int .i64 k, .int .i64 n, .int .u32 m]] w fun e w' => e = .returned (.bool (sureB pw np l k n m)) ∧ Below w.heap.size w w' := by
  have hbx : Below w.heap.size w ((((w.alloc (.cells #[.int .i64 pw, .int .i64 np] 23)).alloc (.cells #[.int .i64 l.o, .int .i64 l.wd, .int .i64 l.s, .int .i64 l.la, .int .i64 l.pi] 25))).alloc (.cells #[.int .i64 k, .int .i64 n, .int .u32 m] 28)) := bthen (bthen below_box below_box) below_box
  have hpg := Lib.hid (fun w => refPages_any pw np l w)
  have hsz := Lib.hid (fun w => refSize_any k n m w hm0 hm)
  have hnd := Lib.hid (fun w => refNeed_any pw np (sizeV k n m) w)
  have hlm := Lib.hid (fun w => refLimit_any pw np w)
  have hsv : sureB pw np l k n m = (asksB pw np k n m && (liveB l && roomB np (limitV pw np) (pagesV pw np l) (needV pw np (sizeV k n m)))) := rfl
  cases hU : (confB pw np && liveB l)
  · have hu := Lib.hid (fun w => usual_is hU w)
    have hf : sureB pw np l k n m = false := by
      rw [hsv]
      cases hA : asksB pw np k n m
      · rfl
      · rw [asks_conf hA, Bool.true_and] at hU
        rw [hU]; rfl
    rw [hf]
    clear hU hf hsv hpg hsz hnd hlm
    go_enter Try.func9, Try.ntmps9
    go_wp2_with fail
    refine (hu.out _).mono ?_
    rintro e w1 ⟨rfl, hb1⟩
    have hB := bthen hbx hb1
    go_wp2
    go_ret
    exact ⟨rfl, hB⟩
  · have hu := Lib.hid (fun w => usual_is hU w)
    rw [Bool.and_eq_true] at hU
    obtain ⟨hv, hl⟩ := hU
    cases hA : asksB pw np k n m
    · have has := Lib.hid (fun w => refAsks_is hA w hm0 hm)
      have hf : sureB pw np l k n m = false := by rw [hsv, hA]; rfl
      rw [hf]
      clear hA hf hsv hpg hsz hnd hlm hv hl
      go_enter Try.func9, Try.ntmps9
      go_wp2_with fail
      refine (hu.out _).mono ?_
      rintro e w1 ⟨rfl, hb1⟩
      obtain ⟨c0, c1, c2, c3, c4, c5, c6, c7, c8, c9, hB⟩ := box253 hb1
      clear hb1
      go_wp2_with fail
      refine (has.out _).mono ?_
      rintro e w2 ⟨rfl, hb2⟩
      have hB2 := bthen hB hb2
      go_wp2
      go_ret
      exact ⟨rfl, hB2⟩
    · have has := Lib.hid (fun w => refAsks_is hA w hm0 hm)
      have hP := pages_bound pw np l
      have hZ := need_range pw np (sizeV k n m)
      have hZ1 : ¬ needV pw np (sizeV k n m) = -1 := by
        intro h
        unfold asksB at hA
        simp [h] at hA
      obtain ⟨-, -, -, n1, n2⟩ := conf_parts hv
      rw [hsv, hA, hl, Bool.true_and, Bool.true_and]
      have hrs := room_small (p := pagesV pw np l) hv hP.1
      clear hsv hA hl
      generalize pagesV pw np l = P at hpg hP hrs ⊢
      generalize needV pw np (sizeV k n m) = Z at hnd hZ hZ1 ⊢
      generalize limitV pw np = L at hlm hrs ⊢
      clear hv
      have q1 : IntKind.i64.wrap (P + Z) = P + Z := IntWalk.i64_in _ (by omega)
      have q2 : IntKind.i64.wrap (np - P) = np - P := IntWalk.i64_in _ (by omega)
      have q3 : IntKind.i64.wrap (P + 1) = P + 1 := IntWalk.i64_in _ (by omega)
      obtain ⟨R, hR⟩ : ∃ R : Bool, Hid (roomB np L P Z = R) := ⟨_, Lib.hid rfl⟩
      rw [hR.out]
      have hrs := Lib.hid hrs
      go_enter Try.func9, Try.ntmps9
      go_wp2_with fail
      refine (hu.out _).mono ?_
      rintro e w1 ⟨rfl, hb1⟩
      have hS := Lib.hid (box253 hb1)
      obtain ⟨c0, c1, c2, c3, c4, c5, c6, c7, c8, c9, -⟩ := box253 hb1
      clear hb1
      go_wp2_with fail
      refine (has.out _).mono ?_
      rintro e w2 ⟨rfl, hb2⟩
      have hS := keep253 hS.out hb2
      clear hb2 c0 c1 c2 c3 c4 c5 c6 c7 c8 c9
      obtain ⟨c0, c1, c2, c3, c4, c5, c6, c7, c8, c9, hB⟩ := hS
      go_wp2_with fail
      refine wp_region_held_drew (S := fun w' => w'.cell? ⟨w.heap.size, 0, none⟩ = some (.int .i64 pw) ∧ w'.cell? ⟨w.heap.size, 1, none⟩ = some (.int .i64 np) ∧ w'.cell? ⟨w.heap.size + 1, 0, none⟩ = some (.int .i64 l.o) ∧ w'.cell? ⟨w.heap.size + 1, 1, none⟩ = some (.int .i64 l.wd) ∧ w'.cell? ⟨w.heap.size + 1, 2, none⟩ = some (.int .i64 l.s) ∧ w'.cell? ⟨w.heap.size + 1, 3, none⟩ = some (.int .i64 l.la) ∧ w'.cell? ⟨w.heap.size + 1, 4, none⟩ = some (.int .i64 l.pi) ∧ w'.cell? ⟨w.heap.size + 2, 0, none⟩ = some (.int .i64 k) ∧ w'.cell? ⟨w.heap.size + 2, 1, none⟩ = some (.int .i64 n) ∧ w'.cell? ⟨w.heap.size + 2, 2, none⟩ = some (.int .u32 m) ∧ Below w.heap.size w w') (by kernel_rfl) ⟨c0, c1, c2, c3, c4, c5, c6, c7, c8, c9, hB.drew⟩ (fun hHeld => ?_)
      refine draw_take 0 19 (v := ?_) rfl rfl (by kernel_rfl) (by kernel_rfl) (by kernel_rfl) (fun _ _ _ h => h) (by kernel_rfl) ?hy hHeld ?_
      case hy => (intro w hSw; (try dsimp only at hSw); go_simp; try (with_reducible rfl))
      simp only [Act.put, List.setIfInBounds_toArray, List.set_cons_zero, List.set_cons_succ]
      refine draw_take 1 20 (v := ?_) rfl rfl (by kernel_rfl) (by kernel_rfl) (by kernel_rfl) (fun _ _ _ h => h) (by kernel_rfl) ?hy hHeld ?_
      case hy => (intro w hSw; (try dsimp only at hSw); go_simp; try (with_reducible rfl))
      simp only [Act.put, List.setIfInBounds_toArray, List.set_cons_zero, List.set_cons_succ]
      refine draw_take 3 22 (v := ?_) rfl rfl (by kernel_rfl) (by kernel_rfl) (by kernel_rfl) (fun _ _ _ h => h) (by kernel_rfl) ?hy hHeld ?_
      case hy => (intro w hSw; (try dsimp only at hSw); go_simp; try (with_reducible rfl))
      simp only [Act.put, List.setIfInBounds_toArray, List.set_cons_zero, List.set_cons_succ]
      refine draw_take 4 23 (v := ?_) rfl rfl (by kernel_rfl) (by kernel_rfl) (by kernel_rfl) (fun _ _ _ h => h) (by kernel_rfl) ?hy hHeld ?_
      case hy => (intro w hSw; (try dsimp only at hSw); go_simp; try (with_reducible rfl))
      simp only [Act.put, List.setIfInBounds_toArray, List.set_cons_zero, List.set_cons_succ]
      refine wpAnyH_ready (rs := [2]) (by kernel_rfl) (by simp) ?_
      refine AllReadyH.cons rfl (fun K hK => ?_) AllReadyH.nil
      go_simp
      (go_at_call 7; refine (hpg.out _).mono ?_; rintro e w4 ⟨rfl, hbq⟩)
      go_wp2_with fail
      refine hK.out _ _ (keep253 hHeld hbq) (fun hHeld => ?_)
      clear hK K
      try simp only [Act.put, List.setIfInBounds_toArray, List.set_cons_zero, List.set_cons_succ]
      refine wpAnyH_ready (rs := [5]) (by kernel_rfl) (by simp) ?_
      refine AllReadyH.cons rfl (fun K hK => ?_) AllReadyH.nil
      go_simp
      (go_at_call 21; refine (hsz.out _).mono ?_; rintro e w5 ⟨rfl, hbq⟩)
      go_wp2_with fail
      refine hK.out _ _ (keep253 hHeld hbq) (fun hHeld => ?_)
      clear hK K
      try simp only [Act.put, List.setIfInBounds_toArray, List.set_cons_zero, List.set_cons_succ]
      refine wpAnyH_ready (rs := [6]) (by kernel_rfl) (by simp) ?_
      refine AllReadyH.cons rfl (fun K hK => ?_) AllReadyH.nil
      go_simp
      (go_at_call 20; refine (hnd.out _).mono ?_; rintro e w6 ⟨rfl, hbq⟩)
      go_wp2_with fail
      refine hK.out _ _ (keep253 hHeld hbq) (fun hHeld => ?_)
      clear hK K
      try simp only [Act.put, List.setIfInBounds_toArray, List.set_cons_zero, List.set_cons_succ]
      refine draw_take 7 7 (v := ?_) rfl rfl (by kernel_rfl) (by kernel_rfl) (by kernel_rfl) (fun _ _ _ h => h) (by kernel_rfl) ?hy hHeld ?_
      case hy => (intro w hSw; (try dsimp only at hSw); go_simp; try (with_reducible rfl))
      simp only [Act.put, List.setIfInBounds_toArray, List.set_cons_zero, List.set_cons_succ]
      refine draw_take 8 8 (v := ?_) rfl rfl (by kernel_rfl) (by kernel_rfl) (by kernel_rfl) (fun _ _ _ h => h) (by kernel_rfl) ?hy hHeld ?_
      case hy => (intro w hSw; (try dsimp only at hSw); go_simp; try (with_reducible rfl))
      simp only [Act.put, List.setIfInBounds_toArray, List.set_cons_zero, List.set_cons_succ]
      refine wpAnyH_done (by kernel_rfl) ?_ _
      clear c0 c1 c2 c3 c4 c5 c6 c7 c8 c9 hB hbq
      obtain ⟨c0, c1, c2, c3, c4, c5, c6, c7, c8, c9, hB⟩ := hHeld
      by_cases z0 : Z = 0
      · subst z0
        have hR := Lib.hid (hrs.out.symm.trans hR.out)
        clear hrs c2 c3 c4 c5 c6 c7 c8 c9 hZ hZ1 hP n1 n2
        go_wp2_with fail
        refine (hlm.out _).mono ?_
        rintro e w7 ⟨rfl, hb7⟩
        have hB7 := bthen hB hb7
        go_wp2
        go_ret
        exact ⟨ret_bool hR.out, hB7⟩
      · have z1 : 1 ≤ Z := by omega
        have hR := Lib.hid ((room_large (np := np) (lim := L) (p := P) z1).symm.trans hR.out)
        have q4 : IntKind.i64.wrap (Z - 1) = Z - 1 := IntWalk.i64_in _ (by omega)
        have hM := room_prod hP.1 hP.2 z1 hZ.2
        obtain ⟨M, hMe⟩ : ∃ M, (P + 1) * (Z - 1) = M := ⟨_, rfl⟩
        rw [hMe] at hM
        have hR := Lib.hid (show decide (P + Z ≤ L ∧ M < np - P) = R from by rw [← hMe]; exact hR.out)
        have q5 : IntKind.i64.wrap M = M := IntWalk.i64_in _ (by omega)
        clear hrs c2 c3 c4 c5 c6 c7 c8 c9 hZ hZ1 hP n1 n2 hM z1
        go_wp2_with fail
        refine (hlm.out _).mono ?_
        rintro e w7 ⟨rfl, hb7⟩
        have x1 := cell_keep hb7 c1
        have hB7 := bthen hB hb7
        clear c0 c1 hB hb7
        by_cases g1 : P + Z ≤ L
        · by_cases g2 : M < np - P
          · go_wp2
            go_ret
            exact ⟨by rw [← hR.out]; simp [g1, g2], hB7⟩
          · go_wp2
            go_ret
            exact ⟨by rw [← hR.out]; simp [g1, g2], hB7⟩
        · go_wp2
          go_ret
          exact ⟨ret_bool (by rw [← hR.out]; exact (decide_eq_false fun h => absurd h.1 (by omega)).symm), hB7⟩

set_option maxRecDepth 100000 in
set_option maxHeartbeats 3200000 in
theorem awakeBd (w : World) : Calls Try.prog 4 #[] w fun e w' => e = .returned (.bool true) ∧ Below w.heap.size w w' := by
  have hpg := Lib.hid (fun w => pages_any 16 8 ⟨0, 0, 13, 0, 0⟩ w)
  have hsu := Lib.hid (fun w => sure_any 16 8 ⟨0, 0, 0, 0, 0⟩ 3 3 0 w (by omega) (by omega))
  have e1 : pagesV 16 8 ⟨0, 0, 13, 0, 0⟩ = 2 := by kernel_rfl
  have e2 : sureB 16 8 ⟨0, 0, 0, 0, 0⟩ 3 3 0 = true := by kernel_rfl
  rw [e1] at hpg
  rw [e2] at hsu
  clear e1 e2
  go_enter Try.func4, Try.ntmps4
  go_wp2_with fail
  refine (hpg.out _).mono ?_
  rintro e w1 ⟨rfl, hb1⟩
  have c0 := box_cell hb1 0 rfl
  have c1 := box_cell hb1 1 rfl
  have hB := bthen (below_box (w := w)) hb1
  go_wp2_with fail
  refine (hsu.out _).mono ?_
  rintro e w2 ⟨rfl, hb2⟩
  have hB2 := bthen hB hb2
  go_wp2
  go_ret
  exact ⟨rfl, hB2⟩

set_option maxRecDepth 100000 in
set_option maxHeartbeats 3200000 in
theorem lawPages (pw np : Int) (l : Lv) (k n m : Int) (w : World) (hm0 : 0 ≤ m) (hm : m < 4294967296) :
    Calls Try.prog 3 #[.agg #[.int .i64 pw, .int .i64 np], .agg #[.int .i64 l.o, .int .i64 l.wd, .int .i64 l.s, .int .i64 l.la, .int .i64 l.pi], .agg #[.int .i64 k, .int .i64 n, .int .u32 m]] w fun e w' => e = .returned (.bool true) ∧ Below w.heap.size w w' := by
  have haw := Lib.hid awakeBd
  have hgv := Lib.hid (fun w => given_any l w)
  have hp1 := Lib.hid (fun w => pages_any pw np l w)
  have hp2 := Lib.hid (fun w => refPages_any pw np l w)
  have hs1 := Lib.hid (fun w => sure_any pw np l k n m w hm0 hm)
  have hs2 := Lib.hid (fun w => refSure_any pw np l k n m w hm0 hm)
  generalize pagesV pw np l = P at hp1 hp2
  generalize sureB pw np l k n m = A at hs1 hs2
  have hSof := Lib.hid (box253 (pw := pw) (np := np) (k := k) (n := n) (m := m) (l := l) (T := 23) (U := 25) (V := 28) (w := w) (Below.refl _ _))
  go_enter Try.func3, Try.ntmps3
  obtain ⟨c0, c1, c2, c3, c4, c5, c6, c7, c8, c9, hB⟩ := hSof.out
  go_wp2_with fail
  refine wp_region_held_drew (S := fun w' => w'.cell? ⟨w.heap.size, 0, none⟩ = some (.int .i64 pw) ∧ w'.cell? ⟨w.heap.size, 1, none⟩ = some (.int .i64 np) ∧ w'.cell? ⟨w.heap.size + 1, 0, none⟩ = some (.int .i64 l.o) ∧ w'.cell? ⟨w.heap.size + 1, 1, none⟩ = some (.int .i64 l.wd) ∧ w'.cell? ⟨w.heap.size + 1, 2, none⟩ = some (.int .i64 l.s) ∧ w'.cell? ⟨w.heap.size + 1, 3, none⟩ = some (.int .i64 l.la) ∧ w'.cell? ⟨w.heap.size + 1, 4, none⟩ = some (.int .i64 l.pi) ∧ w'.cell? ⟨w.heap.size + 2, 0, none⟩ = some (.int .i64 k) ∧ w'.cell? ⟨w.heap.size + 2, 1, none⟩ = some (.int .i64 n) ∧ w'.cell? ⟨w.heap.size + 2, 2, none⟩ = some (.int .u32 m) ∧ Below w.heap.size w w') (by kernel_rfl) ⟨c0, c1, c2, c3, c4, c5, c6, c7, c8, c9, hB.drew⟩ (fun hHeld => ?_)
  refine wpAnyH_ready (rs := [0]) (by kernel_rfl) (by simp) ?_
  refine AllReadyH.cons rfl (fun K hK => ?_) AllReadyH.nil
  go_simp
  (go_at_call 4; refine (haw.out _).mono ?_; rintro e w1 ⟨rfl, hbq⟩)
  go_wp2_with fail
  refine hK.out _ _ (keep253 hHeld hbq) (fun hHeld => ?_)
  clear hK K
  try simp only [Act.put, List.setIfInBounds_toArray, List.set_cons_zero, List.set_cons_succ]
  refine draw_take 1 8 (v := ?_) rfl rfl (by kernel_rfl) (by kernel_rfl) (by kernel_rfl) (fun _ _ _ h => h) (by kernel_rfl) ?hy hHeld ?_
  case hy => (intro w hSw; (try dsimp only at hSw); go_simp; try (with_reducible rfl))
  simp only [Act.put, List.setIfInBounds_toArray, List.set_cons_zero, List.set_cons_succ]
  refine draw_take 2 9 (v := ?_) rfl rfl (by kernel_rfl) (by kernel_rfl) (by kernel_rfl) (fun _ _ _ h => h) (by kernel_rfl) ?hy hHeld ?_
  case hy => (intro w hSw; (try dsimp only at hSw); go_simp; try (with_reducible rfl))
  simp only [Act.put, List.setIfInBounds_toArray, List.set_cons_zero, List.set_cons_succ]
  refine draw_take 3 10 (v := ?_) rfl rfl (by kernel_rfl) (by kernel_rfl) (by kernel_rfl) (fun _ _ _ h => h) (by kernel_rfl) ?hy hHeld ?_
  case hy => (intro w hSw; (try dsimp only at hSw); go_simp; try (with_reducible rfl))
  simp only [Act.put, List.setIfInBounds_toArray, List.set_cons_zero, List.set_cons_succ]
  refine draw_take 6 13 (v := ?_) rfl rfl (by kernel_rfl) (by kernel_rfl) (by kernel_rfl) (fun _ _ _ h => h) (by kernel_rfl) ?hy hHeld ?_
  case hy => (intro w hSw; (try dsimp only at hSw); go_simp; try (with_reducible rfl))
  simp only [Act.put, List.setIfInBounds_toArray, List.set_cons_zero, List.set_cons_succ]
  refine draw_take 7 14 (v := ?_) rfl rfl (by kernel_rfl) (by kernel_rfl) (by kernel_rfl) (fun _ _ _ h => h) (by kernel_rfl) ?hy hHeld ?_
  case hy => (intro w hSw; (try dsimp only at hSw); go_simp; try (with_reducible rfl))
  simp only [Act.put, List.setIfInBounds_toArray, List.set_cons_zero, List.set_cons_succ]
  refine wpAnyH_ready (rs := [4]) (by kernel_rfl) (by simp) ?_
  refine AllReadyH.cons rfl (fun K hK => ?_) AllReadyH.nil
  go_simp
  (go_at_call 6; refine (hgv.out _).mono ?_; rintro e w2 ⟨rfl, hbq⟩)
  go_wp2_with fail
  refine hK.out _ _ (keep253 hHeld hbq) (fun hHeld => ?_)
  clear hK K
  try simp only [Act.put, List.setIfInBounds_toArray, List.set_cons_zero, List.set_cons_succ]
  refine wpAnyH_ready (rs := [5]) (by kernel_rfl) (by simp) ?_
  refine AllReadyH.cons rfl (fun K hK => ?_) AllReadyH.nil
  go_simp
  (go_at_call 5; refine (hp1.out _).mono ?_; rintro e w3 ⟨rfl, hbq⟩)
  go_wp2_with fail
  refine hK.out _ _ (keep253 hHeld hbq) (fun hHeld => ?_)
  clear hK K
  try simp only [Act.put, List.setIfInBounds_toArray, List.set_cons_zero, List.set_cons_succ]
  refine wpAnyH_ready (rs := [8]) (by kernel_rfl) (by simp) ?_
  refine AllReadyH.cons rfl (fun K hK => ?_) AllReadyH.nil
  go_simp
  (go_at_call 7; refine (hp2.out _).mono ?_; rintro e w4 ⟨rfl, hbq⟩)
  go_wp2_with fail
  refine hK.out _ _ (keep253 hHeld hbq) (fun hHeld => ?_)
  clear hK K
  try simp only [Act.put, List.setIfInBounds_toArray, List.set_cons_zero, List.set_cons_succ]
  refine draw_take 9 16 (v := ?_) rfl rfl (by kernel_rfl) (by kernel_rfl) (by kernel_rfl) (fun _ _ _ h => h) (by kernel_rfl) ?hy hHeld ?_
  case hy => (intro w hSw; (try dsimp only at hSw); go_simp; try (with_reducible rfl))
  simp only [Act.put, List.setIfInBounds_toArray, List.set_cons_zero, List.set_cons_succ]
  refine draw_take 10 17 (v := ?_) rfl rfl (by kernel_rfl) (by kernel_rfl) (by kernel_rfl) (fun _ _ _ h => h) (by kernel_rfl) ?hy hHeld ?_
  case hy => (intro w hSw; (try dsimp only at hSw); go_simp; try (with_reducible rfl))
  simp only [Act.put, List.setIfInBounds_toArray, List.set_cons_zero, List.set_cons_succ]
  refine draw_take 11 18 (v := ?_) rfl rfl (by kernel_rfl) (by kernel_rfl) (by kernel_rfl) (fun _ _ _ h => h) (by kernel_rfl) ?hy hHeld ?_
  case hy => (intro w hSw; (try dsimp only at hSw); go_simp; try (with_reducible rfl))
  simp only [Act.put, List.setIfInBounds_toArray, List.set_cons_zero, List.set_cons_succ]
  refine draw_take 12 19 (v := ?_) rfl rfl (by kernel_rfl) (by kernel_rfl) (by kernel_rfl) (fun _ _ _ h => h) (by kernel_rfl) ?hy hHeld ?_
  case hy => (intro w hSw; (try dsimp only at hSw); go_simp; try (with_reducible rfl))
  simp only [Act.put, List.setIfInBounds_toArray, List.set_cons_zero, List.set_cons_succ]
  refine draw_take 13 20 (v := ?_) rfl rfl (by kernel_rfl) (by kernel_rfl) (by kernel_rfl) (fun _ _ _ h => h) (by kernel_rfl) ?hy hHeld ?_
  case hy => (intro w hSw; (try dsimp only at hSw); go_simp; try (with_reducible rfl))
  simp only [Act.put, List.setIfInBounds_toArray, List.set_cons_zero, List.set_cons_succ]
  refine draw_take 15 22 (v := ?_) rfl rfl (by kernel_rfl) (by kernel_rfl) (by kernel_rfl) (fun _ _ _ h => h) (by kernel_rfl) ?hy hHeld ?_
  case hy => (intro w hSw; (try dsimp only at hSw); go_simp; try (with_reducible rfl))
  simp only [Act.put, List.setIfInBounds_toArray, List.set_cons_zero, List.set_cons_succ]
  refine draw_take 17 24 (v := ?_) rfl rfl (by kernel_rfl) (by kernel_rfl) (by kernel_rfl) (fun _ _ _ h => h) (by kernel_rfl) ?hy hHeld ?_
  case hy => (intro w hSw; (try dsimp only at hSw); go_simp; try (with_reducible rfl))
  simp only [Act.put, List.setIfInBounds_toArray, List.set_cons_zero, List.set_cons_succ]
  refine draw_take 18 25 (v := ?_) rfl rfl (by kernel_rfl) (by kernel_rfl) (by kernel_rfl) (fun _ _ _ h => h) (by kernel_rfl) ?hy hHeld ?_
  case hy => (intro w hSw; (try dsimp only at hSw); go_simp; try (with_reducible rfl))
  simp only [Act.put, List.setIfInBounds_toArray, List.set_cons_zero, List.set_cons_succ]
  refine draw_take 19 26 (v := ?_) rfl rfl (by kernel_rfl) (by kernel_rfl) (by kernel_rfl) (fun _ _ _ h => h) (by kernel_rfl) ?hy hHeld ?_
  case hy => (intro w hSw; (try dsimp only at hSw); go_simp; try (with_reducible rfl))
  simp only [Act.put, List.setIfInBounds_toArray, List.set_cons_zero, List.set_cons_succ]
  refine wpAnyH_ready (rs := [14]) (by kernel_rfl) (by simp) ?_
  refine AllReadyH.cons rfl (fun K hK => ?_) AllReadyH.nil
  go_simp
  (go_at_call 6; refine (hgv.out _).mono ?_; rintro e w5 ⟨rfl, hbq⟩)
  go_wp2_with fail
  refine hK.out _ _ (keep253 hHeld hbq) (fun hHeld => ?_)
  clear hK K
  try simp only [Act.put, List.setIfInBounds_toArray, List.set_cons_zero, List.set_cons_succ]
  refine wpAnyH_ready (rs := [16]) (by kernel_rfl) (by simp) ?_
  refine AllReadyH.cons rfl (fun K hK => ?_) AllReadyH.nil
  go_simp
  (go_at_call 8; refine (hs1.out _).mono ?_; rintro e w6 ⟨rfl, hbq⟩)
  go_wp2_with fail
  refine hK.out _ _ (keep253 hHeld hbq) (fun hHeld => ?_)
  clear hK K
  try simp only [Act.put, List.setIfInBounds_toArray, List.set_cons_zero, List.set_cons_succ]
  refine wpAnyH_ready (rs := [20]) (by kernel_rfl) (by simp) ?_
  refine AllReadyH.cons rfl (fun K hK => ?_) AllReadyH.nil
  go_simp
  (go_at_call 9; refine (hs2.out _).mono ?_; rintro e w7 ⟨rfl, hbq⟩)
  go_wp2_with fail
  refine hK.out _ _ (keep253 hHeld hbq) (fun hHeld => ?_)
  clear hK K
  try simp only [Act.put, List.setIfInBounds_toArray, List.set_cons_zero, List.set_cons_succ]
  refine draw_take 21 28 (v := ?_) rfl rfl (by kernel_rfl) (by kernel_rfl) (by kernel_rfl) (fun _ _ _ h => h) (by kernel_rfl) ?hy hHeld ?_
  case hy => (intro w hSw; (try dsimp only at hSw); go_simp; try (with_reducible rfl))
  simp only [Act.put, List.setIfInBounds_toArray, List.set_cons_zero, List.set_cons_succ]
  refine draw_take 22 29 (v := ?_) rfl rfl (by kernel_rfl) (by kernel_rfl) (by kernel_rfl) (fun _ _ _ h => h) (by kernel_rfl) ?hy hHeld ?_
  case hy => (intro w hSw; (try dsimp only at hSw); go_simp; try (with_reducible rfl))
  simp only [Act.put, List.setIfInBounds_toArray, List.set_cons_zero, List.set_cons_succ]
  refine draw_take 23 6 (v := ?_) rfl rfl (by kernel_rfl) (by kernel_rfl) (by kernel_rfl) (fun _ _ _ h => h) (by kernel_rfl) ?hy hHeld ?_
  case hy => (intro w hSw; (try dsimp only at hSw); go_simp; try (with_reducible rfl))
  simp only [Act.put, List.setIfInBounds_toArray, List.set_cons_zero, List.set_cons_succ]
  refine wpAnyH_done (by kernel_rfl) ?_ _
  have hB := hHeld.2.2.2.2.2.2.2.2.2.2
  clear hHeld c0 c1 c2 c3 c4 c5 c6 c7 c8 c9
  go_wp2
  go_ret
  exact ⟨by first | rfl | (cases A <;> rfl) | simp, hB⟩
end Go.Proofs.Ytoidfmhkcnpjoaa
