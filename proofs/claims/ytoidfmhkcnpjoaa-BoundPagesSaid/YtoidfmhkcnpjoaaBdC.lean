/- Contracts of package bound: Pages, Sure; reference of layer 13: Sure. -/
import Derived.Test.YtoidfmhkcnpjoaaBdA
import Derived.Test.YtoidfmhkcnpjoaaBdB
import Derived.Test.YtoidfmhkcnpjoaaAlcA
import Derived.Test.YtoidfmhkcnpjoaaAlcR
import Derived.Lib.MinMax
set_option linter.unusedSimpArgs false
set_option linter.unusedVariables false
namespace Go.Proofs.Ytoidfmhkcnpjoaa
open Go.RowKit

theorem cnt_is {b : Bool} {l : Lv} (h : liveB l = b) (w : World) :
    Calls Try.prog 12 #[.agg #[.int .i64 l.o, .int .i64 l.wd, .int .i64 l.s, .int .i64 l.la, .int .i64 l.pi]] w fun e w' => e = .returned (.bool b) ∧ Below w.heap.size w w' := by
  subst h; exact inRange_any l w
/-- What is in the boxes of a configuration, a Live and a header behind calls. -/
theorem box253 {w w1 : World} {pw np k n m : Int} {l : Lv} {T U V : TypeId} (hb : Below (((w.alloc (.cells #[.int .i64 pw, .int .i64 np] T)).alloc (.cells #[.int .i64 l.o, .int .i64 l.wd, .int .i64 l.s, .int .i64 l.la, .int .i64 l.pi] U)).alloc (.cells #[.int .i64 k, .int .i64 n, .int .u32 m] V)).heap.size (((w.alloc (.cells #[.int .i64 pw, .int .i64 np] T)).alloc (.cells #[.int .i64 l.o, .int .i64 l.wd, .int .i64 l.s, .int .i64 l.la, .int .i64 l.pi] U)).alloc (.cells #[.int .i64 k, .int .i64 n, .int .u32 m] V)) w1) :
    (fun w' => w'.cell? ⟨w.heap.size, 0, none⟩ = some (.int .i64 pw) ∧ w'.cell? ⟨w.heap.size, 1, none⟩ = some (.int .i64 np) ∧ w'.cell? ⟨w.heap.size + 1, 0, none⟩ = some (.int .i64 l.o) ∧ w'.cell? ⟨w.heap.size + 1, 1, none⟩ = some (.int .i64 l.wd) ∧ w'.cell? ⟨w.heap.size + 1, 2, none⟩ = some (.int .i64 l.s) ∧ w'.cell? ⟨w.heap.size + 1, 3, none⟩ = some (.int .i64 l.la) ∧ w'.cell? ⟨w.heap.size + 1, 4, none⟩ = some (.int .i64 l.pi) ∧ w'.cell? ⟨w.heap.size + 2, 0, none⟩ = some (.int .i64 k) ∧ w'.cell? ⟨w.heap.size + 2, 1, none⟩ = some (.int .i64 n) ∧ w'.cell? ⟨w.heap.size + 2, 2, none⟩ = some (.int .u32 m) ∧ Below w.heap.size w w') w1 := by
  have h2 := OwnL.new ((w.alloc (.cells #[.int .i64 pw, .int .i64 np] T)).alloc (.cells #[.int .i64 l.o, .int .i64 l.wd, .int .i64 l.s, .int .i64 l.la, .int .i64 l.pi] U)) [.int .i64 k, .int .i64 n, .int .u32 m] V
  have k2 := h2.keep hb (by simp)
  simp only [World.size_alloc] at k2
  obtain ⟨c0, c1, c2, c3, c4, c5, c6⟩ := box25 (bthen (a := ((w.alloc (.cells #[.int .i64 pw, .int .i64 np] T)).alloc (.cells #[.int .i64 l.o, .int .i64 l.wd, .int .i64 l.s, .int .i64 l.la, .int .i64 l.pi] U))) below_box hb)
  exact ⟨c0, c1, c2, c3, c4, c5, c6, k2.cell 0 _ rfl, k2.cell 1 _ rfl, k2.cell 2 _ rfl, bthen (bthen (bthen below_box below_box) below_box) hb⟩
theorem keep25 {w0 w w' : World} {a0 a1 a2 a3 a4 a5 a6 : Addr} {v0 v1 v2 v3 v4 v5 v6 : Value} (h : w.cell? a0 = some v0 ∧ w.cell? a1 = some v1 ∧ w.cell? a2 = some v2 ∧ w.cell? a3 = some v3 ∧ w.cell? a4 = some v4 ∧ w.cell? a5 = some v5 ∧ w.cell? a6 = some v6 ∧ Below w0.heap.size w0 w) (hb : Below w.heap.size w w') :
    w'.cell? a0 = some v0 ∧ w'.cell? a1 = some v1 ∧ w'.cell? a2 = some v2 ∧ w'.cell? a3 = some v3 ∧ w'.cell? a4 = some v4 ∧ w'.cell? a5 = some v5 ∧ w'.cell? a6 = some v6 ∧ Below w0.heap.size w0 w' := by
  obtain ⟨c0, c1, c2, c3, c4, c5, c6, h⟩ := h
  exact ⟨cell_keep hb c0, cell_keep hb c1, cell_keep hb c2, cell_keep hb c3, cell_keep hb c4, cell_keep hb c5, cell_keep hb c6, bthen h hb⟩
theorem keep253 {w0 w w' : World} {a0 a1 a2 a3 a4 a5 a6 a7 a8 a9 : Addr} {v0 v1 v2 v3 v4 v5 v6 v7 v8 v9 : Value} (h : w.cell? a0 = some v0 ∧ w.cell? a1 = some v1 ∧ w.cell? a2 = some v2 ∧ w.cell? a3 = some v3 ∧ w.cell? a4 = some v4 ∧ w.cell? a5 = some v5 ∧ w.cell? a6 = some v6 ∧ w.cell? a7 = some v7 ∧ w.cell? a8 = some v8 ∧ w.cell? a9 = some v9 ∧ Below w0.heap.size w0 w) (hb : Below w.heap.size w w') :
    w'.cell? a0 = some v0 ∧ w'.cell? a1 = some v1 ∧ w'.cell? a2 = some v2 ∧ w'.cell? a3 = some v3 ∧ w'.cell? a4 = some v4 ∧ w'.cell? a5 = some v5 ∧ w'.cell? a6 = some v6 ∧ w'.cell? a7 = some v7 ∧ w'.cell? a8 = some v8 ∧ w'.cell? a9 = some v9 ∧ Below w0.heap.size w0 w' := by
  obtain ⟨c0, c1, c2, c3, c4, c5, c6, c7, c8, c9, h⟩ := h
  exact ⟨cell_keep hb c0, cell_keep hb c1, cell_keep hb c2, cell_keep hb c3, cell_keep hb c4, cell_keep hb c5, cell_keep hb c6, cell_keep hb c7, cell_keep hb c8, cell_keep hb c9, bthen h hb⟩
theorem room_prod {p k : Int} (h0 : 0 ≤ p) (h1 : p ≤ 12884902074) (h2 : 1 ≤ k) (h3 : k ≤ 4) : 0 ≤ (p + 1) * (k - 1) ∧ (p + 1) * (k - 1) ≤ 38654706225 := by
  obtain rfl | rfl | rfl | rfl : k = 1 ∨ k = 2 ∨ k = 3 ∨ k = 4 := by omega
  all_goals omega

set_option maxRecDepth 100000 in
set_option maxHeartbeats 3200000 in
theorem pages_any (pw np : Int) (l : Lv) (w : World) :
    Calls Try.prog 5 #[.agg #[.int .i64 pw, .int .i64 np], .agg #[.int .i64 l.o, .int .i64 l.wd, .int .i64 l.s, .int .i64 l.la, .int .i64 l.pi]] w fun e w' => e = .returned (.int .i64 (pagesV pw np l)) ∧ Below w.heap.size w w' := by
  have hbx : Below w.heap.size w ((w.alloc (.cells #[.int .i64 pw, .int .i64 np] 23)).alloc (.cells #[.int .i64 l.o, .int .i64 l.wd, .int .i64 l.s, .int .i64 l.la, .int .i64 l.pi] 31)) := bthen below_box below_box
  have hco := Lib.hid (fun w => cnt_any l w)
  cases hv : confB pw np
  · rw [pages_no (Or.inl hv)]
    have hc := Lib.hid (fun w => valid_is hv w)
    clear hv
    go_enter Try.func5, Try.ntmps5
    go_wp2_with fail
    refine (hc.out _).mono ?_
    rintro e w1 ⟨rfl, hb1⟩
    have hB := bthen hbx hb1
    go_wp2
    go_ret
    exact ⟨rfl, hB⟩
  · have hc := Lib.hid (fun w => valid_is hv w)
    cases hl : liveB l
    · rw [pages_no (Or.inr hl)]
      have hi := Lib.hid (fun w => cnt_is hl w)
      clear hv hl
      go_enter Try.func5, Try.ntmps5
      go_wp2_with fail
      refine (hc.out _).mono ?_
      rintro e w1 ⟨rfl, hb1⟩
      obtain ⟨c0, c1, d0, d1, d2, d3, d4⟩ := box25 hb1
      have hB := bthen hbx hb1
      clear hb1
      go_wp2_with fail
      refine (hco.out _).mono ?_
      rintro e w2 ⟨rfl, hb2⟩
      have hB2 := bthen hB hb2
      clear hB hb2
      go_wp2_with fail
      refine (hi.out _).mono ?_
      rintro e w3 ⟨rfl, hb3⟩
      have hB := bthen hB2 hb3
      go_wp2
      go_ret
      exact ⟨rfl, hB⟩
    · have hi := Lib.hid (fun w => cnt_is hl w)
      rw [pages_ok hv hl]
      obtain ⟨h1, h2, -, -, -⟩ := conf_parts hv
      obtain ⟨-, -, b3, b4, b5⟩ := live_parts hl
      have hb := Lib.hid (copy_bound h1 h2 b3)
      have hcp := Lib.hid (fun w => copy_any pw np l.s w h1 h2 b3.1 b3.2)
      clear hv hl
      unfold inR at b3 b4 b5
      generalize copyV pw l.s = Q at hb hcp ⊢
      have p6 : IntKind.i64.wrap (l.pi + l.la) = l.pi + l.la := IntWalk.i64_in _ (by omega)
      have p7 : IntKind.i64.wrap (l.pi + l.la + Q) = l.pi + l.la + Q := IntWalk.i64_in _ (by have := hb.out; omega)
      go_enter Try.func5, Try.ntmps5
      go_wp2_with fail
      refine (hc.out _).mono ?_
      rintro e w1 ⟨rfl, hb1⟩
      obtain ⟨c0, c1, d0, d1, d2, d3, d4⟩ := box25 hb1
      have hB := bthen hbx hb1
      have hS1 := Lib.hid (show (fun w' => w'.cell? ⟨w.heap.size, 0, none⟩ = some (.int .i64 pw) ∧ w'.cell? ⟨w.heap.size, 1, none⟩ = some (.int .i64 np) ∧ w'.cell? ⟨w.heap.size + 1, 0, none⟩ = some (.int .i64 l.o) ∧ w'.cell? ⟨w.heap.size + 1, 1, none⟩ = some (.int .i64 l.wd) ∧ w'.cell? ⟨w.heap.size + 1, 2, none⟩ = some (.int .i64 l.s) ∧ w'.cell? ⟨w.heap.size + 1, 3, none⟩ = some (.int .i64 l.la) ∧ w'.cell? ⟨w.heap.size + 1, 4, none⟩ = some (.int .i64 l.pi) ∧ Below w.heap.size w w') w1 from ⟨c0, c1, d0, d1, d2, d3, d4, hB⟩)
      clear hb1 hB
      go_wp2_with fail
      refine (hco.out _).mono ?_
      rintro e w2 ⟨rfl, hb2⟩
      have hS2 := Lib.hid (keep25 hS1.out hb2)
      clear hS1 hb2 c0 c1 d0 d1 d2 d3 d4
      go_wp2_with fail
      refine (hi.out _).mono ?_
      rintro e w3 ⟨rfl, hb3⟩
      have hS3 := keep25 hS2.out hb3
      clear hS2 hb3
      obtain ⟨c0, c1, d0, d1, d2, d3, d4, hB⟩ := hS3
      go_wp2_with fail
      refine wp_region_held_drew (S := fun w' => w'.cell? ⟨w.heap.size, 0, none⟩ = some (.int .i64 pw) ∧ w'.cell? ⟨w.heap.size, 1, none⟩ = some (.int .i64 np) ∧ w'.cell? ⟨w.heap.size + 1, 0, none⟩ = some (.int .i64 l.o) ∧ w'.cell? ⟨w.heap.size + 1, 1, none⟩ = some (.int .i64 l.wd) ∧ w'.cell? ⟨w.heap.size + 1, 2, none⟩ = some (.int .i64 l.s) ∧ w'.cell? ⟨w.heap.size + 1, 3, none⟩ = some (.int .i64 l.la) ∧ w'.cell? ⟨w.heap.size + 1, 4, none⟩ = some (.int .i64 l.pi) ∧ Below w.heap.size w w') (by kernel_rfl) ⟨c0, c1, d0, d1, d2, d3, d4, hB.drew⟩ (fun hHeld => ?_)
      refine draw_take 0 14 (v := ?_) rfl rfl (by kernel_rfl) (by kernel_rfl) (by kernel_rfl) (fun _ _ _ h => h) (by kernel_rfl) ?hy hHeld ?_
      case hy => (intro w hSw; (try dsimp only at hSw); go_simp; try (with_reducible rfl))
      simp only [Act.put, List.setIfInBounds_toArray, List.set_cons_zero, List.set_cons_succ]
      refine draw_take 1 15 (v := ?_) rfl rfl (by kernel_rfl) (by kernel_rfl) (by kernel_rfl) (fun _ _ _ h => h) (by kernel_rfl) ?hy hHeld ?_
      case hy => (intro w hSw; (try dsimp only at hSw); go_simp; try (with_reducible rfl))
      simp only [Act.put, List.setIfInBounds_toArray, List.set_cons_zero, List.set_cons_succ]
      refine draw_take 2 16 (v := ?_) rfl rfl (by kernel_rfl) (by kernel_rfl) (by kernel_rfl) (fun _ _ _ h => h) (by kernel_rfl) ?hy hHeld ?_
      case hy => (intro w hSw; (try dsimp only at hSw); go_simp; try (with_reducible rfl))
      simp only [Act.put, List.setIfInBounds_toArray, List.set_cons_zero, List.set_cons_succ]
      refine draw_take 3 17 (v := ?_) rfl rfl (by kernel_rfl) (by kernel_rfl) (by kernel_rfl) (fun _ _ _ h => h) (by kernel_rfl) ?hy hHeld ?_
      case hy => (intro w hSw; (try dsimp only at hSw); go_simp; try (with_reducible rfl))
      simp only [Act.put, List.setIfInBounds_toArray, List.set_cons_zero, List.set_cons_succ]
      refine draw_take 4 18 (v := ?_) rfl rfl (by kernel_rfl) (by kernel_rfl) (by kernel_rfl) (fun _ _ _ h => h) (by kernel_rfl) ?hy hHeld ?_
      case hy => (intro w hSw; (try dsimp only at hSw); go_simp; try (with_reducible rfl))
      simp only [Act.put, List.setIfInBounds_toArray, List.set_cons_zero, List.set_cons_succ]
      refine draw_take 5 19 (v := ?_) rfl rfl (by kernel_rfl) (by kernel_rfl) (by kernel_rfl) (fun _ _ _ h => h) (by kernel_rfl) ?hy hHeld ?_
      case hy => (intro w hSw; (try dsimp only at hSw); go_simp; try (with_reducible rfl))
      simp only [Act.put, List.setIfInBounds_toArray, List.set_cons_zero, List.set_cons_succ]
      refine draw_take 6 20 (v := ?_) rfl rfl (by kernel_rfl) (by kernel_rfl) (by kernel_rfl) (fun _ _ _ h => h) (by kernel_rfl) ?hy hHeld ?_
      case hy => (intro w hSw; (try dsimp only at hSw); go_simp; try (with_reducible rfl))
      simp only [Act.put, List.setIfInBounds_toArray, List.set_cons_zero, List.set_cons_succ]
      refine draw_take 7 21 (v := ?_) rfl rfl (by kernel_rfl) (by kernel_rfl) (by kernel_rfl) (fun _ _ _ h => h) (by kernel_rfl) ?hy hHeld ?_
      case hy => (intro w hSw; (try dsimp only at hSw); go_simp; try (with_reducible rfl))
      simp only [Act.put, List.setIfInBounds_toArray, List.set_cons_zero, List.set_cons_succ]
      refine wpAnyH_ready (rs := [8]) (by kernel_rfl) (by simp) ?_
      refine AllReadyH.cons rfl (fun K hK => ?_) AllReadyH.nil
      go_simp
      (go_at_call 13; refine (hcp.out _).mono ?_; rintro e w4 ⟨rfl, hbq⟩)
      go_wp2_with fail
      refine hK.out _ _ (keep25 hHeld hbq) (fun hHeld => ?_)
      clear hK K
      try simp only [Act.put, List.setIfInBounds_toArray, List.set_cons_zero, List.set_cons_succ]
      refine draw_take 9 23 (v := ?_) rfl rfl (by kernel_rfl) (by kernel_rfl) (by kernel_rfl) (fun _ _ _ h => h) (by kernel_rfl) ?hy hHeld ?_
      case hy => (intro w hSw; (try dsimp only at hSw); go_simp; try (with_reducible rfl))
      simp only [Act.put, List.setIfInBounds_toArray, List.set_cons_zero, List.set_cons_succ]
      refine draw_take 10 4 (v := ?_) rfl rfl (by kernel_rfl) (by kernel_rfl) (by kernel_rfl) (fun _ _ _ h => h) (by kernel_rfl) ?hy hHeld ?_
      case hy => (intro w hSw; (try dsimp only at hSw); go_simp; try (with_reducible rfl))
      simp only [Act.put, List.setIfInBounds_toArray, List.set_cons_zero, List.set_cons_succ]
      refine wpAnyH_done (by kernel_rfl) ?_ _
      have hB := hHeld.2.2.2.2.2.2.2
      clear hHeld c0 c1 d0 d1 d2 d3 d4
      go_wp2
      go_ret
      exact ⟨rfl, hB⟩

set_option maxRecDepth 100000 in
set_option maxHeartbeats 3200000 in
theorem sure_any (pw np : Int) (l : Lv) (k n m : Int) (w : World) (hm0 : 0 ≤ m) (hm : m < 4294967296) :
    Calls Try.prog 8 #[.agg #[.int .i64 pw, .int .i64 np], .agg #[.int .i64 l.o, .int .i64 l.wd, .int .i64 l.s, .int .i64 l.la, .int .i64 l.pi], .agg #[.int .i64 k, .int .i64 n, .int .u32 m]] w fun e w' => e = .returned (.bool (sureB pw np l k n m)) ∧ Below w.heap.size w w' := by
  have hbx : Below w.heap.size w ((((w.alloc (.cells #[.int .i64 pw, .int .i64 np] 23)).alloc (.cells #[.int .i64 l.o, .int .i64 l.wd, .int .i64 l.s, .int .i64 l.la, .int .i64 l.pi] 31))).alloc (.cells #[.int .i64 k, .int .i64 n, .int .u32 m] 28)) := bthen (bthen below_box below_box) below_box
  have hco := Lib.hid (fun w => cnt_any l w)
  have has := Lib.hid (fun w => asks_any pw np k n m w hm0 hm)
  have hpg := Lib.hid (fun w => pages_any pw np l w)
  have hsz := Lib.hid (fun w => hsize_any k n m w hm0 hm)
  have hnd := Lib.hid (fun w => need_any pw np (sizeV k n m) w)
  have hlm := Lib.hid (fun w => limit_any pw np w)
  have hsv : sureB pw np l k n m = (asksB pw np k n m && (liveB l && roomB np (limitV pw np) (pagesV pw np l) (needV pw np (sizeV k n m)))) := rfl
  rw [hsv]
  cases hA : asksB pw np k n m
  · rw [hA] at has
    clear hA hpg hsz hnd hlm hco hsv
    go_enter Try.func8, Try.ntmps8
    go_wp2_with fail
    refine (has.out _).mono ?_
    rintro e w1 ⟨rfl, hb1⟩
    have hB := bthen hbx hb1
    go_wp2
    go_ret
    exact ⟨rfl, hB⟩
  · rw [hA] at has
    cases hl : liveB l
    · have hi := Lib.hid (fun w => cnt_is hl w)
      clear hA hpg hsz hnd hlm hl hsv
      go_enter Try.func8, Try.ntmps8
      go_wp2_with fail
      refine (has.out _).mono ?_
      rintro e w1 ⟨rfl, hb1⟩
      obtain ⟨c0, c1, c2, c3, c4, c5, c6, c7, c8, c9, hB⟩ := box253 hb1
      clear hb1
      go_wp2_with fail
      refine (hco.out _).mono ?_
      rintro e w2 ⟨rfl, hb2⟩
      have hB2 := bthen hB hb2
      clear hB hb2
      go_wp2_with fail
      refine (hi.out _).mono ?_
      rintro e w3 ⟨rfl, hb3⟩
      have hB := bthen hB2 hb3
      go_wp2
      go_ret
      exact ⟨rfl, hB⟩
    · have hi := Lib.hid (fun w => cnt_is hl w)
      have hP := pages_bound pw np l
      have hZ := need_range pw np (sizeV k n m)
      obtain ⟨-, -, -, n1, n2⟩ := conf_parts (asks_conf hA)
      generalize pagesV pw np l = P at hpg hP ⊢
      generalize needV pw np (sizeV k n m) = Z at hnd hZ ⊢
      generalize limitV pw np = L at hlm ⊢
      clear hA hl hsv
      simp only [Bool.true_and]
      unfold roomB
      obtain ⟨K, hK⟩ : ∃ K, max 1 Z = K := ⟨_, rfl⟩
      have k1 : 1 ≤ K := by rw [← hK]; exact Int.le_max_left 1 Z
      have k2 : K ≤ 4 := by rw [← hK]; exact Int.max_le.2 ⟨by omega, hZ.2⟩
      have hM := room_prod hP.1 hP.2 k1 k2
      rw [hK]
      obtain ⟨M, hMe⟩ : ∃ M, (P + 1) * (K - 1) = M := ⟨_, rfl⟩
      rw [hMe] at hM ⊢
      have q1 : IntKind.i64.wrap (P + K) = P + K := IntWalk.i64_in _ (by omega)
      have q2 : IntKind.i64.wrap (np - P) = np - P := IntWalk.i64_in _ (by omega)
      have q3 : IntKind.i64.wrap (P + 1) = P + 1 := IntWalk.i64_in _ (by omega)
      have q4 : IntKind.i64.wrap (K - 1) = K - 1 := IntWalk.i64_in _ (by omega)
      have q5 : IntKind.i64.wrap M = M := IntWalk.i64_in _ (by omega)
      clear hP hZ n1 n2 k1 k2 hM
      obtain ⟨R, hR⟩ : ∃ R : Bool, Hid (decide (P + K ≤ L ∧ M < np - P) = R) := ⟨_, Lib.hid rfl⟩
      rw [hR.out]
      go_enter Try.func8, Try.ntmps8
      go_wp2_with fail
      refine (has.out _).mono ?_
      rintro e w1 ⟨rfl, hb1⟩
      have hS := Lib.hid (box253 hb1)
      obtain ⟨c0, c1, c2, c3, c4, c5, c6, c7, c8, c9, -⟩ := box253 hb1
      clear hb1
      go_wp2_with fail
      refine (hco.out _).mono ?_
      rintro e w2 ⟨rfl, hb2⟩
      have hS := Lib.hid (keep253 hS.out hb2)
      clear hb2 c0 c1 c2 c3 c4 c5 c6 c7 c8 c9
      go_wp2_with fail
      refine (hi.out _).mono ?_
      rintro e w3 ⟨rfl, hb3⟩
      have hS := Lib.hid (keep253 hS.out hb3)
      clear hb3
      obtain ⟨c0, c1, c2, c3, c4, c5, c6, c7, c8, c9, -⟩ := hS.out
      go_wp2_with fail
      refine (hpg.out _).mono ?_
      rintro e w4 ⟨rfl, hb4⟩
      have hS := keep253 hS.out hb4
      clear hb4 c0 c1 c2 c3 c4 c5 c6 c7 c8 c9
      obtain ⟨c0, c1, c2, c3, c4, c5, c6, c7, c8, c9, hB⟩ := hS
      go_wp2_with fail
      refine wp_region_held_drew (S := fun w' => w'.cell? ⟨w.heap.size, 0, none⟩ = some (.int .i64 pw) ∧ w'.cell? ⟨w.heap.size, 1, none⟩ = some (.int .i64 np) ∧ w'.cell? ⟨w.heap.size + 1, 0, none⟩ = some (.int .i64 l.o) ∧ w'.cell? ⟨w.heap.size + 1, 1, none⟩ = some (.int .i64 l.wd) ∧ w'.cell? ⟨w.heap.size + 1, 2, none⟩ = some (.int .i64 l.s) ∧ w'.cell? ⟨w.heap.size + 1, 3, none⟩ = some (.int .i64 l.la) ∧ w'.cell? ⟨w.heap.size + 1, 4, none⟩ = some (.int .i64 l.pi) ∧ w'.cell? ⟨w.heap.size + 2, 0, none⟩ = some (.int .i64 k) ∧ w'.cell? ⟨w.heap.size + 2, 1, none⟩ = some (.int .i64 n) ∧ w'.cell? ⟨w.heap.size + 2, 2, none⟩ = some (.int .u32 m) ∧ Below w.heap.size w w') (by kernel_rfl) ⟨c0, c1, c2, c3, c4, c5, c6, c7, c8, c9, hB.drew⟩ (fun hHeld => ?_)
      refine draw_take 0 22 (v := ?_) rfl rfl (by kernel_rfl) (by kernel_rfl) (by kernel_rfl) (fun _ _ _ h => h) (by kernel_rfl) ?hy hHeld ?_
      case hy => (intro w hSw; (try dsimp only at hSw); go_simp; try (with_reducible rfl))
      simp only [Act.put, List.setIfInBounds_toArray, List.set_cons_zero, List.set_cons_succ]
      refine draw_take 1 23 (v := ?_) rfl rfl (by kernel_rfl) (by kernel_rfl) (by kernel_rfl) (fun _ _ _ h => h) (by kernel_rfl) ?hy hHeld ?_
      case hy => (intro w hSw; (try dsimp only at hSw); go_simp; try (with_reducible rfl))
      simp only [Act.put, List.setIfInBounds_toArray, List.set_cons_zero, List.set_cons_succ]
      refine wpAnyH_ready (rs := [2]) (by kernel_rfl) (by simp) ?_
      refine AllReadyH.cons rfl (fun K hK => ?_) AllReadyH.nil
      go_simp
      (go_at_call 17; refine (hsz.out _).mono ?_; rintro e w5 ⟨rfl, hbq⟩)
      go_wp2_with fail
      refine hK.out _ _ (keep253 hHeld hbq) (fun hHeld => ?_)
      clear hK K
      try simp only [Act.put, List.setIfInBounds_toArray, List.set_cons_zero, List.set_cons_succ]
      refine wpAnyH_ready (rs := [3]) (by kernel_rfl) (by simp) ?_
      refine AllReadyH.cons rfl (fun K hK => ?_) AllReadyH.nil
      go_simp
      (go_at_call 16; refine (hnd.out _).mono ?_; rintro e w6 ⟨rfl, hbq⟩)
      go_wp2_with fail
      refine hK.out _ _ (keep253 hHeld hbq) (fun hHeld => ?_)
      clear hK K
      try simp only [Act.put, List.setIfInBounds_toArray, List.set_cons_zero, List.set_cons_succ]
      refine draw_take 4 26 (v := ?_) rfl rfl (by kernel_rfl) (by kernel_rfl) (by kernel_rfl) (fun _ _ _ h => h) (by kernel_rfl) ?hy hHeld ?_
      case hy => (intro w hSw; (try dsimp only at hSw); go_simp; try (with_reducible rfl))
      simp only [Act.put, List.setIfInBounds_toArray, List.set_cons_zero, List.set_cons_succ]
      refine draw_take 5 8 (v := ?_) rfl rfl (by kernel_rfl) (by kernel_rfl) (by kernel_rfl) (fun _ _ _ h => h) (by kernel_rfl) ?hy hHeld ?_
      case hy => (intro w hSw; (try dsimp only at hSw); go_simp; try (with_reducible rfl))
      simp only [Act.put, List.setIfInBounds_toArray, List.set_cons_zero, List.set_cons_succ]
      refine wpAnyH_done (by kernel_rfl) ?_ _
      clear c0 c1 c2 c3 c4 c5 c6 c7 c8 c9 hB hbq hS
      obtain ⟨c0, c1, c2, c3, c4, c5, c6, c7, c8, c9, hB⟩ := hHeld
      go_wp2_with fail
      refine (hlm.out _).mono ?_
      rintro e w7 ⟨rfl, hb7⟩
      have x1 := cell_keep hb7 c1
      have hB7 := bthen hB hb7
      clear c0 c1 c2 c3 c4 c5 c6 c7 c8 c9 hB hb7
      by_cases g1 : P + K ≤ L
      · by_cases g2 : M < np - P
        · go_wp2
          go_ret
          exact ⟨by rw [← hR.out]; simp [g1, g2], hB7⟩
        · go_wp2
          go_ret
          exact ⟨by rw [← hR.out]; simp [g1, g2], hB7⟩
      · go_wp2
        go_ret
        exact ⟨ret_bool (by rw [← hR.out]; exact (decide_eq_false fun h => absurd h.1 (by omega)).symm), hB7⟩
end Go.Proofs.Ytoidfmhkcnpjoaa
