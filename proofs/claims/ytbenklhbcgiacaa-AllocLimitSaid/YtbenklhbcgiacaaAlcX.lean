/- The law AllocLimit. -/
import Derived.Test.YtbenklhbcgiacaaAlcW
import Derived.Deep.DeepCutAuto
import Derived.Test.YtbenklhbcgiacaaAlcV
set_option linter.unusedSimpArgs false
set_option linter.unusedVariables false
namespace Go.Proofs.Ytbenklhbcgiacaa
open Go.RowKit

theorem prow_away {w : World} {B : Nat} {q : Option Addr} {m d : Nat} {ps : List Pg} (h : w.ownsRow B 55 4 (.slice q m d) m (pvals ps)) : PRow w q m d ps ∧ ∀ ad, q = some ad → B ≤ ad.block := by
  obtain ⟨q6, d6, hv6, hrow6⟩ := PRow.of_own h
  obtain ⟨rfl, rfl⟩ : q6 = q ∧ d6 = d := by
    injection hv6 with a1 a2 a3
    exact ⟨a1.symm, a3.symm⟩
  refine ⟨hrow6, fun ad e => ?_⟩
  rcases h.2 with ⟨hv, -⟩ | ⟨g, cap, cur, hv, hg, -⟩
  · injection hv with a1 a2 a3
    rw [a1] at e; cases e
  · injection hv with a1 a2 a3
    rw [a1] at e; cases e; exact hg
theorem refInUse_b (p : Option Addr) (n cap : Nat) (ps : List Pg) (w : World) (hr : PRow w p n cap ps) :
    Calls Try.prog 12 #[.slice p n cap] w fun e w' => e = .returned (.int .i64 (inUse ps)) ∧ Below w.heap.size w w' := by
  refine (refInUse_any p n cap ps w hr).mono ?_
  rintro e w' ⟨h, rfl⟩
  exact ⟨h, Below.refl _ _⟩
theorem own_store6 {w : World} {B hb : Nat} {q : Option Addr} {m d : Nat} {ps : List Pg} (h : w.ownsRow B 55 4 (.slice q m d) m (pvals ps)) (hB : hb < B) (x0 x1 x2 x3 x4 x5 : Value) :
    ((((((w.setCell ⟨hb, 0, none⟩ x0).setCell ⟨hb, 1, none⟩ x1).setCell ⟨hb, 2, none⟩ x2).setCell ⟨hb, 3, none⟩ x3).setCell ⟨hb, 4, none⟩ x4).setCell ⟨hb, 5, none⟩ x5).ownsRow B 55 4 (.slice q m d) m (pvals ps) := by
  have s : ∀ (w : World) (o : Nat) (x : Value), w.ownsRow B 55 4 (.slice q m d) m (pvals ps) → (w.setCell ⟨hb, o, none⟩ x).ownsRow B 55 4 (.slice q m d) m (pvals ps) := fun w o x hh => ownsRow_setCell_below hh hB x
  exact s _ _ _ (s _ _ _ (s _ _ _ (s _ _ _ (s _ _ _ (s _ _ _ h)))))
theorem ownL_store6 {w : World} {hb : Nat} {y0 y1 y2 y3 y4 y5 : Value} (h : OwnL w hb [y0, y1, y2, y3, y4, y5]) (x0 x1 x2 x3 x4 x5 : Value) :
    OwnL ((((((w.setCell ⟨hb, 0, none⟩ x0).setCell ⟨hb, 1, none⟩ x1).setCell ⟨hb, 2, none⟩ x2).setCell ⟨hb, 3, none⟩ x3).setCell ⟨hb, 4, none⟩ x4).setCell ⟨hb, 5, none⟩ x5) hb [x0, x1, x2, x3, x4, x5] :=
  (((((h.set 0 _ (by simp)).set 1 _ (by simp)).set 2 _ (by simp)).set 3 _ (by simp)).set 4 _ (by simp)).set 5 _ (by simp)

set_option maxRecDepth 100000 in
set_option maxHeartbeats 6400000 in
theorem limit_main (P M L : Nat) (w : World) (hv : confB P M = true) (hL : L ≤ 63) (ha : asksB P M 3 L 0 = true) :
    Calls Try.prog 4 #[.agg #[.int .i64 P, .int .i64 M], .int .i64 L] w fun e w' => e = .returned (.bool true) ∧ Below w.heap.size w w' := by
  have haw := Lib.hid awake_any
  have hrf := Lib.hid (fun w => refNew_any P M w)
  rw [(newH_ok hv).1, (newH_ok hv).2] at hrf
  have hd1 : decide ((L : Int) < 0) = false := decide_eq_false (by omega)
  have hd2 : decide (63 < (L : Int)) = false := decide_eq_false (by omega)
  have hwo := Lib.hid (fun w => words_any L w)
  have has := Lib.hid (fun w => asks_any P M 3 L 0 w (by decide) (by decide))
  rw [ha] at has
  have hnn : ¬ needV P M ((L : Int) + 1) = -1 := by
    unfold asksB at ha
    rw [Bool.and_eq_true, Bool.and_eq_true] at ha
    have := of_decide_eq_true ha.2
    rwa [size_ok ha.1.1] at this
  have hge := needV_ge P M ((L : Int) + 1)
  have hle := needV_le P M ((L : Int) + 1)
  have hnd := Lib.hid (fun w => refNeed_any P M ((L : Int) + 1) w)
  obtain ⟨kk, hkk⟩ := Int.eq_ofNat_of_zero_le (show 0 ≤ needV P M ((L : Int) + 1) by omega)
  have hkk4 : kk ≤ 4 := by omega
  rw [hkk] at hnd
  obtain ⟨Ch, ch0, chok, chst, chsp⟩ := chain hv hnn (empty_ok hv)
  obtain ⟨kc1, kc2, -, kc4, kc5⟩ := conf_parts hv
  obtain ⟨Q, hQ⟩ : ∃ Q, P / (L + 1) = Q := ⟨_, rfl⟩
  obtain ⟨R, hR⟩ : ∃ R, M / 4 = R := ⟨_, rfl⟩
  have hQ9 : Q ≤ 64 := by rw [← hQ]; have := Nat.div_le_self P (L + 1); omega
  have hR9 : R ≤ 16 := by omega
  have hQR : R * Q ≤ 16 * 64 := Nat.mul_le_mul hR9 hQ9
  have hw1 : IntKind.i64.wrap ((L : Int) + 1) = (L : Int) + 1 := by rw [IntKind.wrap_i64]; omega
  have hz1 : ¬ ((L : Int) + 1 = 0) := by omega
  have hw2 : (P : Int) / ((L : Int) + 1) = (Q : Int) := by rw [← hQ, show (L : Int) + 1 = ((L + 1 : Nat) : Int) by omega, Int.natCast_ediv]
  have hw3 : (M : Int) / 4 = (R : Int) := by omega
  have hw4 : IntKind.i64.wrap (Q : Int) = (Q : Int) := by rw [IntKind.wrap_i64]; omega
  have hw5 : IntKind.i64.wrap (R : Int) = (R : Int) := by rw [IntKind.wrap_i64]; omega
  have hw6 : IntKind.i64.wrap ((R : Int) * (Q : Int)) = ((R * Q : Nat) : Int) := by rw [← Int.natCast_mul, IntKind.wrap_i64]; omega
  have hmo : mostN P M L = if 0 < kk then R / kk else R * Q := by
    unfold mostN
    rw [hkk, Int.toNat_natCast, hR, hQ]
    by_cases h0 : 0 < kk
    · rw [if_pos h0, if_pos (by omega)]
    · rw [if_neg h0, if_neg (by omega)]
  obtain ⟨MO, hMO⟩ : ∃ MO, mostN P M L = MO := ⟨_, rfl⟩
  rw [hMO] at hmo chst chsp
  have Hmo := Lib.hid hmo
  have hM9 : MO ≤ 1024 := by
    rw [hmo]; split
    · have := Nat.div_le_self R kk; omega
    · omega
  have hM9i : (MO : Int) ≤ 1024 := by omega
  have hRi : (M : Int) / 4 = (R : Int) := hw3
  have HQ := Lib.hid hQ
  have HR := Lib.hid hR
  clear hQ hR hkk hge hle hMO hmo
  have c0 : (w.alloc (.cells #[.int .i64 P, .int .i64 M] 23)).cell? ⟨w.heap.size, 0, none⟩ = some (.int .i64 P) := by simp
  have c1 : (w.alloc (.cells #[.int .i64 P, .int .i64 M] 23)).cell? ⟨w.heap.size, 1, none⟩ = some (.int .i64 M) := by simp
  have hbx := Lib.hid (below_box (w := w) (o := .cells #[.int .i64 P, .int .i64 M] 23))
  have Ch0 := Lib.hid ch0
  have Chok := Lib.hid chok
  have Chst := Lib.hid chst
  have Chsp := Lib.hid chsp
  have Ha := Lib.hid ha
  have Hv := Lib.hid hv
  clear ch0 chok chst chsp ha hnn hv
  go_enter Try.func4, Try.ntmps4
  go_wp2_with fail
  refine (hrf.out _).mono ?_
  rintro e w1 ⟨⟨v, rfl, p, nn, c, q, m, d, rfl, hs, hr, -⟩, hb1⟩
  have hB5 := Lib.hid (bthen hb1 (below_box (w := w1) (o := .cells #[.int .i64 P, .int .i64 M, .slice p nn c, .slice q m d, .int .i64 0, .int .i64 (-1)] 32)))
  have k0 : (w1.alloc (.cells #[.int .i64 P, .int .i64 M, .slice p nn c, .slice q m d, .int .i64 0, .int .i64 (-1)] 32)).cell? ⟨w.heap.size, 0, none⟩ = some (.int .i64 P) := cell_keep below_box (cell_keep hb1 c0)
  have k1 : (w1.alloc (.cells #[.int .i64 P, .int .i64 M, .slice p nn c, .slice q m d, .int .i64 0, .int .i64 (-1)] 32)).cell? ⟨w.heap.size, 1, none⟩ = some (.int .i64 M) := cell_keep below_box (cell_keep hb1 c1)
  have Hs := Lib.hid (hs.keep (w' := (w1.alloc (.cells #[.int .i64 P, .int .i64 M, .slice p nn c, .slice q m d, .int .i64 0, .int .i64 (-1)] 32))) below_box)
  have Hr := Lib.hid (hr.keep (w' := (w1.alloc (.cells #[.int .i64 P, .int .i64 M, .slice p nn c, .slice q m d, .int .i64 0, .int .i64 (-1)] 32))) below_box)
  have Hhb := Lib.hid (OwnL.new w1 [.int .i64 P, .int .i64 M, .slice p nn c, .slice q m d, .int .i64 0, .int .i64 (-1)] 32)
  have hqb : ∀ ad, q = some ad → ad.block ≠ w1.heap.size := fun ad e => by
    obtain ⟨x, b2, off, -, rfl, hcell, -⟩ := hr.at_ (k := 0) (by have := hr.len; rw [List.length_replicate] at this; omega)
    have := cell_lt hcell
    cases e
    exact Nat.ne_of_lt this
  have Hqb := Lib.hid hqb
  have hwB : w.heap.size + 1 ≤ w1.heap.size := by have := hb1.size; simpa using this
  clear hs hr hb1 hrf c0 c1 hqb
  go_upto_region 2 with fail
  go_cut [37] (fun a wx => a = .bool false ∧ Below (w1.alloc (.cells #[.int .i64 P, .int .i64 M, .slice p nn c, .slice q m d, .int .i64 0, .int .i64 (-1)] 32)).heap.size (w1.alloc (.cells #[.int .i64 P, .int .i64 M, .slice p nn c, .slice q m d, .int .i64 0, .int .i64 (-1)] 32)) wx)
  case first =>
    refine wp_region_held_drew (S := fun w' => Below (w1.alloc (.cells #[.int .i64 P, .int .i64 M, .slice p nn c, .slice q m d, .int .i64 0, .int .i64 (-1)] 32)).heap.size (w1.alloc (.cells #[.int .i64 P, .int .i64 M, .slice p nn c, .slice q m d, .int .i64 0, .int .i64 (-1)] 32)) w') (by kernel_rfl) ((Below.refl _ _).drew) (fun hHeld => ?_)
    refine draw_take 0 21 (v := ?_) rfl rfl (by kernel_rfl) (by kernel_rfl) (by kernel_rfl) (fun _ _ _ h => h) (by kernel_rfl) ?hy hHeld ?_
    case hy => (intro w' hSw; (try dsimp only at hSw); skip; go_simp; try (with_reducible rfl))
    simp only [Act.put, List.setIfInBounds_toArray, List.set_cons_zero, List.set_cons_succ]
    refine draw_take 1 22 (v := ?_) rfl rfl (by kernel_rfl) (by kernel_rfl) (by kernel_rfl) (fun _ _ _ h => h) (by kernel_rfl) ?hy hHeld ?_
    case hy => (intro w' hSw; (try dsimp only at hSw); skip; go_simp; try (with_reducible rfl))
    simp only [Act.put, List.setIfInBounds_toArray, List.set_cons_zero, List.set_cons_succ]
    refine draw_take 2 23 (v := ?_) rfl rfl (by kernel_rfl) (by kernel_rfl) (by kernel_rfl) (fun _ _ _ h => h) (by kernel_rfl) ?hy hHeld ?_
    case hy => (intro w' hSw; (try dsimp only at hSw); skip; go_simp; try (with_reducible rfl))
    simp only [Act.put, List.setIfInBounds_toArray, List.set_cons_zero, List.set_cons_succ]
    refine draw_take 3 24 (v := ?_) rfl rfl (by kernel_rfl) (by kernel_rfl) (by kernel_rfl) (fun _ _ _ h => h) (by kernel_rfl) ?hy hHeld ?_
    case hy => (intro w' hSw; (try dsimp only at hSw); skip; go_simp; try (with_reducible rfl))
    simp only [Act.put, List.setIfInBounds_toArray, List.set_cons_zero, List.set_cons_succ]
    refine draw_take 4 25 (v := ?_) rfl rfl (by kernel_rfl) (by kernel_rfl) (by kernel_rfl) (fun _ _ _ h => h) (by kernel_rfl) ?hy hHeld ?_
    case hy => (intro w' hSw; (try dsimp only at hSw); skip; go_simp; try (with_reducible rfl))
    simp only [Act.put, List.setIfInBounds_toArray, List.set_cons_zero, List.set_cons_succ]
    refine draw_take 5 26 (v := ?_) rfl rfl (by kernel_rfl) (by kernel_rfl) (by kernel_rfl) (fun _ _ _ h => h) (by kernel_rfl) ?hy hHeld ?_
    case hy => (intro w' hSw; (try dsimp only at hSw); skip; go_simp; try (with_reducible rfl))
    simp only [Act.put, List.setIfInBounds_toArray, List.set_cons_zero, List.set_cons_succ]
    refine draw_take 6 27 (v := ?_) rfl rfl (by kernel_rfl) (by kernel_rfl) (by kernel_rfl) (fun _ _ _ h => h) (by kernel_rfl) ?hy hHeld ?_
    case hy => (intro w' hSw; (try dsimp only at hSw); skip; go_simp; try (with_reducible rfl))
    simp only [Act.put, List.setIfInBounds_toArray, List.set_cons_zero, List.set_cons_succ]
    refine draw_take 7 28 (v := ?_) rfl rfl (by kernel_rfl) (by kernel_rfl) (by kernel_rfl) (fun _ _ _ h => h) (by kernel_rfl) ?hy hHeld ?_
    case hy => (intro w' hSw; (try dsimp only at hSw); skip; go_simp; try (with_reducible rfl))
    simp only [Act.put, List.setIfInBounds_toArray, List.set_cons_zero, List.set_cons_succ]
    refine draw_take 8 29 (v := ?_) rfl rfl (by kernel_rfl) (by kernel_rfl) (by kernel_rfl) (fun _ _ _ h => h) (by kernel_rfl) ?hy hHeld ?_
    case hy => (intro w' hSw; (try dsimp only at hSw); skip; go_simp; try (with_reducible rfl))
    simp only [Act.put, List.setIfInBounds_toArray, List.set_cons_zero, List.set_cons_succ]
    refine draw_take 9 30 (v := ?_) rfl rfl (by kernel_rfl) (by kernel_rfl) (by kernel_rfl) (fun _ _ _ h => h) (by kernel_rfl) ?hy hHeld ?_
    case hy => (intro w' hSw; (try dsimp only at hSw); skip; go_simp; try (with_reducible rfl))
    simp only [Act.put, List.setIfInBounds_toArray, List.set_cons_zero, List.set_cons_succ]
    refine draw_take 10 31 (v := ?_) rfl rfl (by kernel_rfl) (by kernel_rfl) (by kernel_rfl) (fun _ _ _ h => h) (by kernel_rfl) ?hy hHeld ?_
    case hy => (intro w' hSw; (try dsimp only at hSw); skip; go_simp; try (with_reducible rfl))
    simp only [Act.put, List.setIfInBounds_toArray, List.set_cons_zero, List.set_cons_succ]
    refine draw_take 11 32 (v := ?_) rfl rfl (by kernel_rfl) (by kernel_rfl) (by kernel_rfl) (fun _ _ _ h => h) (by kernel_rfl) ?hy hHeld ?_
    case hy => (intro w' hSw; (try dsimp only at hSw); have y0 := cell_keep hSw k0; have y1 := cell_keep hSw k1; go_simp; try (with_reducible rfl))
    simp only [Act.put, List.setIfInBounds_toArray, List.set_cons_zero, List.set_cons_succ]
    refine draw_take 12 33 (v := ?_) rfl rfl (by kernel_rfl) (by kernel_rfl) (by kernel_rfl) (fun _ _ _ h => h) (by kernel_rfl) ?hy hHeld ?_
    case hy => (intro w' hSw; (try dsimp only at hSw); skip; go_simp; try (with_reducible rfl))
    simp only [Act.put, List.setIfInBounds_toArray, List.set_cons_zero, List.set_cons_succ]
    refine wpAnyH_ready (rs := [13]) (by kernel_rfl) (by simp) ?_
    refine AllReadyH.cons rfl (fun K hK => ?_) AllReadyH.nil
    go_simp
    (go_at_call 9; refine (hwo.out _).mono ?_; rintro e w3 ⟨rfl, hbq⟩)
    go_wp2_with fail
    refine hK.out _ _ (bthen hHeld hbq) (fun hHeld => ?_)
    clear hK K
    try simp only [Act.put, List.setIfInBounds_toArray, List.set_cons_zero, List.set_cons_succ]
    refine wpAnyH_ready (rs := [14]) (by kernel_rfl) (by simp) ?_
    refine AllReadyH.cons rfl (fun K hK => ?_) AllReadyH.nil
    go_simp
    (go_at_call 6; refine (has.out _).mono ?_; rintro e w4 ⟨rfl, hbq⟩)
    go_wp2_with fail
    refine hK.out _ _ (bthen hHeld hbq) (fun hHeld => ?_)
    clear hK K
    try simp only [Act.put, List.setIfInBounds_toArray, List.set_cons_zero, List.set_cons_succ]
    refine draw_take 15 36 (v := ?_) rfl rfl (by kernel_rfl) (by kernel_rfl) (by kernel_rfl) (fun _ _ _ h => h) (by kernel_rfl) ?hy hHeld ?_
    case hy => (intro w' hSw; (try dsimp only at hSw); skip; go_simp; try (with_reducible rfl))
    simp only [Act.put, List.setIfInBounds_toArray, List.set_cons_zero, List.set_cons_succ]
    refine draw_take 16 37 (v := ?_) rfl rfl (by kernel_rfl) (by kernel_rfl) (by kernel_rfl) (fun _ _ _ h => h) (by kernel_rfl) ?hy hHeld ?_
    case hy => (intro w' hSw; (try dsimp only at hSw); skip; go_simp; try (with_reducible rfl))
    simp only [Act.put, List.setIfInBounds_toArray, List.set_cons_zero, List.set_cons_succ]
    refine wpAnyH_done (by kernel_rfl) ?_ _
    go_wp2_with fail
    go_meet
    exact ⟨rfl, hHeld⟩
  case rest =>
    obtain ⟨rfl, hBc⟩ := hcut
    have k0 := cell_keep hBc k0
    have k1 := cell_keep hBc k1
    have Hs := Lib.hid (Hs.out.keep hBc)
    have Hr := Lib.hid (Hr.out.keep hBc)
    have Hhb := Lib.hid (Hhb.out.keep hBc (by simp))
    have hBa := Lib.hid (bthen hB5.out hBc)
    have hlb : w1.heap.size < wc.heap.size := by have := hBc.size; simp at this; omega
    clear hBc hB5 has hd1 hd2
    obtain ⟨wa, hwa⟩ : ∃ wa, wc = wa := ⟨_, rfl⟩
    subst hwa
    go_upto_region 4 with fail
    go_cut [7] (fun a wx => a = .int .i64 ((R : Int) * (Q : Int)) ∧ Below wc.heap.size wc wx)
    case first =>
      refine wp_region_held_drew (S := fun w' => Below wc.heap.size wc w') (by kernel_rfl) ((Below.refl _ _).drew) (fun hHeld => ?_)
      refine draw_take 0 39 (v := ?_) rfl rfl (by kernel_rfl) (by kernel_rfl) (by kernel_rfl) (fun _ _ _ h => h) (by kernel_rfl) ?hy hHeld ?_
      case hy => (intro w' hSw; (try dsimp only at hSw); have y0 := cell_keep hSw k0; have y1 := cell_keep hSw k1; go_simp; try (with_reducible rfl))
      simp only [Act.put, List.setIfInBounds_toArray, List.set_cons_zero, List.set_cons_succ]
      refine draw_take 1 40 (v := ?_) rfl rfl (by kernel_rfl) (by kernel_rfl) (by kernel_rfl) (fun _ _ _ h => h) (by kernel_rfl) ?hy hHeld ?_
      case hy => (intro w' hSw; (try dsimp only at hSw); have y0 := cell_keep hSw k0; have y1 := cell_keep hSw k1; go_simp; try (with_reducible rfl))
      simp only [Act.put, List.setIfInBounds_toArray, List.set_cons_zero, List.set_cons_succ]
      refine draw_take 2 41 (v := ?_) rfl rfl (by kernel_rfl) (by kernel_rfl) (by kernel_rfl) (fun _ _ _ h => h) (by kernel_rfl) ?hy hHeld ?_
      case hy => (intro w' hSw; (try dsimp only at hSw); have y0 := cell_keep hSw k0; have y1 := cell_keep hSw k1; go_simp; try (with_reducible rfl))
      simp only [Act.put, List.setIfInBounds_toArray, List.set_cons_zero, List.set_cons_succ]
      refine draw_take 3 42 (v := ?_) rfl rfl (by kernel_rfl) (by kernel_rfl) (by kernel_rfl) (fun _ _ _ h => h) (by kernel_rfl) ?hy hHeld ?_
      case hy => (intro w' hSw; (try dsimp only at hSw); have y0 := cell_keep hSw k0; have y1 := cell_keep hSw k1; go_simp; try (with_reducible rfl))
      simp only [Act.put, List.setIfInBounds_toArray, List.set_cons_zero, List.set_cons_succ]
      refine draw_take 4 43 (v := ?_) rfl rfl (by kernel_rfl) (by kernel_rfl) (by kernel_rfl) (fun _ _ _ h => h) (by kernel_rfl) ?hy hHeld ?_
      case hy => (intro w' hSw; (try dsimp only at hSw); have y0 := cell_keep hSw k0; have y1 := cell_keep hSw k1; go_simp; try (with_reducible rfl))
      simp only [Act.put, List.setIfInBounds_toArray, List.set_cons_zero, List.set_cons_succ]
      refine draw_take 5 44 (v := ?_) rfl rfl (by kernel_rfl) (by kernel_rfl) (by kernel_rfl) (fun _ _ _ h => h) (by kernel_rfl) ?hy hHeld ?_
      case hy => (intro w' hSw; (try dsimp only at hSw); have y0 := cell_keep hSw k0; have y1 := cell_keep hSw k1; go_simp; try (with_reducible rfl))
      simp only [Act.put, List.setIfInBounds_toArray, List.set_cons_zero, List.set_cons_succ]
      refine draw_take 6 45 (v := ?_) rfl rfl (by kernel_rfl) (by kernel_rfl) (by kernel_rfl) (fun _ _ _ h => h) (by kernel_rfl) ?hy hHeld ?_
      case hy => (intro w' hSw; (try dsimp only at hSw); have y0 := cell_keep hSw k0; have y1 := cell_keep hSw k1; go_simp; try (with_reducible rfl))
      simp only [Act.put, List.setIfInBounds_toArray, List.set_cons_zero, List.set_cons_succ]
      refine draw_take 7 46 (v := ?_) rfl rfl (by kernel_rfl) (by kernel_rfl) (by kernel_rfl) (fun _ _ _ h => h) (by kernel_rfl) ?hy hHeld ?_
      case hy => (intro w' hSw; (try dsimp only at hSw); have y0 := cell_keep hSw k0; have y1 := cell_keep hSw k1; go_simp; try (with_reducible rfl))
      simp only [Act.put, List.setIfInBounds_toArray, List.set_cons_zero, List.set_cons_succ]
      refine draw_take 8 47 (v := ?_) rfl rfl (by kernel_rfl) (by kernel_rfl) (by kernel_rfl) (fun _ _ _ h => h) (by kernel_rfl) ?hy hHeld ?_
      case hy => (intro w' hSw; (try dsimp only at hSw); have y0 := cell_keep hSw k0; have y1 := cell_keep hSw k1; go_simp; try (with_reducible rfl))
      simp only [Act.put, List.setIfInBounds_toArray, List.set_cons_zero, List.set_cons_succ]
      refine draw_take 9 7 (v := ?_) rfl rfl (by kernel_rfl) (by kernel_rfl) (by kernel_rfl) (fun _ _ _ h => h) (by kernel_rfl) ?hy hHeld ?_
      case hy => (intro w' hSw; (try dsimp only at hSw); have y0 := cell_keep hSw k0; have y1 := cell_keep hSw k1; go_simp; try (with_reducible rfl))
      simp only [Act.put, List.setIfInBounds_toArray, List.set_cons_zero, List.set_cons_succ]
      refine wpAnyH_done (by kernel_rfl) ?_ _
      go_wp2_with fail
      go_meet
      exact ⟨rfl, hHeld⟩
    case rest =>
      obtain ⟨rfl, hBd⟩ := hcut
      have k0 := cell_keep hBd k0
      have k1 := cell_keep hBd k1
      have Hs := Lib.hid (Hs.out.keep hBd)
      have Hr := Lib.hid (Hr.out.keep hBd)
      have Hhb := Lib.hid (Hhb.out.keep hBd hlb)
      have hBa := Lib.hid (bthen hBa.out hBd)
      have hlb := Nat.lt_of_lt_of_le hlb hBd.size
      clear hBd
      go_wp2_with fail
      refine (hnd.out _).mono ?_
      rintro e wd ⟨rfl, hbn⟩
      have k0 := cell_keep hbn k0
      have k1 := cell_keep hbn k1
      have Hs := Lib.hid (Hs.out.keep hbn)
      have Hr := Lib.hid (Hr.out.keep hbn)
      have Hhb := Lib.hid (Hhb.out.keep hbn hlb)
      have hBa := Lib.hid (bthen (bthen hbx.out hBa.out) hbn)
      have hlb := Nat.lt_of_lt_of_le hlb hbn.size
      clear hbn hnd
      by_cases h0 : 0 < kk
      · have h0i : (0 : Int) < kk := by omega
        have hz2 : ¬ ((kk : Int) = 0) := by omega
        have hq3 : (R : Int) / (kk : Int) = (MO : Int) := by rw [Hmo.out, if_pos h0, Int.natCast_ediv]
        have hq4 : IntKind.i64.wrap (MO : Int) = (MO : Int) := by rw [IntKind.wrap_i64]; omega
        go_wp2
        go_loopw [9] (fun u wr => ∃ t : Nat, t ≤ MO ∧ u = .int .i64 t ∧ ∃ (h : Hp) (p : Option Addr) (n c : Nat) (q : Option Addr) (m d : Nat), Ch t h ∧ OwnL wr w1.heap.size [.int .i64 h.pw, .int .i64 h.np, .slice p n c, .slice q m d, .int .i64 h.space, .int .i64 h.bump] ∧ SRow wr .u64 p n c h.words ∧ PRow wr q m d h.pages ∧ (∀ ad, q = some ad → ad.block ≠ w1.heap.size) ∧ Below w1.heap.size wd wr) (fun u _ => MO - (intOf u).toNat)
        case atStart => exact ⟨0, Nat.zero_le _, rfl, _, p, nn, c, q, m, d, Ch0.out, Hhb.out, Hs.out, Hr.out, Hqb.out, Below.refl _ _⟩
        case round =>
          obtain ⟨t, ht, rfl, ⟨P', M', ws, ps, sp, bp⟩, p, n, c, q, m, d, hch, hhb, hsr, hpr, hqb, hbl⟩ := hrel
          obtain ⟨hok, e1, e2⟩ := Chok.out _ _ hch
          simp only at e1 e2 hhb hsr hpr
          subst e1 e2
          have k0 : wr.cell? ⟨w.heap.size, 0, none⟩ = some (.int .i64 P) := by rw [hbl.cell (show w.heap.size < w1.heap.size by omega)]; exact k0
          have k1 : wr.cell? ⟨w.heap.size, 1, none⟩ = some (.int .i64 M) := by rw [hbl.cell (show w.heap.size < w1.heap.size by omega)]; exact k1
          have hlb : w1.heap.size < wr.heap.size := Nat.lt_of_lt_of_le hlb hbl.size
          have hns := Lib.hid (fun w' (hb : Below wr.heap.size wr w') => new_step (L := L) p q n c m d w' (hsr.keep hb) (hpr.keep hb) hok Ha.out)
          have Hhb := Lib.hid hhb
          have HBl := Lib.hid hbl
          obtain ⟨HN, hHN⟩ : ∃ HN, Hid (stepH ⟨P, M, ws, ps, sp, bp⟩ 3 L 0 = HN) := ⟨_, rfl⟩
          obtain ⟨OK, hOK⟩ : ∃ OK, Hid (placeOK ⟨P, M, ws, ps, sp, bp⟩ (L + 1) = OK) := ⟨_, rfl⟩
          obtain ⟨A, hA⟩ : ∃ A, Hid (placeA ⟨P, M, ws, ps, sp, bp⟩ (L + 1) = A) := ⟨_, rfl⟩
          rw [hHN.out, hOK.out, hA.out] at hns
          have hnw := hns
          clear hhb hsr hpr hqb hbl hns
          by_cases hlt : t < MO
          · obtain ⟨h1, h2, h3⟩ := Chst.out t _ hch hlt
            rw [hHN.out] at h2 h3
            have HOK := Lib.hid (hOK.out.symm.trans h1)
            have Hch2 := Lib.hid h2
            obtain ⟨I, hI⟩ : ∃ I : Int, Hid ((inUse HN.pages : Int) = I) := ⟨_, rfl⟩
            have hgt : decide ((R : Int) < I) = false := decide_eq_false (by rw [← hI.out]; omega)
            have hti : (t : Int) < (MO : Int) := by omega
            clear h1 h2 h3 hch hok
            go_upto_region 11 with fail
            go_cut [10, 11, 12] (fun ta tb tc wx => NvCut wr OK HN A ta tb tc wx)
            case first =>
              refine wp_region_held_drew (S := fun w' => Below wr.heap.size wr w') (by kernel_rfl) ((Below.refl _ _).drew) (fun hHeld => ?_)
              refine draw_take 0 65 (v := ?_) rfl rfl (by kernel_rfl) (by kernel_rfl) (by kernel_rfl) (fun _ _ _ h => h) (by kernel_rfl) ?hy hHeld ?_
              case hy => (intro w' hSw; (try dsimp only at hSw); have x0 := cell_keep hSw (Hhb.out.cell 0 _ rfl); have x1 := cell_keep hSw (Hhb.out.cell 1 _ rfl); have x2 := cell_keep hSw (Hhb.out.cell 2 _ rfl); have x3 := cell_keep hSw (Hhb.out.cell 3 _ rfl); have x4 := cell_keep hSw (Hhb.out.cell 4 _ rfl); have x5 := cell_keep hSw (Hhb.out.cell 5 _ rfl); go_simp; try (with_reducible rfl))
              simp only [Act.put, List.setIfInBounds_toArray, List.set_cons_zero, List.set_cons_succ]
              refine draw_take 1 66 (v := ?_) rfl rfl (by kernel_rfl) (by kernel_rfl) (by kernel_rfl) (fun _ _ _ h => h) (by kernel_rfl) ?hy hHeld ?_
              case hy => (intro w hSw; (try dsimp only at hSw); go_simp; try (with_reducible rfl))
              simp only [Act.put, List.setIfInBounds_toArray, List.set_cons_zero, List.set_cons_succ]
              refine wpAnyH_ready (rs := [2, 8]) (by kernel_rfl) (by simp) ?_
              refine AllReadyH.cons rfl (fun K hK => ?_) (AllReadyH.cons rfl (fun K hK => ?_) AllReadyH.nil)
              · go_simp
                (go_at_call 9; refine (hwo.out _).mono ?_; rintro e w3 ⟨rfl, hbq⟩)
                go_wp2_with fail
                refine hK.out _ _ (bthen hHeld hbq) (fun hHeld => ?_)
                clear hK K
                try simp only [Act.put, List.setIfInBounds_toArray, List.set_cons_zero, List.set_cons_succ]
                refine wpAnyH_ready (rs := [3, 8]) (by kernel_rfl) (by simp) ?_
                refine AllReadyH.cons rfl (fun K hK => ?_) (AllReadyH.cons rfl (fun K hK => ?_) AllReadyH.nil)
                · have hszB := hHeld.size
                  go_simp
                  (go_at_call 11; refine (hnw.out _ hHeld).mono ?_; rintro e w4 ⟨hret, hbq⟩)
                  rcases hret with ⟨hok, p7, n7, c7, q7, m7, d7, rfl, hsr, hown⟩ | ⟨hok, rfl⟩
                  · subst hok
                    go_wp2_with fail
                    refine hK.out _ _ (bthen hHeld hbq) (fun hHeld => ?_)
                    clear hK K
                    try simp only [Act.put, List.setIfInBounds_toArray, List.set_cons_zero, List.set_cons_succ]
                    refine draw_take 4 64 (v := ?_) rfl rfl (by kernel_rfl) (by kernel_rfl) (by kernel_rfl) (fun _ _ _ h => h) (by kernel_rfl) ?hy hHeld ?_
                    case hy => (intro w hSw; (try dsimp only at hSw); go_simp; try (with_reducible rfl))
                    simp only [Act.put, List.setIfInBounds_toArray, List.set_cons_zero, List.set_cons_succ]
                    refine draw_take 5 69 (v := ?_) rfl rfl (by kernel_rfl) (by kernel_rfl) (by kernel_rfl) (fun _ _ _ h => h) (by kernel_rfl) ?hy hHeld ?_
                    case hy => (intro w hSw; (try dsimp only at hSw); go_simp; try (with_reducible rfl))
                    simp only [Act.put, List.setIfInBounds_toArray, List.set_cons_zero, List.set_cons_succ]
                    refine draw_take 6 70 (v := ?_) rfl rfl (by kernel_rfl) (by kernel_rfl) (by kernel_rfl) (fun _ _ _ h => h) (by kernel_rfl) ?hy hHeld ?_
                    case hy => (intro w hSw; (try dsimp only at hSw); go_simp; try (with_reducible rfl))
                    simp only [Act.put, List.setIfInBounds_toArray, List.set_cons_zero, List.set_cons_succ]
                    refine draw_take 7 71 (v := ?_) rfl rfl (by kernel_rfl) (by kernel_rfl) (by kernel_rfl) (fun _ _ _ h => h) (by kernel_rfl) ?hy hHeld ?_
                    case hy => (intro w hSw; (try dsimp only at hSw); go_simp; try (with_reducible rfl))
                    simp only [Act.put, List.setIfInBounds_toArray, List.set_cons_zero, List.set_cons_succ]
                    have hB4 := hHeld
                    refine wpAnyH_ready (rs := [8]) (by kernel_rfl) (by simp) ?_
                    refine AllReadyH.cons rfl (fun K hK => ?_) AllReadyH.nil
                    go_simp
                    refine hK.out _ _ (bthen hHeld below_box) (fun hHeld => ?_)
                    clear hK K
                    try simp only [Act.put, List.setIfInBounds_toArray, List.set_cons_zero, List.set_cons_succ]
                    refine wpAnyH_ready (rs := [9]) (by kernel_rfl) (by simp) ?_
                    refine AllReadyH.cons rfl (fun K hK => ?_) AllReadyH.nil
                    go_simp
                    refine hK.out _ _ (bthen hB4 below_box) (fun hHeld => ?_)
                    clear hK K
                    try simp only [Act.put, List.setIfInBounds_toArray, List.set_cons_zero, List.set_cons_succ]
                    refine draw_take 10 11 (v := ?_) rfl rfl (by kernel_rfl) (by kernel_rfl) (by kernel_rfl) (fun _ _ _ h => h) (by kernel_rfl) ?hy hHeld ?_
                    case hy => (intro w hSw; (try dsimp only at hSw); go_simp; try (with_reducible rfl))
                    simp only [Act.put, List.setIfInBounds_toArray, List.set_cons_zero, List.set_cons_succ]
                    refine draw_take 11 12 (v := ?_) rfl rfl (by kernel_rfl) (by kernel_rfl) (by kernel_rfl) (fun _ _ _ h => h) (by kernel_rfl) ?hy hHeld ?_
                    case hy => (intro w hSw; (try dsimp only at hSw); go_simp; try (with_reducible rfl))
                    simp only [Act.put, List.setIfInBounds_toArray, List.set_cons_zero, List.set_cons_succ]
                    refine wpAnyH_done (by kernel_rfl) ?_ _
                    go_wp2_with fail
                    go_meet
                    exact nv_new hB4 hsr hown hszB
                  · subst hok
                    go_wp2_with fail
                    refine hK.out _ _ (bthen hHeld hbq) (fun hHeld => ?_)
                    clear hK K
                    try simp only [Act.put, List.setIfInBounds_toArray, List.set_cons_zero, List.set_cons_succ]
                    refine draw_take 4 64 (v := ?_) rfl rfl (by kernel_rfl) (by kernel_rfl) (by kernel_rfl) (fun _ _ _ h => h) (by kernel_rfl) ?hy hHeld ?_
                    case hy => (intro w hSw; (try dsimp only at hSw); go_simp; try (with_reducible rfl))
                    simp only [Act.put, List.setIfInBounds_toArray, List.set_cons_zero, List.set_cons_succ]
                    refine draw_take 5 69 (v := ?_) rfl rfl (by kernel_rfl) (by kernel_rfl) (by kernel_rfl) (fun _ _ _ h => h) (by kernel_rfl) ?hy hHeld ?_
                    case hy => (intro w hSw; (try dsimp only at hSw); go_simp; try (with_reducible rfl))
                    simp only [Act.put, List.setIfInBounds_toArray, List.set_cons_zero, List.set_cons_succ]
                    refine draw_take 6 70 (v := ?_) rfl rfl (by kernel_rfl) (by kernel_rfl) (by kernel_rfl) (fun _ _ _ h => h) (by kernel_rfl) ?hy hHeld ?_
                    case hy => (intro w hSw; (try dsimp only at hSw); go_simp; try (with_reducible rfl))
                    simp only [Act.put, List.setIfInBounds_toArray, List.set_cons_zero, List.set_cons_succ]
                    refine draw_take 7 71 (v := ?_) rfl rfl (by kernel_rfl) (by kernel_rfl) (by kernel_rfl) (fun _ _ _ h => h) (by kernel_rfl) ?hy hHeld ?_
                    case hy => (intro w hSw; (try dsimp only at hSw); go_simp; try (with_reducible rfl))
                    simp only [Act.put, List.setIfInBounds_toArray, List.set_cons_zero, List.set_cons_succ]
                    have hB4 := hHeld
                    refine wpAnyH_ready (rs := [8]) (by kernel_rfl) (by simp) ?_
                    refine AllReadyH.cons rfl (fun K hK => ?_) AllReadyH.nil
                    go_simp
                    refine hK.out _ _ (bthen hHeld below_box) (fun hHeld => ?_)
                    clear hK K
                    try simp only [Act.put, List.setIfInBounds_toArray, List.set_cons_zero, List.set_cons_succ]
                    refine wpAnyH_ready (rs := [9]) (by kernel_rfl) (by simp) ?_
                    refine AllReadyH.cons rfl (fun K hK => ?_) AllReadyH.nil
                    go_simp
                    refine hK.out _ _ (bthen hB4 below_box) (fun hHeld => ?_)
                    clear hK K
                    try simp only [Act.put, List.setIfInBounds_toArray, List.set_cons_zero, List.set_cons_succ]
                    refine draw_take 10 11 (v := ?_) rfl rfl (by kernel_rfl) (by kernel_rfl) (by kernel_rfl) (fun _ _ _ h => h) (by kernel_rfl) ?hy hHeld ?_
                    case hy => (intro w hSw; (try dsimp only at hSw); go_simp; try (with_reducible rfl))
                    simp only [Act.put, List.setIfInBounds_toArray, List.set_cons_zero, List.set_cons_succ]
                    refine draw_take 11 12 (v := ?_) rfl rfl (by kernel_rfl) (by kernel_rfl) (by kernel_rfl) (fun _ _ _ h => h) (by kernel_rfl) ?hy hHeld ?_
                    case hy => (intro w hSw; (try dsimp only at hSw); go_simp; try (with_reducible rfl))
                    simp only [Act.put, List.setIfInBounds_toArray, List.set_cons_zero, List.set_cons_succ]
                    refine wpAnyH_done (by kernel_rfl) ?_ _
                    go_wp2_with fail
                    go_meet
                    exact nv_no (bthen hB4 below_box)
                · have hgW := hHeld.size
                  have Hob := Lib.hid (OwnL.new w3 [.int .i64 0, .int .i64 0, .slice none 0 0, .slice none 0 0, .int .i64 0, .int .i64 0] 32)
                  go_simp
                  refine hK.out _ _ (bthen hHeld below_box) (fun hHeld => ?_)
                  clear hK K
                  try simp only [Act.put, List.setIfInBounds_toArray, List.set_cons_zero, List.set_cons_succ]
                  refine wpAnyH_ready (rs := [3]) (by kernel_rfl) (by simp) ?_
                  refine AllReadyH.cons rfl (fun K hK => ?_) AllReadyH.nil
                  have hszB := hHeld.size
                  have hgB := Hob.out.lt rfl
                  go_simp
                  (go_at_call 11; refine (hnw.out _ hHeld).mono ?_; rintro e w4 ⟨hret, hbq⟩)
                  rcases hret with ⟨hok, p7, n7, c7, q7, m7, d7, rfl, hsr, hown⟩ | ⟨hok, rfl⟩
                  · subst hok
                    go_wp2_with fail
                    refine hK.out _ _ (bthen hHeld hbq) (fun hHeld => ?_)
                    clear hK K
                    try simp only [Act.put, List.setIfInBounds_toArray, List.set_cons_zero, List.set_cons_succ]
                    refine draw_take 4 64 (v := ?_) rfl rfl (by kernel_rfl) (by kernel_rfl) (by kernel_rfl) (fun _ _ _ h => h) (by kernel_rfl) ?hy hHeld ?_
                    case hy => (intro w hSw; (try dsimp only at hSw); go_simp; try (with_reducible rfl))
                    simp only [Act.put, List.setIfInBounds_toArray, List.set_cons_zero, List.set_cons_succ]
                    refine draw_take 5 69 (v := ?_) rfl rfl (by kernel_rfl) (by kernel_rfl) (by kernel_rfl) (fun _ _ _ h => h) (by kernel_rfl) ?hy hHeld ?_
                    case hy => (intro w hSw; (try dsimp only at hSw); go_simp; try (with_reducible rfl))
                    simp only [Act.put, List.setIfInBounds_toArray, List.set_cons_zero, List.set_cons_succ]
                    refine draw_take 6 70 (v := ?_) rfl rfl (by kernel_rfl) (by kernel_rfl) (by kernel_rfl) (fun _ _ _ h => h) (by kernel_rfl) ?hy hHeld ?_
                    case hy => (intro w hSw; (try dsimp only at hSw); go_simp; try (with_reducible rfl))
                    simp only [Act.put, List.setIfInBounds_toArray, List.set_cons_zero, List.set_cons_succ]
                    refine draw_take 7 71 (v := ?_) rfl rfl (by kernel_rfl) (by kernel_rfl) (by kernel_rfl) (fun _ _ _ h => h) (by kernel_rfl) ?hy hHeld ?_
                    case hy => (intro w hSw; (try dsimp only at hSw); go_simp; try (with_reducible rfl))
                    simp only [Act.put, List.setIfInBounds_toArray, List.set_cons_zero, List.set_cons_succ]
                    have hOb := Lib.hid (Hob.out.keep hbq (Hob.out.lt rfl))
                    have s0 := hOb.out.cell 0 _ rfl
                    have s1 := hOb.out.cell 1 _ rfl
                    have s2 := hOb.out.cell 2 _ rfl
                    have s3 := hOb.out.cell 3 _ rfl
                    have s4 := hOb.out.cell 4 _ rfl
                    have s5 := hOb.out.cell 5 _ rfl
                    have r0 := hOb.out.free 0
                    have r1 := hOb.out.free 1
                    have r2 := hOb.out.free 2
                    have r3 := hOb.out.free 3
                    have r4 := hOb.out.free 4
                    have r5 := hOb.out.free 5
                    have hB4 := hHeld
                    refine wpAnyH_ready (rs := [9]) (by kernel_rfl) (by simp) ?_
                    refine AllReadyH.cons rfl (fun K hK => ?_) AllReadyH.nil
                    go_simp
                    refine hK.out _ _ (below_set6 hB4 hgW) (fun hHeld => ?_)
                    clear hK K
                    try simp only [Act.put, List.setIfInBounds_toArray, List.set_cons_zero, List.set_cons_succ]
                    refine draw_take 10 11 (v := ?_) rfl rfl (by kernel_rfl) (by kernel_rfl) (by kernel_rfl) (fun _ _ _ h => h) (by kernel_rfl) ?hy hHeld ?_
                    case hy => (intro w hSw; (try dsimp only at hSw); go_simp; try (with_reducible rfl))
                    simp only [Act.put, List.setIfInBounds_toArray, List.set_cons_zero, List.set_cons_succ]
                    refine draw_take 11 12 (v := ?_) rfl rfl (by kernel_rfl) (by kernel_rfl) (by kernel_rfl) (fun _ _ _ h => h) (by kernel_rfl) ?hy hHeld ?_
                    case hy => (intro w hSw; (try dsimp only at hSw); go_simp; try (with_reducible rfl))
                    simp only [Act.put, List.setIfInBounds_toArray, List.set_cons_zero, List.set_cons_succ]
                    refine wpAnyH_done (by kernel_rfl) ?_ _
                    go_wp2_with fail
                    go_meet
                    exact nv_yes hB4 hgW hOb.out hsr hown hgB hszB
                  · subst hok
                    go_wp2_with fail
                    refine hK.out _ _ (bthen hHeld hbq) (fun hHeld => ?_)
                    clear hK K
                    try simp only [Act.put, List.setIfInBounds_toArray, List.set_cons_zero, List.set_cons_succ]
                    refine draw_take 4 64 (v := ?_) rfl rfl (by kernel_rfl) (by kernel_rfl) (by kernel_rfl) (fun _ _ _ h => h) (by kernel_rfl) ?hy hHeld ?_
                    case hy => (intro w hSw; (try dsimp only at hSw); go_simp; try (with_reducible rfl))
                    simp only [Act.put, List.setIfInBounds_toArray, List.set_cons_zero, List.set_cons_succ]
                    refine draw_take 5 69 (v := ?_) rfl rfl (by kernel_rfl) (by kernel_rfl) (by kernel_rfl) (fun _ _ _ h => h) (by kernel_rfl) ?hy hHeld ?_
                    case hy => (intro w hSw; (try dsimp only at hSw); go_simp; try (with_reducible rfl))
                    simp only [Act.put, List.setIfInBounds_toArray, List.set_cons_zero, List.set_cons_succ]
                    refine draw_take 6 70 (v := ?_) rfl rfl (by kernel_rfl) (by kernel_rfl) (by kernel_rfl) (fun _ _ _ h => h) (by kernel_rfl) ?hy hHeld ?_
                    case hy => (intro w hSw; (try dsimp only at hSw); go_simp; try (with_reducible rfl))
                    simp only [Act.put, List.setIfInBounds_toArray, List.set_cons_zero, List.set_cons_succ]
                    refine draw_take 7 71 (v := ?_) rfl rfl (by kernel_rfl) (by kernel_rfl) (by kernel_rfl) (fun _ _ _ h => h) (by kernel_rfl) ?hy hHeld ?_
                    case hy => (intro w hSw; (try dsimp only at hSw); go_simp; try (with_reducible rfl))
                    simp only [Act.put, List.setIfInBounds_toArray, List.set_cons_zero, List.set_cons_succ]
                    have hOb := Lib.hid (Hob.out.keep hbq (Hob.out.lt rfl))
                    have s0 := hOb.out.cell 0 _ rfl
                    have s1 := hOb.out.cell 1 _ rfl
                    have s2 := hOb.out.cell 2 _ rfl
                    have s3 := hOb.out.cell 3 _ rfl
                    have s4 := hOb.out.cell 4 _ rfl
                    have s5 := hOb.out.cell 5 _ rfl
                    have r0 := hOb.out.free 0
                    have r1 := hOb.out.free 1
                    have r2 := hOb.out.free 2
                    have r3 := hOb.out.free 3
                    have r4 := hOb.out.free 4
                    have r5 := hOb.out.free 5
                    have hB4 := hHeld
                    refine wpAnyH_ready (rs := [9]) (by kernel_rfl) (by simp) ?_
                    refine AllReadyH.cons rfl (fun K hK => ?_) AllReadyH.nil
                    go_simp
                    refine hK.out _ _ (below_set6 hB4 hgW) (fun hHeld => ?_)
                    clear hK K
                    try simp only [Act.put, List.setIfInBounds_toArray, List.set_cons_zero, List.set_cons_succ]
                    refine draw_take 10 11 (v := ?_) rfl rfl (by kernel_rfl) (by kernel_rfl) (by kernel_rfl) (fun _ _ _ h => h) (by kernel_rfl) ?hy hHeld ?_
                    case hy => (intro w hSw; (try dsimp only at hSw); go_simp; try (with_reducible rfl))
                    simp only [Act.put, List.setIfInBounds_toArray, List.set_cons_zero, List.set_cons_succ]
                    refine draw_take 11 12 (v := ?_) rfl rfl (by kernel_rfl) (by kernel_rfl) (by kernel_rfl) (fun _ _ _ h => h) (by kernel_rfl) ?hy hHeld ?_
                    case hy => (intro w hSw; (try dsimp only at hSw); go_simp; try (with_reducible rfl))
                    simp only [Act.put, List.setIfInBounds_toArray, List.set_cons_zero, List.set_cons_succ]
                    refine wpAnyH_done (by kernel_rfl) ?_ _
                    go_wp2_with fail
                    go_meet
                    exact nv_no (below_set6 hB4 hgW)
              · have hgW : wr.heap.size ≤ wr.heap.size := Nat.le_refl _
                have Hob := Lib.hid (OwnL.new wr.drew [.int .i64 0, .int .i64 0, .slice none 0 0, .slice none 0 0, .int .i64 0, .int .i64 0] 32)
                simp only [World.size_drew] at Hob
                go_simp
                refine hK.out _ _ (bthen hHeld below_box) (fun hHeld => ?_)
                clear hK K
                try simp only [Act.put, List.setIfInBounds_toArray, List.set_cons_zero, List.set_cons_succ]
                refine wpAnyH_ready (rs := [2]) (by kernel_rfl) (by simp) ?_
                refine AllReadyH.cons rfl (fun K hK => ?_) AllReadyH.nil
                go_simp
                (go_at_call 9; refine (hwo.out _).mono ?_; rintro e w3 ⟨rfl, hbq⟩)
                have Hob := Lib.hid (Hob.out.keep hbq (Hob.out.lt rfl))
                go_wp2_with fail
                refine hK.out _ _ (bthen hHeld hbq) (fun hHeld => ?_)
                clear hK K
                try simp only [Act.put, List.setIfInBounds_toArray, List.set_cons_zero, List.set_cons_succ]
                refine wpAnyH_ready (rs := [3]) (by kernel_rfl) (by simp) ?_
                refine AllReadyH.cons rfl (fun K hK => ?_) AllReadyH.nil
                have hszB := hHeld.size
                have hgB := Hob.out.lt rfl
                go_simp
                (go_at_call 11; refine (hnw.out _ hHeld).mono ?_; rintro e w4 ⟨hret, hbq⟩)
                rcases hret with ⟨hok, p7, n7, c7, q7, m7, d7, rfl, hsr, hown⟩ | ⟨hok, rfl⟩
                · subst hok
                  go_wp2_with fail
                  refine hK.out _ _ (bthen hHeld hbq) (fun hHeld => ?_)
                  clear hK K
                  try simp only [Act.put, List.setIfInBounds_toArray, List.set_cons_zero, List.set_cons_succ]
                  refine draw_take 4 64 (v := ?_) rfl rfl (by kernel_rfl) (by kernel_rfl) (by kernel_rfl) (fun _ _ _ h => h) (by kernel_rfl) ?hy hHeld ?_
                  case hy => (intro w hSw; (try dsimp only at hSw); go_simp; try (with_reducible rfl))
                  simp only [Act.put, List.setIfInBounds_toArray, List.set_cons_zero, List.set_cons_succ]
                  refine draw_take 5 69 (v := ?_) rfl rfl (by kernel_rfl) (by kernel_rfl) (by kernel_rfl) (fun _ _ _ h => h) (by kernel_rfl) ?hy hHeld ?_
                  case hy => (intro w hSw; (try dsimp only at hSw); go_simp; try (with_reducible rfl))
                  simp only [Act.put, List.setIfInBounds_toArray, List.set_cons_zero, List.set_cons_succ]
                  refine draw_take 6 70 (v := ?_) rfl rfl (by kernel_rfl) (by kernel_rfl) (by kernel_rfl) (fun _ _ _ h => h) (by kernel_rfl) ?hy hHeld ?_
                  case hy => (intro w hSw; (try dsimp only at hSw); go_simp; try (with_reducible rfl))
                  simp only [Act.put, List.setIfInBounds_toArray, List.set_cons_zero, List.set_cons_succ]
                  refine draw_take 7 71 (v := ?_) rfl rfl (by kernel_rfl) (by kernel_rfl) (by kernel_rfl) (fun _ _ _ h => h) (by kernel_rfl) ?hy hHeld ?_
                  case hy => (intro w hSw; (try dsimp only at hSw); go_simp; try (with_reducible rfl))
                  simp only [Act.put, List.setIfInBounds_toArray, List.set_cons_zero, List.set_cons_succ]
                  have hOb := Lib.hid (Hob.out.keep hbq (Hob.out.lt rfl))
                  have s0 := hOb.out.cell 0 _ rfl
                  have s1 := hOb.out.cell 1 _ rfl
                  have s2 := hOb.out.cell 2 _ rfl
                  have s3 := hOb.out.cell 3 _ rfl
                  have s4 := hOb.out.cell 4 _ rfl
                  have s5 := hOb.out.cell 5 _ rfl
                  have r0 := hOb.out.free 0
                  have r1 := hOb.out.free 1
                  have r2 := hOb.out.free 2
                  have r3 := hOb.out.free 3
                  have r4 := hOb.out.free 4
                  have r5 := hOb.out.free 5
                  have hB4 := hHeld
                  refine wpAnyH_ready (rs := [9]) (by kernel_rfl) (by simp) ?_
                  refine AllReadyH.cons rfl (fun K hK => ?_) AllReadyH.nil
                  go_simp
                  refine hK.out _ _ (below_set6 hB4 hgW) (fun hHeld => ?_)
                  clear hK K
                  try simp only [Act.put, List.setIfInBounds_toArray, List.set_cons_zero, List.set_cons_succ]
                  refine draw_take 10 11 (v := ?_) rfl rfl (by kernel_rfl) (by kernel_rfl) (by kernel_rfl) (fun _ _ _ h => h) (by kernel_rfl) ?hy hHeld ?_
                  case hy => (intro w hSw; (try dsimp only at hSw); go_simp; try (with_reducible rfl))
                  simp only [Act.put, List.setIfInBounds_toArray, List.set_cons_zero, List.set_cons_succ]
                  refine draw_take 11 12 (v := ?_) rfl rfl (by kernel_rfl) (by kernel_rfl) (by kernel_rfl) (fun _ _ _ h => h) (by kernel_rfl) ?hy hHeld ?_
                  case hy => (intro w hSw; (try dsimp only at hSw); go_simp; try (with_reducible rfl))
                  simp only [Act.put, List.setIfInBounds_toArray, List.set_cons_zero, List.set_cons_succ]
                  refine wpAnyH_done (by kernel_rfl) ?_ _
                  go_wp2_with fail
                  go_meet
                  exact nv_yes hB4 hgW hOb.out hsr hown hgB hszB
                · subst hok
                  go_wp2_with fail
                  refine hK.out _ _ (bthen hHeld hbq) (fun hHeld => ?_)
                  clear hK K
                  try simp only [Act.put, List.setIfInBounds_toArray, List.set_cons_zero, List.set_cons_succ]
                  refine draw_take 4 64 (v := ?_) rfl rfl (by kernel_rfl) (by kernel_rfl) (by kernel_rfl) (fun _ _ _ h => h) (by kernel_rfl) ?hy hHeld ?_
                  case hy => (intro w hSw; (try dsimp only at hSw); go_simp; try (with_reducible rfl))
                  simp only [Act.put, List.setIfInBounds_toArray, List.set_cons_zero, List.set_cons_succ]
                  refine draw_take 5 69 (v := ?_) rfl rfl (by kernel_rfl) (by kernel_rfl) (by kernel_rfl) (fun _ _ _ h => h) (by kernel_rfl) ?hy hHeld ?_
                  case hy => (intro w hSw; (try dsimp only at hSw); go_simp; try (with_reducible rfl))
                  simp only [Act.put, List.setIfInBounds_toArray, List.set_cons_zero, List.set_cons_succ]
                  refine draw_take 6 70 (v := ?_) rfl rfl (by kernel_rfl) (by kernel_rfl) (by kernel_rfl) (fun _ _ _ h => h) (by kernel_rfl) ?hy hHeld ?_
                  case hy => (intro w hSw; (try dsimp only at hSw); go_simp; try (with_reducible rfl))
                  simp only [Act.put, List.setIfInBounds_toArray, List.set_cons_zero, List.set_cons_succ]
                  refine draw_take 7 71 (v := ?_) rfl rfl (by kernel_rfl) (by kernel_rfl) (by kernel_rfl) (fun _ _ _ h => h) (by kernel_rfl) ?hy hHeld ?_
                  case hy => (intro w hSw; (try dsimp only at hSw); go_simp; try (with_reducible rfl))
                  simp only [Act.put, List.setIfInBounds_toArray, List.set_cons_zero, List.set_cons_succ]
                  have hOb := Lib.hid (Hob.out.keep hbq (Hob.out.lt rfl))
                  have s0 := hOb.out.cell 0 _ rfl
                  have s1 := hOb.out.cell 1 _ rfl
                  have s2 := hOb.out.cell 2 _ rfl
                  have s3 := hOb.out.cell 3 _ rfl
                  have s4 := hOb.out.cell 4 _ rfl
                  have s5 := hOb.out.cell 5 _ rfl
                  have r0 := hOb.out.free 0
                  have r1 := hOb.out.free 1
                  have r2 := hOb.out.free 2
                  have r3 := hOb.out.free 3
                  have r4 := hOb.out.free 4
                  have r5 := hOb.out.free 5
                  have hB4 := hHeld
                  refine wpAnyH_ready (rs := [9]) (by kernel_rfl) (by simp) ?_
                  refine AllReadyH.cons rfl (fun K hK => ?_) AllReadyH.nil
                  go_simp
                  refine hK.out _ _ (below_set6 hB4 hgW) (fun hHeld => ?_)
                  clear hK K
                  try simp only [Act.put, List.setIfInBounds_toArray, List.set_cons_zero, List.set_cons_succ]
                  refine draw_take 10 11 (v := ?_) rfl rfl (by kernel_rfl) (by kernel_rfl) (by kernel_rfl) (fun _ _ _ h => h) (by kernel_rfl) ?hy hHeld ?_
                  case hy => (intro w hSw; (try dsimp only at hSw); go_simp; try (with_reducible rfl))
                  simp only [Act.put, List.setIfInBounds_toArray, List.set_cons_zero, List.set_cons_succ]
                  refine draw_take 11 12 (v := ?_) rfl rfl (by kernel_rfl) (by kernel_rfl) (by kernel_rfl) (fun _ _ _ h => h) (by kernel_rfl) ?hy hHeld ?_
                  case hy => (intro w hSw; (try dsimp only at hSw); go_simp; try (with_reducible rfl))
                  simp only [Act.put, List.setIfInBounds_toArray, List.set_cons_zero, List.set_cons_succ]
                  refine wpAnyH_done (by kernel_rfl) ?_ _
                  go_wp2_with fail
                  go_meet
                  exact nv_no (below_set6 hB4 hgW)
            case rest =>
              obtain ⟨hBn, hyes, -⟩ := hcut
              have hyes := fun h => hyes (HOK.out.trans h)
              obtain ⟨rfl, rfl, g, p2, n2, c2, q2, m2, d2, rfl, hg, hOg, hsr, hown⟩ := hyes rfl
              obtain ⟨hpr, haw2⟩ := prow_away hown
              have k1 := cell_keep hBn k1
              have s3 := hOg.cell 3 _ rfl
              have hiu := Lib.hid (fun w' (hb : Below wc.heap.size wc w') => refInUse_b q2 m2 d2 HN.pages w' (hpr.keep hb))
              rw [hI.out] at hiu
              have HOg := Lib.hid hOg
              have hglt := hOg.lt rfl
              have Hsr := Lib.hid hsr
              have Hown := Lib.hid hown
              have Haw := Lib.hid haw2
              have Hhb2 := Lib.hid (Hhb.out.keep hBn hlb)
              have HBn := Lib.hid hBn
              have hlb2 : w1.heap.size < wc.heap.size := Nat.lt_of_lt_of_le hlb hBn.size
              clear hyes hpr hOg hsr hown haw2 hBn
              go_upto_region 12 with fail
              refine wp_region_held_drew (S := fun w' => Below wc.heap.size wc w') (by kernel_rfl) ((Below.refl _ _).drew) (fun hHeld => ?_)
              refine draw_take 0 72 (v := ?_) rfl rfl (by kernel_rfl) (by kernel_rfl) (by kernel_rfl) (fun _ _ _ h => h) (by kernel_rfl) ?hy hHeld ?_
              case hy => (intro w' hSw; (try dsimp only at hSw); have y0 := cell_keep hSw s3; have y1 := cell_keep hSw k1; go_simp; try (with_reducible rfl))
              simp only [Act.put, List.setIfInBounds_toArray, List.set_cons_zero, List.set_cons_succ]
              refine draw_take 1 73 (v := ?_) rfl rfl (by kernel_rfl) (by kernel_rfl) (by kernel_rfl) (fun _ _ _ h => h) (by kernel_rfl) ?hy hHeld ?_
              case hy => (intro w' hSw; (try dsimp only at hSw); have y0 := cell_keep hSw s3; have y1 := cell_keep hSw k1; go_simp; try (with_reducible rfl))
              simp only [Act.put, List.setIfInBounds_toArray, List.set_cons_zero, List.set_cons_succ]
              refine draw_take 2 74 (v := ?_) rfl rfl (by kernel_rfl) (by kernel_rfl) (by kernel_rfl) (fun _ _ _ h => h) (by kernel_rfl) ?hy hHeld ?_
              case hy => (intro w' hSw; (try dsimp only at hSw); have y0 := cell_keep hSw s3; have y1 := cell_keep hSw k1; go_simp; try (with_reducible rfl))
              simp only [Act.put, List.setIfInBounds_toArray, List.set_cons_zero, List.set_cons_succ]
              refine draw_take 3 75 (v := ?_) rfl rfl (by kernel_rfl) (by kernel_rfl) (by kernel_rfl) (fun _ _ _ h => h) (by kernel_rfl) ?hy hHeld ?_
              case hy => (intro w' hSw; (try dsimp only at hSw); have y0 := cell_keep hSw s3; have y1 := cell_keep hSw k1; go_simp; try (with_reducible rfl))
              simp only [Act.put, List.setIfInBounds_toArray, List.set_cons_zero, List.set_cons_succ]
              refine draw_take 4 76 (v := ?_) rfl rfl (by kernel_rfl) (by kernel_rfl) (by kernel_rfl) (fun _ _ _ h => h) (by kernel_rfl) ?hy hHeld ?_
              case hy => (intro w' hSw; (try dsimp only at hSw); have y0 := cell_keep hSw s3; have y1 := cell_keep hSw k1; go_simp; try (with_reducible rfl))
              simp only [Act.put, List.setIfInBounds_toArray, List.set_cons_zero, List.set_cons_succ]
              refine draw_take 6 78 (v := ?_) rfl rfl (by kernel_rfl) (by kernel_rfl) (by kernel_rfl) (fun _ _ _ h => h) (by kernel_rfl) ?hy hHeld ?_
              case hy => (intro w' hSw; (try dsimp only at hSw); have y0 := cell_keep hSw s3; have y1 := cell_keep hSw k1; go_simp; try (with_reducible rfl))
              simp only [Act.put, List.setIfInBounds_toArray, List.set_cons_zero, List.set_cons_succ]
              refine draw_take 7 79 (v := ?_) rfl rfl (by kernel_rfl) (by kernel_rfl) (by kernel_rfl) (fun _ _ _ h => h) (by kernel_rfl) ?hy hHeld ?_
              case hy => (intro w' hSw; (try dsimp only at hSw); have y0 := cell_keep hSw s3; have y1 := cell_keep hSw k1; go_simp; try (with_reducible rfl))
              simp only [Act.put, List.setIfInBounds_toArray, List.set_cons_zero, List.set_cons_succ]
              refine draw_take 8 80 (v := ?_) rfl rfl (by kernel_rfl) (by kernel_rfl) (by kernel_rfl) (fun _ _ _ h => h) (by kernel_rfl) ?hy hHeld ?_
              case hy => (intro w' hSw; (try dsimp only at hSw); have y0 := cell_keep hSw s3; have y1 := cell_keep hSw k1; go_simp; try (with_reducible rfl))
              simp only [Act.put, List.setIfInBounds_toArray, List.set_cons_zero, List.set_cons_succ]
              refine wpAnyH_ready (rs := [5]) (by kernel_rfl) (by simp) ?_
              refine AllReadyH.cons rfl (fun K hK => ?_) AllReadyH.nil
              go_simp
              (go_at_call 12; refine (hiu.out _ hHeld).mono ?_; rintro e w5 ⟨rfl, hbq⟩)
              go_wp2_with fail
              refine hK.out _ _ (bthen hHeld hbq) (fun hHeld => ?_)
              clear hK K
              try simp only [Act.put, List.setIfInBounds_toArray, List.set_cons_zero, List.set_cons_succ]
              refine draw_take 9 81 (v := ?_) rfl rfl (by kernel_rfl) (by kernel_rfl) (by kernel_rfl) (fun _ _ _ h => h) (by kernel_rfl) ?hy hHeld ?_
              case hy => (intro w' hSw; (try dsimp only at hSw); skip; go_simp; try (with_reducible rfl))
              simp only [Act.put, List.setIfInBounds_toArray, List.set_cons_zero, List.set_cons_succ]
              refine draw_take 10 82 (v := ?_) rfl rfl (by kernel_rfl) (by kernel_rfl) (by kernel_rfl) (fun _ _ _ h => h) (by kernel_rfl) ?hy hHeld ?_
              case hy => (intro w' hSw; (try dsimp only at hSw); skip; go_simp; try (with_reducible rfl))
              simp only [Act.put, List.setIfInBounds_toArray, List.set_cons_zero, List.set_cons_succ]
              refine wpAnyH_done (by kernel_rfl) ?_ _
              have hB5 := Lib.hid hHeld
              have HOg5 := HOg.out.keep hHeld hglt
              have Hhb5 := Lib.hid (Hhb2.out.keep hHeld hlb2)
              have hsr5 := Hsr.out.keep hHeld
              have hown5 := own_store6 (own_below Hown.out hHeld) hlb (.int .i64 HN.pw) (.int .i64 HN.np) (.slice p2 n2 c2) (.slice q2 m2 d2) (.int .i64 HN.space) (.int .i64 HN.bump)
              have Hpr6 := Lib.hid (prow_away hown5)
              have Hsr6 := Lib.hid (SRow.set6o hsr5 (Own6.ofL Hhb5.out) (fun x e => by cases e) (fun x e => by cases e) (fun x e => by cases e) (fun x e => by cases e) (fun x e => by cases e) (fun x e => by cases e) (.int .i64 HN.pw) (.int .i64 HN.np) (.slice p2 n2 c2) (.slice q2 m2 d2) (.int .i64 HN.space) (.int .i64 HN.bump))
              have Hhb6 := Lib.hid (ownL_store6 Hhb5.out (.int .i64 HN.pw) (.int .i64 HN.np) (.slice p2 n2 c2) (.slice q2 m2 d2) (.int .i64 HN.space) (.int .i64 HN.bump))
              have HB6 := Lib.hid (below_set6 (b := w1.heap.size) (x0 := .int .i64 HN.pw) (x1 := .int .i64 HN.np) (x2 := .slice p2 n2 c2) (x3 := .slice q2 m2 d2) (x4 := .int .i64 HN.space) (x5 := .int .i64 HN.bump) (HBl.out.trans ((bthen HBn.out hB5.out).mono (Nat.le_of_lt hlb))) (Nat.le_refl _))
              have s0 := HOg5.cell 0 _ rfl
              have s1 := HOg5.cell 1 _ rfl
              have s2 := HOg5.cell 2 _ rfl
              have s3 := HOg5.cell 3 _ rfl
              have s4 := HOg5.cell 4 _ rfl
              have s5 := HOg5.cell 5 _ rfl
              obtain ⟨c0, c1, c2', c3, c4, c5, f0, f1, f2, f3, f4, f5⟩ := Own6.ofL Hhb5.out
              have hgne : g ≠ w1.heap.size := by omega
              clear hHeld hsr5 hown5 HOg5 hiu hB5
              go_wp2
              go_roundw
              case rel => exact ⟨t + 1, by omega, by go_num, HN, p2, n2, c2, q2, m2, d2, Hch2.out, Hhb6.out, Hsr6.out, Hpr6.out.1, fun ad e => by have := Hpr6.out.2 ad e; omega, HB6.out⟩
              case measure => simp [intOf]; omega
          · obtain rfl : t = MO := by omega
            have hno := Chsp.out _ hch
            have HOK := Lib.hid (hOK.out.symm.trans hno)
            have HBw := Lib.hid (hBa.out.trans (HBl.out.mono (show w.heap.size ≤ w1.heap.size by omega)))
            clear hno hch hok
            go_upto_region 15 with fail
            go_cut [13, 14, 15] (fun ta tb tc wx => NvCut wr OK HN A ta tb tc wx)
            case first =>
              refine wp_region_held_drew (S := fun w' => Below wr.heap.size wr w') (by kernel_rfl) ((Below.refl _ _).drew) (fun hHeld => ?_)
              refine draw_take 0 85 (v := ?_) rfl rfl (by kernel_rfl) (by kernel_rfl) (by kernel_rfl) (fun _ _ _ h => h) (by kernel_rfl) ?hy hHeld ?_
              case hy => (intro w' hSw; (try dsimp only at hSw); have x0 := cell_keep hSw (Hhb.out.cell 0 _ rfl); have x1 := cell_keep hSw (Hhb.out.cell 1 _ rfl); have x2 := cell_keep hSw (Hhb.out.cell 2 _ rfl); have x3 := cell_keep hSw (Hhb.out.cell 3 _ rfl); have x4 := cell_keep hSw (Hhb.out.cell 4 _ rfl); have x5 := cell_keep hSw (Hhb.out.cell 5 _ rfl); go_simp; try (with_reducible rfl))
              simp only [Act.put, List.setIfInBounds_toArray, List.set_cons_zero, List.set_cons_succ]
              refine draw_take 1 86 (v := ?_) rfl rfl (by kernel_rfl) (by kernel_rfl) (by kernel_rfl) (fun _ _ _ h => h) (by kernel_rfl) ?hy hHeld ?_
              case hy => (intro w hSw; (try dsimp only at hSw); go_simp; try (with_reducible rfl))
              simp only [Act.put, List.setIfInBounds_toArray, List.set_cons_zero, List.set_cons_succ]
              refine wpAnyH_ready (rs := [2, 8]) (by kernel_rfl) (by simp) ?_
              refine AllReadyH.cons rfl (fun K hK => ?_) (AllReadyH.cons rfl (fun K hK => ?_) AllReadyH.nil)
              · go_simp
                (go_at_call 9; refine (hwo.out _).mono ?_; rintro e w3 ⟨rfl, hbq⟩)
                go_wp2_with fail
                refine hK.out _ _ (bthen hHeld hbq) (fun hHeld => ?_)
                clear hK K
                try simp only [Act.put, List.setIfInBounds_toArray, List.set_cons_zero, List.set_cons_succ]
                refine wpAnyH_ready (rs := [3, 8]) (by kernel_rfl) (by simp) ?_
                refine AllReadyH.cons rfl (fun K hK => ?_) (AllReadyH.cons rfl (fun K hK => ?_) AllReadyH.nil)
                · have hszB := hHeld.size
                  go_simp
                  (go_at_call 11; refine (hnw.out _ hHeld).mono ?_; rintro e w4 ⟨hret, hbq⟩)
                  rcases hret with ⟨hok, p7, n7, c7, q7, m7, d7, rfl, hsr, hown⟩ | ⟨hok, rfl⟩
                  · subst hok
                    go_wp2_with fail
                    refine hK.out _ _ (bthen hHeld hbq) (fun hHeld => ?_)
                    clear hK K
                    try simp only [Act.put, List.setIfInBounds_toArray, List.set_cons_zero, List.set_cons_succ]
                    refine draw_take 4 84 (v := ?_) rfl rfl (by kernel_rfl) (by kernel_rfl) (by kernel_rfl) (fun _ _ _ h => h) (by kernel_rfl) ?hy hHeld ?_
                    case hy => (intro w hSw; (try dsimp only at hSw); go_simp; try (with_reducible rfl))
                    simp only [Act.put, List.setIfInBounds_toArray, List.set_cons_zero, List.set_cons_succ]
                    refine draw_take 5 89 (v := ?_) rfl rfl (by kernel_rfl) (by kernel_rfl) (by kernel_rfl) (fun _ _ _ h => h) (by kernel_rfl) ?hy hHeld ?_
                    case hy => (intro w hSw; (try dsimp only at hSw); go_simp; try (with_reducible rfl))
                    simp only [Act.put, List.setIfInBounds_toArray, List.set_cons_zero, List.set_cons_succ]
                    refine draw_take 6 90 (v := ?_) rfl rfl (by kernel_rfl) (by kernel_rfl) (by kernel_rfl) (fun _ _ _ h => h) (by kernel_rfl) ?hy hHeld ?_
                    case hy => (intro w hSw; (try dsimp only at hSw); go_simp; try (with_reducible rfl))
                    simp only [Act.put, List.setIfInBounds_toArray, List.set_cons_zero, List.set_cons_succ]
                    refine draw_take 7 91 (v := ?_) rfl rfl (by kernel_rfl) (by kernel_rfl) (by kernel_rfl) (fun _ _ _ h => h) (by kernel_rfl) ?hy hHeld ?_
                    case hy => (intro w hSw; (try dsimp only at hSw); go_simp; try (with_reducible rfl))
                    simp only [Act.put, List.setIfInBounds_toArray, List.set_cons_zero, List.set_cons_succ]
                    have hB4 := hHeld
                    refine wpAnyH_ready (rs := [8]) (by kernel_rfl) (by simp) ?_
                    refine AllReadyH.cons rfl (fun K hK => ?_) AllReadyH.nil
                    go_simp
                    refine hK.out _ _ (bthen hHeld below_box) (fun hHeld => ?_)
                    clear hK K
                    try simp only [Act.put, List.setIfInBounds_toArray, List.set_cons_zero, List.set_cons_succ]
                    refine wpAnyH_ready (rs := [9]) (by kernel_rfl) (by simp) ?_
                    refine AllReadyH.cons rfl (fun K hK => ?_) AllReadyH.nil
                    go_simp
                    refine hK.out _ _ (bthen hB4 below_box) (fun hHeld => ?_)
                    clear hK K
                    try simp only [Act.put, List.setIfInBounds_toArray, List.set_cons_zero, List.set_cons_succ]
                    refine draw_take 10 14 (v := ?_) rfl rfl (by kernel_rfl) (by kernel_rfl) (by kernel_rfl) (fun _ _ _ h => h) (by kernel_rfl) ?hy hHeld ?_
                    case hy => (intro w hSw; (try dsimp only at hSw); go_simp; try (with_reducible rfl))
                    simp only [Act.put, List.setIfInBounds_toArray, List.set_cons_zero, List.set_cons_succ]
                    refine draw_take 11 15 (v := ?_) rfl rfl (by kernel_rfl) (by kernel_rfl) (by kernel_rfl) (fun _ _ _ h => h) (by kernel_rfl) ?hy hHeld ?_
                    case hy => (intro w hSw; (try dsimp only at hSw); go_simp; try (with_reducible rfl))
                    simp only [Act.put, List.setIfInBounds_toArray, List.set_cons_zero, List.set_cons_succ]
                    refine wpAnyH_done (by kernel_rfl) ?_ _
                    go_wp2_with fail
                    go_meet
                    exact nv_new hB4 hsr hown hszB
                  · subst hok
                    go_wp2_with fail
                    refine hK.out _ _ (bthen hHeld hbq) (fun hHeld => ?_)
                    clear hK K
                    try simp only [Act.put, List.setIfInBounds_toArray, List.set_cons_zero, List.set_cons_succ]
                    refine draw_take 4 84 (v := ?_) rfl rfl (by kernel_rfl) (by kernel_rfl) (by kernel_rfl) (fun _ _ _ h => h) (by kernel_rfl) ?hy hHeld ?_
                    case hy => (intro w hSw; (try dsimp only at hSw); go_simp; try (with_reducible rfl))
                    simp only [Act.put, List.setIfInBounds_toArray, List.set_cons_zero, List.set_cons_succ]
                    refine draw_take 5 89 (v := ?_) rfl rfl (by kernel_rfl) (by kernel_rfl) (by kernel_rfl) (fun _ _ _ h => h) (by kernel_rfl) ?hy hHeld ?_
                    case hy => (intro w hSw; (try dsimp only at hSw); go_simp; try (with_reducible rfl))
                    simp only [Act.put, List.setIfInBounds_toArray, List.set_cons_zero, List.set_cons_succ]
                    refine draw_take 6 90 (v := ?_) rfl rfl (by kernel_rfl) (by kernel_rfl) (by kernel_rfl) (fun _ _ _ h => h) (by kernel_rfl) ?hy hHeld ?_
                    case hy => (intro w hSw; (try dsimp only at hSw); go_simp; try (with_reducible rfl))
                    simp only [Act.put, List.setIfInBounds_toArray, List.set_cons_zero, List.set_cons_succ]
                    refine draw_take 7 91 (v := ?_) rfl rfl (by kernel_rfl) (by kernel_rfl) (by kernel_rfl) (fun _ _ _ h => h) (by kernel_rfl) ?hy hHeld ?_
                    case hy => (intro w hSw; (try dsimp only at hSw); go_simp; try (with_reducible rfl))
                    simp only [Act.put, List.setIfInBounds_toArray, List.set_cons_zero, List.set_cons_succ]
                    have hB4 := hHeld
                    refine wpAnyH_ready (rs := [8]) (by kernel_rfl) (by simp) ?_
                    refine AllReadyH.cons rfl (fun K hK => ?_) AllReadyH.nil
                    go_simp
                    refine hK.out _ _ (bthen hHeld below_box) (fun hHeld => ?_)
                    clear hK K
                    try simp only [Act.put, List.setIfInBounds_toArray, List.set_cons_zero, List.set_cons_succ]
                    refine wpAnyH_ready (rs := [9]) (by kernel_rfl) (by simp) ?_
                    refine AllReadyH.cons rfl (fun K hK => ?_) AllReadyH.nil
                    go_simp
                    refine hK.out _ _ (bthen hB4 below_box) (fun hHeld => ?_)
                    clear hK K
                    try simp only [Act.put, List.setIfInBounds_toArray, List.set_cons_zero, List.set_cons_succ]
                    refine draw_take 10 14 (v := ?_) rfl rfl (by kernel_rfl) (by kernel_rfl) (by kernel_rfl) (fun _ _ _ h => h) (by kernel_rfl) ?hy hHeld ?_
                    case hy => (intro w hSw; (try dsimp only at hSw); go_simp; try (with_reducible rfl))
                    simp only [Act.put, List.setIfInBounds_toArray, List.set_cons_zero, List.set_cons_succ]
                    refine draw_take 11 15 (v := ?_) rfl rfl (by kernel_rfl) (by kernel_rfl) (by kernel_rfl) (fun _ _ _ h => h) (by kernel_rfl) ?hy hHeld ?_
                    case hy => (intro w hSw; (try dsimp only at hSw); go_simp; try (with_reducible rfl))
                    simp only [Act.put, List.setIfInBounds_toArray, List.set_cons_zero, List.set_cons_succ]
                    refine wpAnyH_done (by kernel_rfl) ?_ _
                    go_wp2_with fail
                    go_meet
                    exact nv_no (bthen hB4 below_box)
                · have hgW := hHeld.size
                  have Hob := Lib.hid (OwnL.new w3 [.int .i64 0, .int .i64 0, .slice none 0 0, .slice none 0 0, .int .i64 0, .int .i64 0] 32)
                  go_simp
                  refine hK.out _ _ (bthen hHeld below_box) (fun hHeld => ?_)
                  clear hK K
                  try simp only [Act.put, List.setIfInBounds_toArray, List.set_cons_zero, List.set_cons_succ]
                  refine wpAnyH_ready (rs := [3]) (by kernel_rfl) (by simp) ?_
                  refine AllReadyH.cons rfl (fun K hK => ?_) AllReadyH.nil
                  have hszB := hHeld.size
                  have hgB := Hob.out.lt rfl
                  go_simp
                  (go_at_call 11; refine (hnw.out _ hHeld).mono ?_; rintro e w4 ⟨hret, hbq⟩)
                  rcases hret with ⟨hok, p7, n7, c7, q7, m7, d7, rfl, hsr, hown⟩ | ⟨hok, rfl⟩
                  · subst hok
                    go_wp2_with fail
                    refine hK.out _ _ (bthen hHeld hbq) (fun hHeld => ?_)
                    clear hK K
                    try simp only [Act.put, List.setIfInBounds_toArray, List.set_cons_zero, List.set_cons_succ]
                    refine draw_take 4 84 (v := ?_) rfl rfl (by kernel_rfl) (by kernel_rfl) (by kernel_rfl) (fun _ _ _ h => h) (by kernel_rfl) ?hy hHeld ?_
                    case hy => (intro w hSw; (try dsimp only at hSw); go_simp; try (with_reducible rfl))
                    simp only [Act.put, List.setIfInBounds_toArray, List.set_cons_zero, List.set_cons_succ]
                    refine draw_take 5 89 (v := ?_) rfl rfl (by kernel_rfl) (by kernel_rfl) (by kernel_rfl) (fun _ _ _ h => h) (by kernel_rfl) ?hy hHeld ?_
                    case hy => (intro w hSw; (try dsimp only at hSw); go_simp; try (with_reducible rfl))
                    simp only [Act.put, List.setIfInBounds_toArray, List.set_cons_zero, List.set_cons_succ]
                    refine draw_take 6 90 (v := ?_) rfl rfl (by kernel_rfl) (by kernel_rfl) (by kernel_rfl) (fun _ _ _ h => h) (by kernel_rfl) ?hy hHeld ?_
                    case hy => (intro w hSw; (try dsimp only at hSw); go_simp; try (with_reducible rfl))
                    simp only [Act.put, List.setIfInBounds_toArray, List.set_cons_zero, List.set_cons_succ]
                    refine draw_take 7 91 (v := ?_) rfl rfl (by kernel_rfl) (by kernel_rfl) (by kernel_rfl) (fun _ _ _ h => h) (by kernel_rfl) ?hy hHeld ?_
                    case hy => (intro w hSw; (try dsimp only at hSw); go_simp; try (with_reducible rfl))
                    simp only [Act.put, List.setIfInBounds_toArray, List.set_cons_zero, List.set_cons_succ]
                    have hOb := Lib.hid (Hob.out.keep hbq (Hob.out.lt rfl))
                    have s0 := hOb.out.cell 0 _ rfl
                    have s1 := hOb.out.cell 1 _ rfl
                    have s2 := hOb.out.cell 2 _ rfl
                    have s3 := hOb.out.cell 3 _ rfl
                    have s4 := hOb.out.cell 4 _ rfl
                    have s5 := hOb.out.cell 5 _ rfl
                    have r0 := hOb.out.free 0
                    have r1 := hOb.out.free 1
                    have r2 := hOb.out.free 2
                    have r3 := hOb.out.free 3
                    have r4 := hOb.out.free 4
                    have r5 := hOb.out.free 5
                    have hB4 := hHeld
                    refine wpAnyH_ready (rs := [9]) (by kernel_rfl) (by simp) ?_
                    refine AllReadyH.cons rfl (fun K hK => ?_) AllReadyH.nil
                    go_simp
                    refine hK.out _ _ (below_set6 hB4 hgW) (fun hHeld => ?_)
                    clear hK K
                    try simp only [Act.put, List.setIfInBounds_toArray, List.set_cons_zero, List.set_cons_succ]
                    refine draw_take 10 14 (v := ?_) rfl rfl (by kernel_rfl) (by kernel_rfl) (by kernel_rfl) (fun _ _ _ h => h) (by kernel_rfl) ?hy hHeld ?_
                    case hy => (intro w hSw; (try dsimp only at hSw); go_simp; try (with_reducible rfl))
                    simp only [Act.put, List.setIfInBounds_toArray, List.set_cons_zero, List.set_cons_succ]
                    refine draw_take 11 15 (v := ?_) rfl rfl (by kernel_rfl) (by kernel_rfl) (by kernel_rfl) (fun _ _ _ h => h) (by kernel_rfl) ?hy hHeld ?_
                    case hy => (intro w hSw; (try dsimp only at hSw); go_simp; try (with_reducible rfl))
                    simp only [Act.put, List.setIfInBounds_toArray, List.set_cons_zero, List.set_cons_succ]
                    refine wpAnyH_done (by kernel_rfl) ?_ _
                    go_wp2_with fail
                    go_meet
                    exact nv_yes hB4 hgW hOb.out hsr hown hgB hszB
                  · subst hok
                    go_wp2_with fail
                    refine hK.out _ _ (bthen hHeld hbq) (fun hHeld => ?_)
                    clear hK K
                    try simp only [Act.put, List.setIfInBounds_toArray, List.set_cons_zero, List.set_cons_succ]
                    refine draw_take 4 84 (v := ?_) rfl rfl (by kernel_rfl) (by kernel_rfl) (by kernel_rfl) (fun _ _ _ h => h) (by kernel_rfl) ?hy hHeld ?_
                    case hy => (intro w hSw; (try dsimp only at hSw); go_simp; try (with_reducible rfl))
                    simp only [Act.put, List.setIfInBounds_toArray, List.set_cons_zero, List.set_cons_succ]
                    refine draw_take 5 89 (v := ?_) rfl rfl (by kernel_rfl) (by kernel_rfl) (by kernel_rfl) (fun _ _ _ h => h) (by kernel_rfl) ?hy hHeld ?_
                    case hy => (intro w hSw; (try dsimp only at hSw); go_simp; try (with_reducible rfl))
                    simp only [Act.put, List.setIfInBounds_toArray, List.set_cons_zero, List.set_cons_succ]
                    refine draw_take 6 90 (v := ?_) rfl rfl (by kernel_rfl) (by kernel_rfl) (by kernel_rfl) (fun _ _ _ h => h) (by kernel_rfl) ?hy hHeld ?_
                    case hy => (intro w hSw; (try dsimp only at hSw); go_simp; try (with_reducible rfl))
                    simp only [Act.put, List.setIfInBounds_toArray, List.set_cons_zero, List.set_cons_succ]
                    refine draw_take 7 91 (v := ?_) rfl rfl (by kernel_rfl) (by kernel_rfl) (by kernel_rfl) (fun _ _ _ h => h) (by kernel_rfl) ?hy hHeld ?_
                    case hy => (intro w hSw; (try dsimp only at hSw); go_simp; try (with_reducible rfl))
                    simp only [Act.put, List.setIfInBounds_toArray, List.set_cons_zero, List.set_cons_succ]
                    have hOb := Lib.hid (Hob.out.keep hbq (Hob.out.lt rfl))
                    have s0 := hOb.out.cell 0 _ rfl
                    have s1 := hOb.out.cell 1 _ rfl
                    have s2 := hOb.out.cell 2 _ rfl
                    have s3 := hOb.out.cell 3 _ rfl
                    have s4 := hOb.out.cell 4 _ rfl
                    have s5 := hOb.out.cell 5 _ rfl
                    have r0 := hOb.out.free 0
                    have r1 := hOb.out.free 1
                    have r2 := hOb.out.free 2
                    have r3 := hOb.out.free 3
                    have r4 := hOb.out.free 4
                    have r5 := hOb.out.free 5
                    have hB4 := hHeld
                    refine wpAnyH_ready (rs := [9]) (by kernel_rfl) (by simp) ?_
                    refine AllReadyH.cons rfl (fun K hK => ?_) AllReadyH.nil
                    go_simp
                    refine hK.out _ _ (below_set6 hB4 hgW) (fun hHeld => ?_)
                    clear hK K
                    try simp only [Act.put, List.setIfInBounds_toArray, List.set_cons_zero, List.set_cons_succ]
                    refine draw_take 10 14 (v := ?_) rfl rfl (by kernel_rfl) (by kernel_rfl) (by kernel_rfl) (fun _ _ _ h => h) (by kernel_rfl) ?hy hHeld ?_
                    case hy => (intro w hSw; (try dsimp only at hSw); go_simp; try (with_reducible rfl))
                    simp only [Act.put, List.setIfInBounds_toArray, List.set_cons_zero, List.set_cons_succ]
                    refine draw_take 11 15 (v := ?_) rfl rfl (by kernel_rfl) (by kernel_rfl) (by kernel_rfl) (fun _ _ _ h => h) (by kernel_rfl) ?hy hHeld ?_
                    case hy => (intro w hSw; (try dsimp only at hSw); go_simp; try (with_reducible rfl))
                    simp only [Act.put, List.setIfInBounds_toArray, List.set_cons_zero, List.set_cons_succ]
                    refine wpAnyH_done (by kernel_rfl) ?_ _
                    go_wp2_with fail
                    go_meet
                    exact nv_no (below_set6 hB4 hgW)
              · have hgW : wr.heap.size ≤ wr.heap.size := Nat.le_refl _
                have Hob := Lib.hid (OwnL.new wr.drew [.int .i64 0, .int .i64 0, .slice none 0 0, .slice none 0 0, .int .i64 0, .int .i64 0] 32)
                simp only [World.size_drew] at Hob
                go_simp
                refine hK.out _ _ (bthen hHeld below_box) (fun hHeld => ?_)
                clear hK K
                try simp only [Act.put, List.setIfInBounds_toArray, List.set_cons_zero, List.set_cons_succ]
                refine wpAnyH_ready (rs := [2]) (by kernel_rfl) (by simp) ?_
                refine AllReadyH.cons rfl (fun K hK => ?_) AllReadyH.nil
                go_simp
                (go_at_call 9; refine (hwo.out _).mono ?_; rintro e w3 ⟨rfl, hbq⟩)
                have Hob := Lib.hid (Hob.out.keep hbq (Hob.out.lt rfl))
                go_wp2_with fail
                refine hK.out _ _ (bthen hHeld hbq) (fun hHeld => ?_)
                clear hK K
                try simp only [Act.put, List.setIfInBounds_toArray, List.set_cons_zero, List.set_cons_succ]
                refine wpAnyH_ready (rs := [3]) (by kernel_rfl) (by simp) ?_
                refine AllReadyH.cons rfl (fun K hK => ?_) AllReadyH.nil
                have hszB := hHeld.size
                have hgB := Hob.out.lt rfl
                go_simp
                (go_at_call 11; refine (hnw.out _ hHeld).mono ?_; rintro e w4 ⟨hret, hbq⟩)
                rcases hret with ⟨hok, p7, n7, c7, q7, m7, d7, rfl, hsr, hown⟩ | ⟨hok, rfl⟩
                · subst hok
                  go_wp2_with fail
                  refine hK.out _ _ (bthen hHeld hbq) (fun hHeld => ?_)
                  clear hK K
                  try simp only [Act.put, List.setIfInBounds_toArray, List.set_cons_zero, List.set_cons_succ]
                  refine draw_take 4 84 (v := ?_) rfl rfl (by kernel_rfl) (by kernel_rfl) (by kernel_rfl) (fun _ _ _ h => h) (by kernel_rfl) ?hy hHeld ?_
                  case hy => (intro w hSw; (try dsimp only at hSw); go_simp; try (with_reducible rfl))
                  simp only [Act.put, List.setIfInBounds_toArray, List.set_cons_zero, List.set_cons_succ]
                  refine draw_take 5 89 (v := ?_) rfl rfl (by kernel_rfl) (by kernel_rfl) (by kernel_rfl) (fun _ _ _ h => h) (by kernel_rfl) ?hy hHeld ?_
                  case hy => (intro w hSw; (try dsimp only at hSw); go_simp; try (with_reducible rfl))
                  simp only [Act.put, List.setIfInBounds_toArray, List.set_cons_zero, List.set_cons_succ]
                  refine draw_take 6 90 (v := ?_) rfl rfl (by kernel_rfl) (by kernel_rfl) (by kernel_rfl) (fun _ _ _ h => h) (by kernel_rfl) ?hy hHeld ?_
                  case hy => (intro w hSw; (try dsimp only at hSw); go_simp; try (with_reducible rfl))
                  simp only [Act.put, List.setIfInBounds_toArray, List.set_cons_zero, List.set_cons_succ]
                  refine draw_take 7 91 (v := ?_) rfl rfl (by kernel_rfl) (by kernel_rfl) (by kernel_rfl) (fun _ _ _ h => h) (by kernel_rfl) ?hy hHeld ?_
                  case hy => (intro w hSw; (try dsimp only at hSw); go_simp; try (with_reducible rfl))
                  simp only [Act.put, List.setIfInBounds_toArray, List.set_cons_zero, List.set_cons_succ]
                  have hOb := Lib.hid (Hob.out.keep hbq (Hob.out.lt rfl))
                  have s0 := hOb.out.cell 0 _ rfl
                  have s1 := hOb.out.cell 1 _ rfl
                  have s2 := hOb.out.cell 2 _ rfl
                  have s3 := hOb.out.cell 3 _ rfl
                  have s4 := hOb.out.cell 4 _ rfl
                  have s5 := hOb.out.cell 5 _ rfl
                  have r0 := hOb.out.free 0
                  have r1 := hOb.out.free 1
                  have r2 := hOb.out.free 2
                  have r3 := hOb.out.free 3
                  have r4 := hOb.out.free 4
                  have r5 := hOb.out.free 5
                  have hB4 := hHeld
                  refine wpAnyH_ready (rs := [9]) (by kernel_rfl) (by simp) ?_
                  refine AllReadyH.cons rfl (fun K hK => ?_) AllReadyH.nil
                  go_simp
                  refine hK.out _ _ (below_set6 hB4 hgW) (fun hHeld => ?_)
                  clear hK K
                  try simp only [Act.put, List.setIfInBounds_toArray, List.set_cons_zero, List.set_cons_succ]
                  refine draw_take 10 14 (v := ?_) rfl rfl (by kernel_rfl) (by kernel_rfl) (by kernel_rfl) (fun _ _ _ h => h) (by kernel_rfl) ?hy hHeld ?_
                  case hy => (intro w hSw; (try dsimp only at hSw); go_simp; try (with_reducible rfl))
                  simp only [Act.put, List.setIfInBounds_toArray, List.set_cons_zero, List.set_cons_succ]
                  refine draw_take 11 15 (v := ?_) rfl rfl (by kernel_rfl) (by kernel_rfl) (by kernel_rfl) (fun _ _ _ h => h) (by kernel_rfl) ?hy hHeld ?_
                  case hy => (intro w hSw; (try dsimp only at hSw); go_simp; try (with_reducible rfl))
                  simp only [Act.put, List.setIfInBounds_toArray, List.set_cons_zero, List.set_cons_succ]
                  refine wpAnyH_done (by kernel_rfl) ?_ _
                  go_wp2_with fail
                  go_meet
                  exact nv_yes hB4 hgW hOb.out hsr hown hgB hszB
                · subst hok
                  go_wp2_with fail
                  refine hK.out _ _ (bthen hHeld hbq) (fun hHeld => ?_)
                  clear hK K
                  try simp only [Act.put, List.setIfInBounds_toArray, List.set_cons_zero, List.set_cons_succ]
                  refine draw_take 4 84 (v := ?_) rfl rfl (by kernel_rfl) (by kernel_rfl) (by kernel_rfl) (fun _ _ _ h => h) (by kernel_rfl) ?hy hHeld ?_
                  case hy => (intro w hSw; (try dsimp only at hSw); go_simp; try (with_reducible rfl))
                  simp only [Act.put, List.setIfInBounds_toArray, List.set_cons_zero, List.set_cons_succ]
                  refine draw_take 5 89 (v := ?_) rfl rfl (by kernel_rfl) (by kernel_rfl) (by kernel_rfl) (fun _ _ _ h => h) (by kernel_rfl) ?hy hHeld ?_
                  case hy => (intro w hSw; (try dsimp only at hSw); go_simp; try (with_reducible rfl))
                  simp only [Act.put, List.setIfInBounds_toArray, List.set_cons_zero, List.set_cons_succ]
                  refine draw_take 6 90 (v := ?_) rfl rfl (by kernel_rfl) (by kernel_rfl) (by kernel_rfl) (fun _ _ _ h => h) (by kernel_rfl) ?hy hHeld ?_
                  case hy => (intro w hSw; (try dsimp only at hSw); go_simp; try (with_reducible rfl))
                  simp only [Act.put, List.setIfInBounds_toArray, List.set_cons_zero, List.set_cons_succ]
                  refine draw_take 7 91 (v := ?_) rfl rfl (by kernel_rfl) (by kernel_rfl) (by kernel_rfl) (fun _ _ _ h => h) (by kernel_rfl) ?hy hHeld ?_
                  case hy => (intro w hSw; (try dsimp only at hSw); go_simp; try (with_reducible rfl))
                  simp only [Act.put, List.setIfInBounds_toArray, List.set_cons_zero, List.set_cons_succ]
                  have hOb := Lib.hid (Hob.out.keep hbq (Hob.out.lt rfl))
                  have s0 := hOb.out.cell 0 _ rfl
                  have s1 := hOb.out.cell 1 _ rfl
                  have s2 := hOb.out.cell 2 _ rfl
                  have s3 := hOb.out.cell 3 _ rfl
                  have s4 := hOb.out.cell 4 _ rfl
                  have s5 := hOb.out.cell 5 _ rfl
                  have r0 := hOb.out.free 0
                  have r1 := hOb.out.free 1
                  have r2 := hOb.out.free 2
                  have r3 := hOb.out.free 3
                  have r4 := hOb.out.free 4
                  have r5 := hOb.out.free 5
                  have hB4 := hHeld
                  refine wpAnyH_ready (rs := [9]) (by kernel_rfl) (by simp) ?_
                  refine AllReadyH.cons rfl (fun K hK => ?_) AllReadyH.nil
                  go_simp
                  refine hK.out _ _ (below_set6 hB4 hgW) (fun hHeld => ?_)
                  clear hK K
                  try simp only [Act.put, List.setIfInBounds_toArray, List.set_cons_zero, List.set_cons_succ]
                  refine draw_take 10 14 (v := ?_) rfl rfl (by kernel_rfl) (by kernel_rfl) (by kernel_rfl) (fun _ _ _ h => h) (by kernel_rfl) ?hy hHeld ?_
                  case hy => (intro w hSw; (try dsimp only at hSw); go_simp; try (with_reducible rfl))
                  simp only [Act.put, List.setIfInBounds_toArray, List.set_cons_zero, List.set_cons_succ]
                  refine draw_take 11 15 (v := ?_) rfl rfl (by kernel_rfl) (by kernel_rfl) (by kernel_rfl) (fun _ _ _ h => h) (by kernel_rfl) ?hy hHeld ?_
                  case hy => (intro w hSw; (try dsimp only at hSw); go_simp; try (with_reducible rfl))
                  simp only [Act.put, List.setIfInBounds_toArray, List.set_cons_zero, List.set_cons_succ]
                  refine wpAnyH_done (by kernel_rfl) ?_ _
                  go_wp2_with fail
                  go_meet
                  exact nv_no (below_set6 hB4 hgW)
            case rest =>
              obtain ⟨hBn, -, hno⟩ := hcut
              obtain rfl := hno HOK.out
              have HB9 := Lib.hid (bthen HBw.out hBn)
              clear hno hBn
              go_wp2_with fail
              refine (haw.out _).mono ?_
              rintro e w9 ⟨rfl, hb9⟩
              have HB10 := Lib.hid (bthen HB9.out hb9)
              clear hb9
              go_wp2
              go_ret
              exact ⟨rfl, HB10.out⟩
      · have h0i : ¬ ((0 : Int) < kk) := by omega
        have hq3 : (R : Int) * (Q : Int) = (MO : Int) := by rw [Hmo.out, if_neg h0, Int.natCast_mul]
        go_wp2
        go_loopw [9] (fun u wr => ∃ t : Nat, t ≤ MO ∧ u = .int .i64 t ∧ ∃ (h : Hp) (p : Option Addr) (n c : Nat) (q : Option Addr) (m d : Nat), Ch t h ∧ OwnL wr w1.heap.size [.int .i64 h.pw, .int .i64 h.np, .slice p n c, .slice q m d, .int .i64 h.space, .int .i64 h.bump] ∧ SRow wr .u64 p n c h.words ∧ PRow wr q m d h.pages ∧ (∀ ad, q = some ad → ad.block ≠ w1.heap.size) ∧ Below w1.heap.size wd wr) (fun u _ => MO - (intOf u).toNat)
        case atStart => exact ⟨0, Nat.zero_le _, rfl, _, p, nn, c, q, m, d, Ch0.out, Hhb.out, Hs.out, Hr.out, Hqb.out, Below.refl _ _⟩
        case round =>
          obtain ⟨t, ht, rfl, ⟨P', M', ws, ps, sp, bp⟩, p, n, c, q, m, d, hch, hhb, hsr, hpr, hqb, hbl⟩ := hrel
          obtain ⟨hok, e1, e2⟩ := Chok.out _ _ hch
          simp only at e1 e2 hhb hsr hpr
          subst e1 e2
          have k0 : wr.cell? ⟨w.heap.size, 0, none⟩ = some (.int .i64 P) := by rw [hbl.cell (show w.heap.size < w1.heap.size by omega)]; exact k0
          have k1 : wr.cell? ⟨w.heap.size, 1, none⟩ = some (.int .i64 M) := by rw [hbl.cell (show w.heap.size < w1.heap.size by omega)]; exact k1
          have hlb : w1.heap.size < wr.heap.size := Nat.lt_of_lt_of_le hlb hbl.size
          have hns := Lib.hid (fun w' (hb : Below wr.heap.size wr w') => new_step (L := L) p q n c m d w' (hsr.keep hb) (hpr.keep hb) hok Ha.out)
          have Hhb := Lib.hid hhb
          have HBl := Lib.hid hbl
          obtain ⟨HN, hHN⟩ : ∃ HN, Hid (stepH ⟨P, M, ws, ps, sp, bp⟩ 3 L 0 = HN) := ⟨_, rfl⟩
          obtain ⟨OK, hOK⟩ : ∃ OK, Hid (placeOK ⟨P, M, ws, ps, sp, bp⟩ (L + 1) = OK) := ⟨_, rfl⟩
          obtain ⟨A, hA⟩ : ∃ A, Hid (placeA ⟨P, M, ws, ps, sp, bp⟩ (L + 1) = A) := ⟨_, rfl⟩
          rw [hHN.out, hOK.out, hA.out] at hns
          have hnw := hns
          clear hhb hsr hpr hqb hbl hns
          by_cases hlt : t < MO
          · obtain ⟨h1, h2, h3⟩ := Chst.out t _ hch hlt
            rw [hHN.out] at h2 h3
            have HOK := Lib.hid (hOK.out.symm.trans h1)
            have Hch2 := Lib.hid h2
            obtain ⟨I, hI⟩ : ∃ I : Int, Hid ((inUse HN.pages : Int) = I) := ⟨_, rfl⟩
            have hgt : decide ((R : Int) < I) = false := decide_eq_false (by rw [← hI.out]; omega)
            have hti : (t : Int) < (MO : Int) := by omega
            clear h1 h2 h3 hch hok
            go_upto_region 11 with fail
            go_cut [10, 11, 12] (fun ta tb tc wx => NvCut wr OK HN A ta tb tc wx)
            case first =>
              refine wp_region_held_drew (S := fun w' => Below wr.heap.size wr w') (by kernel_rfl) ((Below.refl _ _).drew) (fun hHeld => ?_)
              refine draw_take 0 65 (v := ?_) rfl rfl (by kernel_rfl) (by kernel_rfl) (by kernel_rfl) (fun _ _ _ h => h) (by kernel_rfl) ?hy hHeld ?_
              case hy => (intro w' hSw; (try dsimp only at hSw); have x0 := cell_keep hSw (Hhb.out.cell 0 _ rfl); have x1 := cell_keep hSw (Hhb.out.cell 1 _ rfl); have x2 := cell_keep hSw (Hhb.out.cell 2 _ rfl); have x3 := cell_keep hSw (Hhb.out.cell 3 _ rfl); have x4 := cell_keep hSw (Hhb.out.cell 4 _ rfl); have x5 := cell_keep hSw (Hhb.out.cell 5 _ rfl); go_simp; try (with_reducible rfl))
              simp only [Act.put, List.setIfInBounds_toArray, List.set_cons_zero, List.set_cons_succ]
              refine draw_take 1 66 (v := ?_) rfl rfl (by kernel_rfl) (by kernel_rfl) (by kernel_rfl) (fun _ _ _ h => h) (by kernel_rfl) ?hy hHeld ?_
              case hy => (intro w hSw; (try dsimp only at hSw); go_simp; try (with_reducible rfl))
              simp only [Act.put, List.setIfInBounds_toArray, List.set_cons_zero, List.set_cons_succ]
              refine wpAnyH_ready (rs := [2, 8]) (by kernel_rfl) (by simp) ?_
              refine AllReadyH.cons rfl (fun K hK => ?_) (AllReadyH.cons rfl (fun K hK => ?_) AllReadyH.nil)
              · go_simp
                (go_at_call 9; refine (hwo.out _).mono ?_; rintro e w3 ⟨rfl, hbq⟩)
                go_wp2_with fail
                refine hK.out _ _ (bthen hHeld hbq) (fun hHeld => ?_)
                clear hK K
                try simp only [Act.put, List.setIfInBounds_toArray, List.set_cons_zero, List.set_cons_succ]
                refine wpAnyH_ready (rs := [3, 8]) (by kernel_rfl) (by simp) ?_
                refine AllReadyH.cons rfl (fun K hK => ?_) (AllReadyH.cons rfl (fun K hK => ?_) AllReadyH.nil)
                · have hszB := hHeld.size
                  go_simp
                  (go_at_call 11; refine (hnw.out _ hHeld).mono ?_; rintro e w4 ⟨hret, hbq⟩)
                  rcases hret with ⟨hok, p7, n7, c7, q7, m7, d7, rfl, hsr, hown⟩ | ⟨hok, rfl⟩
                  · subst hok
                    go_wp2_with fail
                    refine hK.out _ _ (bthen hHeld hbq) (fun hHeld => ?_)
                    clear hK K
                    try simp only [Act.put, List.setIfInBounds_toArray, List.set_cons_zero, List.set_cons_succ]
                    refine draw_take 4 64 (v := ?_) rfl rfl (by kernel_rfl) (by kernel_rfl) (by kernel_rfl) (fun _ _ _ h => h) (by kernel_rfl) ?hy hHeld ?_
                    case hy => (intro w hSw; (try dsimp only at hSw); go_simp; try (with_reducible rfl))
                    simp only [Act.put, List.setIfInBounds_toArray, List.set_cons_zero, List.set_cons_succ]
                    refine draw_take 5 69 (v := ?_) rfl rfl (by kernel_rfl) (by kernel_rfl) (by kernel_rfl) (fun _ _ _ h => h) (by kernel_rfl) ?hy hHeld ?_
                    case hy => (intro w hSw; (try dsimp only at hSw); go_simp; try (with_reducible rfl))
                    simp only [Act.put, List.setIfInBounds_toArray, List.set_cons_zero, List.set_cons_succ]
                    refine draw_take 6 70 (v := ?_) rfl rfl (by kernel_rfl) (by kernel_rfl) (by kernel_rfl) (fun _ _ _ h => h) (by kernel_rfl) ?hy hHeld ?_
                    case hy => (intro w hSw; (try dsimp only at hSw); go_simp; try (with_reducible rfl))
                    simp only [Act.put, List.setIfInBounds_toArray, List.set_cons_zero, List.set_cons_succ]
                    refine draw_take 7 71 (v := ?_) rfl rfl (by kernel_rfl) (by kernel_rfl) (by kernel_rfl) (fun _ _ _ h => h) (by kernel_rfl) ?hy hHeld ?_
                    case hy => (intro w hSw; (try dsimp only at hSw); go_simp; try (with_reducible rfl))
                    simp only [Act.put, List.setIfInBounds_toArray, List.set_cons_zero, List.set_cons_succ]
                    have hB4 := hHeld
                    refine wpAnyH_ready (rs := [8]) (by kernel_rfl) (by simp) ?_
                    refine AllReadyH.cons rfl (fun K hK => ?_) AllReadyH.nil
                    go_simp
                    refine hK.out _ _ (bthen hHeld below_box) (fun hHeld => ?_)
                    clear hK K
                    try simp only [Act.put, List.setIfInBounds_toArray, List.set_cons_zero, List.set_cons_succ]
                    refine wpAnyH_ready (rs := [9]) (by kernel_rfl) (by simp) ?_
                    refine AllReadyH.cons rfl (fun K hK => ?_) AllReadyH.nil
                    go_simp
                    refine hK.out _ _ (bthen hB4 below_box) (fun hHeld => ?_)
                    clear hK K
                    try simp only [Act.put, List.setIfInBounds_toArray, List.set_cons_zero, List.set_cons_succ]
                    refine draw_take 10 11 (v := ?_) rfl rfl (by kernel_rfl) (by kernel_rfl) (by kernel_rfl) (fun _ _ _ h => h) (by kernel_rfl) ?hy hHeld ?_
                    case hy => (intro w hSw; (try dsimp only at hSw); go_simp; try (with_reducible rfl))
                    simp only [Act.put, List.setIfInBounds_toArray, List.set_cons_zero, List.set_cons_succ]
                    refine draw_take 11 12 (v := ?_) rfl rfl (by kernel_rfl) (by kernel_rfl) (by kernel_rfl) (fun _ _ _ h => h) (by kernel_rfl) ?hy hHeld ?_
                    case hy => (intro w hSw; (try dsimp only at hSw); go_simp; try (with_reducible rfl))
                    simp only [Act.put, List.setIfInBounds_toArray, List.set_cons_zero, List.set_cons_succ]
                    refine wpAnyH_done (by kernel_rfl) ?_ _
                    go_wp2_with fail
                    go_meet
                    exact nv_new hB4 hsr hown hszB
                  · subst hok
                    go_wp2_with fail
                    refine hK.out _ _ (bthen hHeld hbq) (fun hHeld => ?_)
                    clear hK K
                    try simp only [Act.put, List.setIfInBounds_toArray, List.set_cons_zero, List.set_cons_succ]
                    refine draw_take 4 64 (v := ?_) rfl rfl (by kernel_rfl) (by kernel_rfl) (by kernel_rfl) (fun _ _ _ h => h) (by kernel_rfl) ?hy hHeld ?_
                    case hy => (intro w hSw; (try dsimp only at hSw); go_simp; try (with_reducible rfl))
                    simp only [Act.put, List.setIfInBounds_toArray, List.set_cons_zero, List.set_cons_succ]
                    refine draw_take 5 69 (v := ?_) rfl rfl (by kernel_rfl) (by kernel_rfl) (by kernel_rfl) (fun _ _ _ h => h) (by kernel_rfl) ?hy hHeld ?_
                    case hy => (intro w hSw; (try dsimp only at hSw); go_simp; try (with_reducible rfl))
                    simp only [Act.put, List.setIfInBounds_toArray, List.set_cons_zero, List.set_cons_succ]
                    refine draw_take 6 70 (v := ?_) rfl rfl (by kernel_rfl) (by kernel_rfl) (by kernel_rfl) (fun _ _ _ h => h) (by kernel_rfl) ?hy hHeld ?_
                    case hy => (intro w hSw; (try dsimp only at hSw); go_simp; try (with_reducible rfl))
                    simp only [Act.put, List.setIfInBounds_toArray, List.set_cons_zero, List.set_cons_succ]
                    refine draw_take 7 71 (v := ?_) rfl rfl (by kernel_rfl) (by kernel_rfl) (by kernel_rfl) (fun _ _ _ h => h) (by kernel_rfl) ?hy hHeld ?_
                    case hy => (intro w hSw; (try dsimp only at hSw); go_simp; try (with_reducible rfl))
                    simp only [Act.put, List.setIfInBounds_toArray, List.set_cons_zero, List.set_cons_succ]
                    have hB4 := hHeld
                    refine wpAnyH_ready (rs := [8]) (by kernel_rfl) (by simp) ?_
                    refine AllReadyH.cons rfl (fun K hK => ?_) AllReadyH.nil
                    go_simp
                    refine hK.out _ _ (bthen hHeld below_box) (fun hHeld => ?_)
                    clear hK K
                    try simp only [Act.put, List.setIfInBounds_toArray, List.set_cons_zero, List.set_cons_succ]
                    refine wpAnyH_ready (rs := [9]) (by kernel_rfl) (by simp) ?_
                    refine AllReadyH.cons rfl (fun K hK => ?_) AllReadyH.nil
                    go_simp
                    refine hK.out _ _ (bthen hB4 below_box) (fun hHeld => ?_)
                    clear hK K
                    try simp only [Act.put, List.setIfInBounds_toArray, List.set_cons_zero, List.set_cons_succ]
                    refine draw_take 10 11 (v := ?_) rfl rfl (by kernel_rfl) (by kernel_rfl) (by kernel_rfl) (fun _ _ _ h => h) (by kernel_rfl) ?hy hHeld ?_
                    case hy => (intro w hSw; (try dsimp only at hSw); go_simp; try (with_reducible rfl))
                    simp only [Act.put, List.setIfInBounds_toArray, List.set_cons_zero, List.set_cons_succ]
                    refine draw_take 11 12 (v := ?_) rfl rfl (by kernel_rfl) (by kernel_rfl) (by kernel_rfl) (fun _ _ _ h => h) (by kernel_rfl) ?hy hHeld ?_
                    case hy => (intro w hSw; (try dsimp only at hSw); go_simp; try (with_reducible rfl))
                    simp only [Act.put, List.setIfInBounds_toArray, List.set_cons_zero, List.set_cons_succ]
                    refine wpAnyH_done (by kernel_rfl) ?_ _
                    go_wp2_with fail
                    go_meet
                    exact nv_no (bthen hB4 below_box)
                · have hgW := hHeld.size
                  have Hob := Lib.hid (OwnL.new w3 [.int .i64 0, .int .i64 0, .slice none 0 0, .slice none 0 0, .int .i64 0, .int .i64 0] 32)
                  go_simp
                  refine hK.out _ _ (bthen hHeld below_box) (fun hHeld => ?_)
                  clear hK K
                  try simp only [Act.put, List.setIfInBounds_toArray, List.set_cons_zero, List.set_cons_succ]
                  refine wpAnyH_ready (rs := [3]) (by kernel_rfl) (by simp) ?_
                  refine AllReadyH.cons rfl (fun K hK => ?_) AllReadyH.nil
                  have hszB := hHeld.size
                  have hgB := Hob.out.lt rfl
                  go_simp
                  (go_at_call 11; refine (hnw.out _ hHeld).mono ?_; rintro e w4 ⟨hret, hbq⟩)
                  rcases hret with ⟨hok, p7, n7, c7, q7, m7, d7, rfl, hsr, hown⟩ | ⟨hok, rfl⟩
                  · subst hok
                    go_wp2_with fail
                    refine hK.out _ _ (bthen hHeld hbq) (fun hHeld => ?_)
                    clear hK K
                    try simp only [Act.put, List.setIfInBounds_toArray, List.set_cons_zero, List.set_cons_succ]
                    refine draw_take 4 64 (v := ?_) rfl rfl (by kernel_rfl) (by kernel_rfl) (by kernel_rfl) (fun _ _ _ h => h) (by kernel_rfl) ?hy hHeld ?_
                    case hy => (intro w hSw; (try dsimp only at hSw); go_simp; try (with_reducible rfl))
                    simp only [Act.put, List.setIfInBounds_toArray, List.set_cons_zero, List.set_cons_succ]
                    refine draw_take 5 69 (v := ?_) rfl rfl (by kernel_rfl) (by kernel_rfl) (by kernel_rfl) (fun _ _ _ h => h) (by kernel_rfl) ?hy hHeld ?_
                    case hy => (intro w hSw; (try dsimp only at hSw); go_simp; try (with_reducible rfl))
                    simp only [Act.put, List.setIfInBounds_toArray, List.set_cons_zero, List.set_cons_succ]
                    refine draw_take 6 70 (v := ?_) rfl rfl (by kernel_rfl) (by kernel_rfl) (by kernel_rfl) (fun _ _ _ h => h) (by kernel_rfl) ?hy hHeld ?_
                    case hy => (intro w hSw; (try dsimp only at hSw); go_simp; try (with_reducible rfl))
                    simp only [Act.put, List.setIfInBounds_toArray, List.set_cons_zero, List.set_cons_succ]
                    refine draw_take 7 71 (v := ?_) rfl rfl (by kernel_rfl) (by kernel_rfl) (by kernel_rfl) (fun _ _ _ h => h) (by kernel_rfl) ?hy hHeld ?_
                    case hy => (intro w hSw; (try dsimp only at hSw); go_simp; try (with_reducible rfl))
                    simp only [Act.put, List.setIfInBounds_toArray, List.set_cons_zero, List.set_cons_succ]
                    have hOb := Lib.hid (Hob.out.keep hbq (Hob.out.lt rfl))
                    have s0 := hOb.out.cell 0 _ rfl
                    have s1 := hOb.out.cell 1 _ rfl
                    have s2 := hOb.out.cell 2 _ rfl
                    have s3 := hOb.out.cell 3 _ rfl
                    have s4 := hOb.out.cell 4 _ rfl
                    have s5 := hOb.out.cell 5 _ rfl
                    have r0 := hOb.out.free 0
                    have r1 := hOb.out.free 1
                    have r2 := hOb.out.free 2
                    have r3 := hOb.out.free 3
                    have r4 := hOb.out.free 4
                    have r5 := hOb.out.free 5
                    have hB4 := hHeld
                    refine wpAnyH_ready (rs := [9]) (by kernel_rfl) (by simp) ?_
                    refine AllReadyH.cons rfl (fun K hK => ?_) AllReadyH.nil
                    go_simp
                    refine hK.out _ _ (below_set6 hB4 hgW) (fun hHeld => ?_)
                    clear hK K
                    try simp only [Act.put, List.setIfInBounds_toArray, List.set_cons_zero, List.set_cons_succ]
                    refine draw_take 10 11 (v := ?_) rfl rfl (by kernel_rfl) (by kernel_rfl) (by kernel_rfl) (fun _ _ _ h => h) (by kernel_rfl) ?hy hHeld ?_
                    case hy => (intro w hSw; (try dsimp only at hSw); go_simp; try (with_reducible rfl))
                    simp only [Act.put, List.setIfInBounds_toArray, List.set_cons_zero, List.set_cons_succ]
                    refine draw_take 11 12 (v := ?_) rfl rfl (by kernel_rfl) (by kernel_rfl) (by kernel_rfl) (fun _ _ _ h => h) (by kernel_rfl) ?hy hHeld ?_
                    case hy => (intro w hSw; (try dsimp only at hSw); go_simp; try (with_reducible rfl))
                    simp only [Act.put, List.setIfInBounds_toArray, List.set_cons_zero, List.set_cons_succ]
                    refine wpAnyH_done (by kernel_rfl) ?_ _
                    go_wp2_with fail
                    go_meet
                    exact nv_yes hB4 hgW hOb.out hsr hown hgB hszB
                  · subst hok
                    go_wp2_with fail
                    refine hK.out _ _ (bthen hHeld hbq) (fun hHeld => ?_)
                    clear hK K
                    try simp only [Act.put, List.setIfInBounds_toArray, List.set_cons_zero, List.set_cons_succ]
                    refine draw_take 4 64 (v := ?_) rfl rfl (by kernel_rfl) (by kernel_rfl) (by kernel_rfl) (fun _ _ _ h => h) (by kernel_rfl) ?hy hHeld ?_
                    case hy => (intro w hSw; (try dsimp only at hSw); go_simp; try (with_reducible rfl))
                    simp only [Act.put, List.setIfInBounds_toArray, List.set_cons_zero, List.set_cons_succ]
                    refine draw_take 5 69 (v := ?_) rfl rfl (by kernel_rfl) (by kernel_rfl) (by kernel_rfl) (fun _ _ _ h => h) (by kernel_rfl) ?hy hHeld ?_
                    case hy => (intro w hSw; (try dsimp only at hSw); go_simp; try (with_reducible rfl))
                    simp only [Act.put, List.setIfInBounds_toArray, List.set_cons_zero, List.set_cons_succ]
                    refine draw_take 6 70 (v := ?_) rfl rfl (by kernel_rfl) (by kernel_rfl) (by kernel_rfl) (fun _ _ _ h => h) (by kernel_rfl) ?hy hHeld ?_
                    case hy => (intro w hSw; (try dsimp only at hSw); go_simp; try (with_reducible rfl))
                    simp only [Act.put, List.setIfInBounds_toArray, List.set_cons_zero, List.set_cons_succ]
                    refine draw_take 7 71 (v := ?_) rfl rfl (by kernel_rfl) (by kernel_rfl) (by kernel_rfl) (fun _ _ _ h => h) (by kernel_rfl) ?hy hHeld ?_
                    case hy => (intro w hSw; (try dsimp only at hSw); go_simp; try (with_reducible rfl))
                    simp only [Act.put, List.setIfInBounds_toArray, List.set_cons_zero, List.set_cons_succ]
                    have hOb := Lib.hid (Hob.out.keep hbq (Hob.out.lt rfl))
                    have s0 := hOb.out.cell 0 _ rfl
                    have s1 := hOb.out.cell 1 _ rfl
                    have s2 := hOb.out.cell 2 _ rfl
                    have s3 := hOb.out.cell 3 _ rfl
                    have s4 := hOb.out.cell 4 _ rfl
                    have s5 := hOb.out.cell 5 _ rfl
                    have r0 := hOb.out.free 0
                    have r1 := hOb.out.free 1
                    have r2 := hOb.out.free 2
                    have r3 := hOb.out.free 3
                    have r4 := hOb.out.free 4
                    have r5 := hOb.out.free 5
                    have hB4 := hHeld
                    refine wpAnyH_ready (rs := [9]) (by kernel_rfl) (by simp) ?_
                    refine AllReadyH.cons rfl (fun K hK => ?_) AllReadyH.nil
                    go_simp
                    refine hK.out _ _ (below_set6 hB4 hgW) (fun hHeld => ?_)
                    clear hK K
                    try simp only [Act.put, List.setIfInBounds_toArray, List.set_cons_zero, List.set_cons_succ]
                    refine draw_take 10 11 (v := ?_) rfl rfl (by kernel_rfl) (by kernel_rfl) (by kernel_rfl) (fun _ _ _ h => h) (by kernel_rfl) ?hy hHeld ?_
                    case hy => (intro w hSw; (try dsimp only at hSw); go_simp; try (with_reducible rfl))
                    simp only [Act.put, List.setIfInBounds_toArray, List.set_cons_zero, List.set_cons_succ]
                    refine draw_take 11 12 (v := ?_) rfl rfl (by kernel_rfl) (by kernel_rfl) (by kernel_rfl) (fun _ _ _ h => h) (by kernel_rfl) ?hy hHeld ?_
                    case hy => (intro w hSw; (try dsimp only at hSw); go_simp; try (with_reducible rfl))
                    simp only [Act.put, List.setIfInBounds_toArray, List.set_cons_zero, List.set_cons_succ]
                    refine wpAnyH_done (by kernel_rfl) ?_ _
                    go_wp2_with fail
                    go_meet
                    exact nv_no (below_set6 hB4 hgW)
              · have hgW : wr.heap.size ≤ wr.heap.size := Nat.le_refl _
                have Hob := Lib.hid (OwnL.new wr.drew [.int .i64 0, .int .i64 0, .slice none 0 0, .slice none 0 0, .int .i64 0, .int .i64 0] 32)
                simp only [World.size_drew] at Hob
                go_simp
                refine hK.out _ _ (bthen hHeld below_box) (fun hHeld => ?_)
                clear hK K
                try simp only [Act.put, List.setIfInBounds_toArray, List.set_cons_zero, List.set_cons_succ]
                refine wpAnyH_ready (rs := [2]) (by kernel_rfl) (by simp) ?_
                refine AllReadyH.cons rfl (fun K hK => ?_) AllReadyH.nil
                go_simp
                (go_at_call 9; refine (hwo.out _).mono ?_; rintro e w3 ⟨rfl, hbq⟩)
                have Hob := Lib.hid (Hob.out.keep hbq (Hob.out.lt rfl))
                go_wp2_with fail
                refine hK.out _ _ (bthen hHeld hbq) (fun hHeld => ?_)
                clear hK K
                try simp only [Act.put, List.setIfInBounds_toArray, List.set_cons_zero, List.set_cons_succ]
                refine wpAnyH_ready (rs := [3]) (by kernel_rfl) (by simp) ?_
                refine AllReadyH.cons rfl (fun K hK => ?_) AllReadyH.nil
                have hszB := hHeld.size
                have hgB := Hob.out.lt rfl
                go_simp
                (go_at_call 11; refine (hnw.out _ hHeld).mono ?_; rintro e w4 ⟨hret, hbq⟩)
                rcases hret with ⟨hok, p7, n7, c7, q7, m7, d7, rfl, hsr, hown⟩ | ⟨hok, rfl⟩
                · subst hok
                  go_wp2_with fail
                  refine hK.out _ _ (bthen hHeld hbq) (fun hHeld => ?_)
                  clear hK K
                  try simp only [Act.put, List.setIfInBounds_toArray, List.set_cons_zero, List.set_cons_succ]
                  refine draw_take 4 64 (v := ?_) rfl rfl (by kernel_rfl) (by kernel_rfl) (by kernel_rfl) (fun _ _ _ h => h) (by kernel_rfl) ?hy hHeld ?_
                  case hy => (intro w hSw; (try dsimp only at hSw); go_simp; try (with_reducible rfl))
                  simp only [Act.put, List.setIfInBounds_toArray, List.set_cons_zero, List.set_cons_succ]
                  refine draw_take 5 69 (v := ?_) rfl rfl (by kernel_rfl) (by kernel_rfl) (by kernel_rfl) (fun _ _ _ h => h) (by kernel_rfl) ?hy hHeld ?_
                  case hy => (intro w hSw; (try dsimp only at hSw); go_simp; try (with_reducible rfl))
                  simp only [Act.put, List.setIfInBounds_toArray, List.set_cons_zero, List.set_cons_succ]
                  refine draw_take 6 70 (v := ?_) rfl rfl (by kernel_rfl) (by kernel_rfl) (by kernel_rfl) (fun _ _ _ h => h) (by kernel_rfl) ?hy hHeld ?_
                  case hy => (intro w hSw; (try dsimp only at hSw); go_simp; try (with_reducible rfl))
                  simp only [Act.put, List.setIfInBounds_toArray, List.set_cons_zero, List.set_cons_succ]
                  refine draw_take 7 71 (v := ?_) rfl rfl (by kernel_rfl) (by kernel_rfl) (by kernel_rfl) (fun _ _ _ h => h) (by kernel_rfl) ?hy hHeld ?_
                  case hy => (intro w hSw; (try dsimp only at hSw); go_simp; try (with_reducible rfl))
                  simp only [Act.put, List.setIfInBounds_toArray, List.set_cons_zero, List.set_cons_succ]
                  have hOb := Lib.hid (Hob.out.keep hbq (Hob.out.lt rfl))
                  have s0 := hOb.out.cell 0 _ rfl
                  have s1 := hOb.out.cell 1 _ rfl
                  have s2 := hOb.out.cell 2 _ rfl
                  have s3 := hOb.out.cell 3 _ rfl
                  have s4 := hOb.out.cell 4 _ rfl
                  have s5 := hOb.out.cell 5 _ rfl
                  have r0 := hOb.out.free 0
                  have r1 := hOb.out.free 1
                  have r2 := hOb.out.free 2
                  have r3 := hOb.out.free 3
                  have r4 := hOb.out.free 4
                  have r5 := hOb.out.free 5
                  have hB4 := hHeld
                  refine wpAnyH_ready (rs := [9]) (by kernel_rfl) (by simp) ?_
                  refine AllReadyH.cons rfl (fun K hK => ?_) AllReadyH.nil
                  go_simp
                  refine hK.out _ _ (below_set6 hB4 hgW) (fun hHeld => ?_)
                  clear hK K
                  try simp only [Act.put, List.setIfInBounds_toArray, List.set_cons_zero, List.set_cons_succ]
                  refine draw_take 10 11 (v := ?_) rfl rfl (by kernel_rfl) (by kernel_rfl) (by kernel_rfl) (fun _ _ _ h => h) (by kernel_rfl) ?hy hHeld ?_
                  case hy => (intro w hSw; (try dsimp only at hSw); go_simp; try (with_reducible rfl))
                  simp only [Act.put, List.setIfInBounds_toArray, List.set_cons_zero, List.set_cons_succ]
                  refine draw_take 11 12 (v := ?_) rfl rfl (by kernel_rfl) (by kernel_rfl) (by kernel_rfl) (fun _ _ _ h => h) (by kernel_rfl) ?hy hHeld ?_
                  case hy => (intro w hSw; (try dsimp only at hSw); go_simp; try (with_reducible rfl))
                  simp only [Act.put, List.setIfInBounds_toArray, List.set_cons_zero, List.set_cons_succ]
                  refine wpAnyH_done (by kernel_rfl) ?_ _
                  go_wp2_with fail
                  go_meet
                  exact nv_yes hB4 hgW hOb.out hsr hown hgB hszB
                · subst hok
                  go_wp2_with fail
                  refine hK.out _ _ (bthen hHeld hbq) (fun hHeld => ?_)
                  clear hK K
                  try simp only [Act.put, List.setIfInBounds_toArray, List.set_cons_zero, List.set_cons_succ]
                  refine draw_take 4 64 (v := ?_) rfl rfl (by kernel_rfl) (by kernel_rfl) (by kernel_rfl) (fun _ _ _ h => h) (by kernel_rfl) ?hy hHeld ?_
                  case hy => (intro w hSw; (try dsimp only at hSw); go_simp; try (with_reducible rfl))
                  simp only [Act.put, List.setIfInBounds_toArray, List.set_cons_zero, List.set_cons_succ]
                  refine draw_take 5 69 (v := ?_) rfl rfl (by kernel_rfl) (by kernel_rfl) (by kernel_rfl) (fun _ _ _ h => h) (by kernel_rfl) ?hy hHeld ?_
                  case hy => (intro w hSw; (try dsimp only at hSw); go_simp; try (with_reducible rfl))
                  simp only [Act.put, List.setIfInBounds_toArray, List.set_cons_zero, List.set_cons_succ]
                  refine draw_take 6 70 (v := ?_) rfl rfl (by kernel_rfl) (by kernel_rfl) (by kernel_rfl) (fun _ _ _ h => h) (by kernel_rfl) ?hy hHeld ?_
                  case hy => (intro w hSw; (try dsimp only at hSw); go_simp; try (with_reducible rfl))
                  simp only [Act.put, List.setIfInBounds_toArray, List.set_cons_zero, List.set_cons_succ]
                  refine draw_take 7 71 (v := ?_) rfl rfl (by kernel_rfl) (by kernel_rfl) (by kernel_rfl) (fun _ _ _ h => h) (by kernel_rfl) ?hy hHeld ?_
                  case hy => (intro w hSw; (try dsimp only at hSw); go_simp; try (with_reducible rfl))
                  simp only [Act.put, List.setIfInBounds_toArray, List.set_cons_zero, List.set_cons_succ]
                  have hOb := Lib.hid (Hob.out.keep hbq (Hob.out.lt rfl))
                  have s0 := hOb.out.cell 0 _ rfl
                  have s1 := hOb.out.cell 1 _ rfl
                  have s2 := hOb.out.cell 2 _ rfl
                  have s3 := hOb.out.cell 3 _ rfl
                  have s4 := hOb.out.cell 4 _ rfl
                  have s5 := hOb.out.cell 5 _ rfl
                  have r0 := hOb.out.free 0
                  have r1 := hOb.out.free 1
                  have r2 := hOb.out.free 2
                  have r3 := hOb.out.free 3
                  have r4 := hOb.out.free 4
                  have r5 := hOb.out.free 5
                  have hB4 := hHeld
                  refine wpAnyH_ready (rs := [9]) (by kernel_rfl) (by simp) ?_
                  refine AllReadyH.cons rfl (fun K hK => ?_) AllReadyH.nil
                  go_simp
                  refine hK.out _ _ (below_set6 hB4 hgW) (fun hHeld => ?_)
                  clear hK K
                  try simp only [Act.put, List.setIfInBounds_toArray, List.set_cons_zero, List.set_cons_succ]
                  refine draw_take 10 11 (v := ?_) rfl rfl (by kernel_rfl) (by kernel_rfl) (by kernel_rfl) (fun _ _ _ h => h) (by kernel_rfl) ?hy hHeld ?_
                  case hy => (intro w hSw; (try dsimp only at hSw); go_simp; try (with_reducible rfl))
                  simp only [Act.put, List.setIfInBounds_toArray, List.set_cons_zero, List.set_cons_succ]
                  refine draw_take 11 12 (v := ?_) rfl rfl (by kernel_rfl) (by kernel_rfl) (by kernel_rfl) (fun _ _ _ h => h) (by kernel_rfl) ?hy hHeld ?_
                  case hy => (intro w hSw; (try dsimp only at hSw); go_simp; try (with_reducible rfl))
                  simp only [Act.put, List.setIfInBounds_toArray, List.set_cons_zero, List.set_cons_succ]
                  refine wpAnyH_done (by kernel_rfl) ?_ _
                  go_wp2_with fail
                  go_meet
                  exact nv_no (below_set6 hB4 hgW)
            case rest =>
              obtain ⟨hBn, hyes, -⟩ := hcut
              have hyes := fun h => hyes (HOK.out.trans h)
              obtain ⟨rfl, rfl, g, p2, n2, c2, q2, m2, d2, rfl, hg, hOg, hsr, hown⟩ := hyes rfl
              obtain ⟨hpr, haw2⟩ := prow_away hown
              have k1 := cell_keep hBn k1
              have s3 := hOg.cell 3 _ rfl
              have hiu := Lib.hid (fun w' (hb : Below wc.heap.size wc w') => refInUse_b q2 m2 d2 HN.pages w' (hpr.keep hb))
              rw [hI.out] at hiu
              have HOg := Lib.hid hOg
              have hglt := hOg.lt rfl
              have Hsr := Lib.hid hsr
              have Hown := Lib.hid hown
              have Haw := Lib.hid haw2
              have Hhb2 := Lib.hid (Hhb.out.keep hBn hlb)
              have HBn := Lib.hid hBn
              have hlb2 : w1.heap.size < wc.heap.size := Nat.lt_of_lt_of_le hlb hBn.size
              clear hyes hpr hOg hsr hown haw2 hBn
              go_upto_region 12 with fail
              refine wp_region_held_drew (S := fun w' => Below wc.heap.size wc w') (by kernel_rfl) ((Below.refl _ _).drew) (fun hHeld => ?_)
              refine draw_take 0 72 (v := ?_) rfl rfl (by kernel_rfl) (by kernel_rfl) (by kernel_rfl) (fun _ _ _ h => h) (by kernel_rfl) ?hy hHeld ?_
              case hy => (intro w' hSw; (try dsimp only at hSw); have y0 := cell_keep hSw s3; have y1 := cell_keep hSw k1; go_simp; try (with_reducible rfl))
              simp only [Act.put, List.setIfInBounds_toArray, List.set_cons_zero, List.set_cons_succ]
              refine draw_take 1 73 (v := ?_) rfl rfl (by kernel_rfl) (by kernel_rfl) (by kernel_rfl) (fun _ _ _ h => h) (by kernel_rfl) ?hy hHeld ?_
              case hy => (intro w' hSw; (try dsimp only at hSw); have y0 := cell_keep hSw s3; have y1 := cell_keep hSw k1; go_simp; try (with_reducible rfl))
              simp only [Act.put, List.setIfInBounds_toArray, List.set_cons_zero, List.set_cons_succ]
              refine draw_take 2 74 (v := ?_) rfl rfl (by kernel_rfl) (by kernel_rfl) (by kernel_rfl) (fun _ _ _ h => h) (by kernel_rfl) ?hy hHeld ?_
              case hy => (intro w' hSw; (try dsimp only at hSw); have y0 := cell_keep hSw s3; have y1 := cell_keep hSw k1; go_simp; try (with_reducible rfl))
              simp only [Act.put, List.setIfInBounds_toArray, List.set_cons_zero, List.set_cons_succ]
              refine draw_take 3 75 (v := ?_) rfl rfl (by kernel_rfl) (by kernel_rfl) (by kernel_rfl) (fun _ _ _ h => h) (by kernel_rfl) ?hy hHeld ?_
              case hy => (intro w' hSw; (try dsimp only at hSw); have y0 := cell_keep hSw s3; have y1 := cell_keep hSw k1; go_simp; try (with_reducible rfl))
              simp only [Act.put, List.setIfInBounds_toArray, List.set_cons_zero, List.set_cons_succ]
              refine draw_take 4 76 (v := ?_) rfl rfl (by kernel_rfl) (by kernel_rfl) (by kernel_rfl) (fun _ _ _ h => h) (by kernel_rfl) ?hy hHeld ?_
              case hy => (intro w' hSw; (try dsimp only at hSw); have y0 := cell_keep hSw s3; have y1 := cell_keep hSw k1; go_simp; try (with_reducible rfl))
              simp only [Act.put, List.setIfInBounds_toArray, List.set_cons_zero, List.set_cons_succ]
              refine draw_take 6 78 (v := ?_) rfl rfl (by kernel_rfl) (by kernel_rfl) (by kernel_rfl) (fun _ _ _ h => h) (by kernel_rfl) ?hy hHeld ?_
              case hy => (intro w' hSw; (try dsimp only at hSw); have y0 := cell_keep hSw s3; have y1 := cell_keep hSw k1; go_simp; try (with_reducible rfl))
              simp only [Act.put, List.setIfInBounds_toArray, List.set_cons_zero, List.set_cons_succ]
              refine draw_take 7 79 (v := ?_) rfl rfl (by kernel_rfl) (by kernel_rfl) (by kernel_rfl) (fun _ _ _ h => h) (by kernel_rfl) ?hy hHeld ?_
              case hy => (intro w' hSw; (try dsimp only at hSw); have y0 := cell_keep hSw s3; have y1 := cell_keep hSw k1; go_simp; try (with_reducible rfl))
              simp only [Act.put, List.setIfInBounds_toArray, List.set_cons_zero, List.set_cons_succ]
              refine draw_take 8 80 (v := ?_) rfl rfl (by kernel_rfl) (by kernel_rfl) (by kernel_rfl) (fun _ _ _ h => h) (by kernel_rfl) ?hy hHeld ?_
              case hy => (intro w' hSw; (try dsimp only at hSw); have y0 := cell_keep hSw s3; have y1 := cell_keep hSw k1; go_simp; try (with_reducible rfl))
              simp only [Act.put, List.setIfInBounds_toArray, List.set_cons_zero, List.set_cons_succ]
              refine wpAnyH_ready (rs := [5]) (by kernel_rfl) (by simp) ?_
              refine AllReadyH.cons rfl (fun K hK => ?_) AllReadyH.nil
              go_simp
              (go_at_call 12; refine (hiu.out _ hHeld).mono ?_; rintro e w5 ⟨rfl, hbq⟩)
              go_wp2_with fail
              refine hK.out _ _ (bthen hHeld hbq) (fun hHeld => ?_)
              clear hK K
              try simp only [Act.put, List.setIfInBounds_toArray, List.set_cons_zero, List.set_cons_succ]
              refine draw_take 9 81 (v := ?_) rfl rfl (by kernel_rfl) (by kernel_rfl) (by kernel_rfl) (fun _ _ _ h => h) (by kernel_rfl) ?hy hHeld ?_
              case hy => (intro w' hSw; (try dsimp only at hSw); skip; go_simp; try (with_reducible rfl))
              simp only [Act.put, List.setIfInBounds_toArray, List.set_cons_zero, List.set_cons_succ]
              refine draw_take 10 82 (v := ?_) rfl rfl (by kernel_rfl) (by kernel_rfl) (by kernel_rfl) (fun _ _ _ h => h) (by kernel_rfl) ?hy hHeld ?_
              case hy => (intro w' hSw; (try dsimp only at hSw); skip; go_simp; try (with_reducible rfl))
              simp only [Act.put, List.setIfInBounds_toArray, List.set_cons_zero, List.set_cons_succ]
              refine wpAnyH_done (by kernel_rfl) ?_ _
              have hB5 := Lib.hid hHeld
              have HOg5 := HOg.out.keep hHeld hglt
              have Hhb5 := Lib.hid (Hhb2.out.keep hHeld hlb2)
              have hsr5 := Hsr.out.keep hHeld
              have hown5 := own_store6 (own_below Hown.out hHeld) hlb (.int .i64 HN.pw) (.int .i64 HN.np) (.slice p2 n2 c2) (.slice q2 m2 d2) (.int .i64 HN.space) (.int .i64 HN.bump)
              have Hpr6 := Lib.hid (prow_away hown5)
              have Hsr6 := Lib.hid (SRow.set6o hsr5 (Own6.ofL Hhb5.out) (fun x e => by cases e) (fun x e => by cases e) (fun x e => by cases e) (fun x e => by cases e) (fun x e => by cases e) (fun x e => by cases e) (.int .i64 HN.pw) (.int .i64 HN.np) (.slice p2 n2 c2) (.slice q2 m2 d2) (.int .i64 HN.space) (.int .i64 HN.bump))
              have Hhb6 := Lib.hid (ownL_store6 Hhb5.out (.int .i64 HN.pw) (.int .i64 HN.np) (.slice p2 n2 c2) (.slice q2 m2 d2) (.int .i64 HN.space) (.int .i64 HN.bump))
              have HB6 := Lib.hid (below_set6 (b := w1.heap.size) (x0 := .int .i64 HN.pw) (x1 := .int .i64 HN.np) (x2 := .slice p2 n2 c2) (x3 := .slice q2 m2 d2) (x4 := .int .i64 HN.space) (x5 := .int .i64 HN.bump) (HBl.out.trans ((bthen HBn.out hB5.out).mono (Nat.le_of_lt hlb))) (Nat.le_refl _))
              have s0 := HOg5.cell 0 _ rfl
              have s1 := HOg5.cell 1 _ rfl
              have s2 := HOg5.cell 2 _ rfl
              have s3 := HOg5.cell 3 _ rfl
              have s4 := HOg5.cell 4 _ rfl
              have s5 := HOg5.cell 5 _ rfl
              obtain ⟨c0, c1, c2', c3, c4, c5, f0, f1, f2, f3, f4, f5⟩ := Own6.ofL Hhb5.out
              have hgne : g ≠ w1.heap.size := by omega
              clear hHeld hsr5 hown5 HOg5 hiu hB5
              go_wp2
              go_roundw
              case rel => exact ⟨t + 1, by omega, by go_num, HN, p2, n2, c2, q2, m2, d2, Hch2.out, Hhb6.out, Hsr6.out, Hpr6.out.1, fun ad e => by have := Hpr6.out.2 ad e; omega, HB6.out⟩
              case measure => simp [intOf]; omega
          · obtain rfl : t = MO := by omega
            have hno := Chsp.out _ hch
            have HOK := Lib.hid (hOK.out.symm.trans hno)
            have HBw := Lib.hid (hBa.out.trans (HBl.out.mono (show w.heap.size ≤ w1.heap.size by omega)))
            clear hno hch hok
            go_upto_region 15 with fail
            go_cut [13, 14, 15] (fun ta tb tc wx => NvCut wr OK HN A ta tb tc wx)
            case first =>
              refine wp_region_held_drew (S := fun w' => Below wr.heap.size wr w') (by kernel_rfl) ((Below.refl _ _).drew) (fun hHeld => ?_)
              refine draw_take 0 85 (v := ?_) rfl rfl (by kernel_rfl) (by kernel_rfl) (by kernel_rfl) (fun _ _ _ h => h) (by kernel_rfl) ?hy hHeld ?_
              case hy => (intro w' hSw; (try dsimp only at hSw); have x0 := cell_keep hSw (Hhb.out.cell 0 _ rfl); have x1 := cell_keep hSw (Hhb.out.cell 1 _ rfl); have x2 := cell_keep hSw (Hhb.out.cell 2 _ rfl); have x3 := cell_keep hSw (Hhb.out.cell 3 _ rfl); have x4 := cell_keep hSw (Hhb.out.cell 4 _ rfl); have x5 := cell_keep hSw (Hhb.out.cell 5 _ rfl); go_simp; try (with_reducible rfl))
              simp only [Act.put, List.setIfInBounds_toArray, List.set_cons_zero, List.set_cons_succ]
              refine draw_take 1 86 (v := ?_) rfl rfl (by kernel_rfl) (by kernel_rfl) (by kernel_rfl) (fun _ _ _ h => h) (by kernel_rfl) ?hy hHeld ?_
              case hy => (intro w hSw; (try dsimp only at hSw); go_simp; try (with_reducible rfl))
              simp only [Act.put, List.setIfInBounds_toArray, List.set_cons_zero, List.set_cons_succ]
              refine wpAnyH_ready (rs := [2, 8]) (by kernel_rfl) (by simp) ?_
              refine AllReadyH.cons rfl (fun K hK => ?_) (AllReadyH.cons rfl (fun K hK => ?_) AllReadyH.nil)
              · go_simp
                (go_at_call 9; refine (hwo.out _).mono ?_; rintro e w3 ⟨rfl, hbq⟩)
                go_wp2_with fail
                refine hK.out _ _ (bthen hHeld hbq) (fun hHeld => ?_)
                clear hK K
                try simp only [Act.put, List.setIfInBounds_toArray, List.set_cons_zero, List.set_cons_succ]
                refine wpAnyH_ready (rs := [3, 8]) (by kernel_rfl) (by simp) ?_
                refine AllReadyH.cons rfl (fun K hK => ?_) (AllReadyH.cons rfl (fun K hK => ?_) AllReadyH.nil)
                · have hszB := hHeld.size
                  go_simp
                  (go_at_call 11; refine (hnw.out _ hHeld).mono ?_; rintro e w4 ⟨hret, hbq⟩)
                  rcases hret with ⟨hok, p7, n7, c7, q7, m7, d7, rfl, hsr, hown⟩ | ⟨hok, rfl⟩
                  · subst hok
                    go_wp2_with fail
                    refine hK.out _ _ (bthen hHeld hbq) (fun hHeld => ?_)
                    clear hK K
                    try simp only [Act.put, List.setIfInBounds_toArray, List.set_cons_zero, List.set_cons_succ]
                    refine draw_take 4 84 (v := ?_) rfl rfl (by kernel_rfl) (by kernel_rfl) (by kernel_rfl) (fun _ _ _ h => h) (by kernel_rfl) ?hy hHeld ?_
                    case hy => (intro w hSw; (try dsimp only at hSw); go_simp; try (with_reducible rfl))
                    simp only [Act.put, List.setIfInBounds_toArray, List.set_cons_zero, List.set_cons_succ]
                    refine draw_take 5 89 (v := ?_) rfl rfl (by kernel_rfl) (by kernel_rfl) (by kernel_rfl) (fun _ _ _ h => h) (by kernel_rfl) ?hy hHeld ?_
                    case hy => (intro w hSw; (try dsimp only at hSw); go_simp; try (with_reducible rfl))
                    simp only [Act.put, List.setIfInBounds_toArray, List.set_cons_zero, List.set_cons_succ]
                    refine draw_take 6 90 (v := ?_) rfl rfl (by kernel_rfl) (by kernel_rfl) (by kernel_rfl) (fun _ _ _ h => h) (by kernel_rfl) ?hy hHeld ?_
                    case hy => (intro w hSw; (try dsimp only at hSw); go_simp; try (with_reducible rfl))
                    simp only [Act.put, List.setIfInBounds_toArray, List.set_cons_zero, List.set_cons_succ]
                    refine draw_take 7 91 (v := ?_) rfl rfl (by kernel_rfl) (by kernel_rfl) (by kernel_rfl) (fun _ _ _ h => h) (by kernel_rfl) ?hy hHeld ?_
                    case hy => (intro w hSw; (try dsimp only at hSw); go_simp; try (with_reducible rfl))
                    simp only [Act.put, List.setIfInBounds_toArray, List.set_cons_zero, List.set_cons_succ]
                    have hB4 := hHeld
                    refine wpAnyH_ready (rs := [8]) (by kernel_rfl) (by simp) ?_
                    refine AllReadyH.cons rfl (fun K hK => ?_) AllReadyH.nil
                    go_simp
                    refine hK.out _ _ (bthen hHeld below_box) (fun hHeld => ?_)
                    clear hK K
                    try simp only [Act.put, List.setIfInBounds_toArray, List.set_cons_zero, List.set_cons_succ]
                    refine wpAnyH_ready (rs := [9]) (by kernel_rfl) (by simp) ?_
                    refine AllReadyH.cons rfl (fun K hK => ?_) AllReadyH.nil
                    go_simp
                    refine hK.out _ _ (bthen hB4 below_box) (fun hHeld => ?_)
                    clear hK K
                    try simp only [Act.put, List.setIfInBounds_toArray, List.set_cons_zero, List.set_cons_succ]
                    refine draw_take 10 14 (v := ?_) rfl rfl (by kernel_rfl) (by kernel_rfl) (by kernel_rfl) (fun _ _ _ h => h) (by kernel_rfl) ?hy hHeld ?_
                    case hy => (intro w hSw; (try dsimp only at hSw); go_simp; try (with_reducible rfl))
                    simp only [Act.put, List.setIfInBounds_toArray, List.set_cons_zero, List.set_cons_succ]
                    refine draw_take 11 15 (v := ?_) rfl rfl (by kernel_rfl) (by kernel_rfl) (by kernel_rfl) (fun _ _ _ h => h) (by kernel_rfl) ?hy hHeld ?_
                    case hy => (intro w hSw; (try dsimp only at hSw); go_simp; try (with_reducible rfl))
                    simp only [Act.put, List.setIfInBounds_toArray, List.set_cons_zero, List.set_cons_succ]
                    refine wpAnyH_done (by kernel_rfl) ?_ _
                    go_wp2_with fail
                    go_meet
                    exact nv_new hB4 hsr hown hszB
                  · subst hok
                    go_wp2_with fail
                    refine hK.out _ _ (bthen hHeld hbq) (fun hHeld => ?_)
                    clear hK K
                    try simp only [Act.put, List.setIfInBounds_toArray, List.set_cons_zero, List.set_cons_succ]
                    refine draw_take 4 84 (v := ?_) rfl rfl (by kernel_rfl) (by kernel_rfl) (by kernel_rfl) (fun _ _ _ h => h) (by kernel_rfl) ?hy hHeld ?_
                    case hy => (intro w hSw; (try dsimp only at hSw); go_simp; try (with_reducible rfl))
                    simp only [Act.put, List.setIfInBounds_toArray, List.set_cons_zero, List.set_cons_succ]
                    refine draw_take 5 89 (v := ?_) rfl rfl (by kernel_rfl) (by kernel_rfl) (by kernel_rfl) (fun _ _ _ h => h) (by kernel_rfl) ?hy hHeld ?_
                    case hy => (intro w hSw; (try dsimp only at hSw); go_simp; try (with_reducible rfl))
                    simp only [Act.put, List.setIfInBounds_toArray, List.set_cons_zero, List.set_cons_succ]
                    refine draw_take 6 90 (v := ?_) rfl rfl (by kernel_rfl) (by kernel_rfl) (by kernel_rfl) (fun _ _ _ h => h) (by kernel_rfl) ?hy hHeld ?_
                    case hy => (intro w hSw; (try dsimp only at hSw); go_simp; try (with_reducible rfl))
                    simp only [Act.put, List.setIfInBounds_toArray, List.set_cons_zero, List.set_cons_succ]
                    refine draw_take 7 91 (v := ?_) rfl rfl (by kernel_rfl) (by kernel_rfl) (by kernel_rfl) (fun _ _ _ h => h) (by kernel_rfl) ?hy hHeld ?_
                    case hy => (intro w hSw; (try dsimp only at hSw); go_simp; try (with_reducible rfl))
                    simp only [Act.put, List.setIfInBounds_toArray, List.set_cons_zero, List.set_cons_succ]
                    have hB4 := hHeld
                    refine wpAnyH_ready (rs := [8]) (by kernel_rfl) (by simp) ?_
                    refine AllReadyH.cons rfl (fun K hK => ?_) AllReadyH.nil
                    go_simp
                    refine hK.out _ _ (bthen hHeld below_box) (fun hHeld => ?_)
                    clear hK K
                    try simp only [Act.put, List.setIfInBounds_toArray, List.set_cons_zero, List.set_cons_succ]
                    refine wpAnyH_ready (rs := [9]) (by kernel_rfl) (by simp) ?_
                    refine AllReadyH.cons rfl (fun K hK => ?_) AllReadyH.nil
                    go_simp
                    refine hK.out _ _ (bthen hB4 below_box) (fun hHeld => ?_)
                    clear hK K
                    try simp only [Act.put, List.setIfInBounds_toArray, List.set_cons_zero, List.set_cons_succ]
                    refine draw_take 10 14 (v := ?_) rfl rfl (by kernel_rfl) (by kernel_rfl) (by kernel_rfl) (fun _ _ _ h => h) (by kernel_rfl) ?hy hHeld ?_
                    case hy => (intro w hSw; (try dsimp only at hSw); go_simp; try (with_reducible rfl))
                    simp only [Act.put, List.setIfInBounds_toArray, List.set_cons_zero, List.set_cons_succ]
                    refine draw_take 11 15 (v := ?_) rfl rfl (by kernel_rfl) (by kernel_rfl) (by kernel_rfl) (fun _ _ _ h => h) (by kernel_rfl) ?hy hHeld ?_
                    case hy => (intro w hSw; (try dsimp only at hSw); go_simp; try (with_reducible rfl))
                    simp only [Act.put, List.setIfInBounds_toArray, List.set_cons_zero, List.set_cons_succ]
                    refine wpAnyH_done (by kernel_rfl) ?_ _
                    go_wp2_with fail
                    go_meet
                    exact nv_no (bthen hB4 below_box)
                · have hgW := hHeld.size
                  have Hob := Lib.hid (OwnL.new w3 [.int .i64 0, .int .i64 0, .slice none 0 0, .slice none 0 0, .int .i64 0, .int .i64 0] 32)
                  go_simp
                  refine hK.out _ _ (bthen hHeld below_box) (fun hHeld => ?_)
                  clear hK K
                  try simp only [Act.put, List.setIfInBounds_toArray, List.set_cons_zero, List.set_cons_succ]
                  refine wpAnyH_ready (rs := [3]) (by kernel_rfl) (by simp) ?_
                  refine AllReadyH.cons rfl (fun K hK => ?_) AllReadyH.nil
                  have hszB := hHeld.size
                  have hgB := Hob.out.lt rfl
                  go_simp
                  (go_at_call 11; refine (hnw.out _ hHeld).mono ?_; rintro e w4 ⟨hret, hbq⟩)
                  rcases hret with ⟨hok, p7, n7, c7, q7, m7, d7, rfl, hsr, hown⟩ | ⟨hok, rfl⟩
                  · subst hok
                    go_wp2_with fail
                    refine hK.out _ _ (bthen hHeld hbq) (fun hHeld => ?_)
                    clear hK K
                    try simp only [Act.put, List.setIfInBounds_toArray, List.set_cons_zero, List.set_cons_succ]
                    refine draw_take 4 84 (v := ?_) rfl rfl (by kernel_rfl) (by kernel_rfl) (by kernel_rfl) (fun _ _ _ h => h) (by kernel_rfl) ?hy hHeld ?_
                    case hy => (intro w hSw; (try dsimp only at hSw); go_simp; try (with_reducible rfl))
                    simp only [Act.put, List.setIfInBounds_toArray, List.set_cons_zero, List.set_cons_succ]
                    refine draw_take 5 89 (v := ?_) rfl rfl (by kernel_rfl) (by kernel_rfl) (by kernel_rfl) (fun _ _ _ h => h) (by kernel_rfl) ?hy hHeld ?_
                    case hy => (intro w hSw; (try dsimp only at hSw); go_simp; try (with_reducible rfl))
                    simp only [Act.put, List.setIfInBounds_toArray, List.set_cons_zero, List.set_cons_succ]
                    refine draw_take 6 90 (v := ?_) rfl rfl (by kernel_rfl) (by kernel_rfl) (by kernel_rfl) (fun _ _ _ h => h) (by kernel_rfl) ?hy hHeld ?_
                    case hy => (intro w hSw; (try dsimp only at hSw); go_simp; try (with_reducible rfl))
                    simp only [Act.put, List.setIfInBounds_toArray, List.set_cons_zero, List.set_cons_succ]
                    refine draw_take 7 91 (v := ?_) rfl rfl (by kernel_rfl) (by kernel_rfl) (by kernel_rfl) (fun _ _ _ h => h) (by kernel_rfl) ?hy hHeld ?_
                    case hy => (intro w hSw; (try dsimp only at hSw); go_simp; try (with_reducible rfl))
                    simp only [Act.put, List.setIfInBounds_toArray, List.set_cons_zero, List.set_cons_succ]
                    have hOb := Lib.hid (Hob.out.keep hbq (Hob.out.lt rfl))
                    have s0 := hOb.out.cell 0 _ rfl
                    have s1 := hOb.out.cell 1 _ rfl
                    have s2 := hOb.out.cell 2 _ rfl
                    have s3 := hOb.out.cell 3 _ rfl
                    have s4 := hOb.out.cell 4 _ rfl
                    have s5 := hOb.out.cell 5 _ rfl
                    have r0 := hOb.out.free 0
                    have r1 := hOb.out.free 1
                    have r2 := hOb.out.free 2
                    have r3 := hOb.out.free 3
                    have r4 := hOb.out.free 4
                    have r5 := hOb.out.free 5
                    have hB4 := hHeld
                    refine wpAnyH_ready (rs := [9]) (by kernel_rfl) (by simp) ?_
                    refine AllReadyH.cons rfl (fun K hK => ?_) AllReadyH.nil
                    go_simp
                    refine hK.out _ _ (below_set6 hB4 hgW) (fun hHeld => ?_)
                    clear hK K
                    try simp only [Act.put, List.setIfInBounds_toArray, List.set_cons_zero, List.set_cons_succ]
                    refine draw_take 10 14 (v := ?_) rfl rfl (by kernel_rfl) (by kernel_rfl) (by kernel_rfl) (fun _ _ _ h => h) (by kernel_rfl) ?hy hHeld ?_
                    case hy => (intro w hSw; (try dsimp only at hSw); go_simp; try (with_reducible rfl))
                    simp only [Act.put, List.setIfInBounds_toArray, List.set_cons_zero, List.set_cons_succ]
                    refine draw_take 11 15 (v := ?_) rfl rfl (by kernel_rfl) (by kernel_rfl) (by kernel_rfl) (fun _ _ _ h => h) (by kernel_rfl) ?hy hHeld ?_
                    case hy => (intro w hSw; (try dsimp only at hSw); go_simp; try (with_reducible rfl))
                    simp only [Act.put, List.setIfInBounds_toArray, List.set_cons_zero, List.set_cons_succ]
                    refine wpAnyH_done (by kernel_rfl) ?_ _
                    go_wp2_with fail
                    go_meet
                    exact nv_yes hB4 hgW hOb.out hsr hown hgB hszB
                  · subst hok
                    go_wp2_with fail
                    refine hK.out _ _ (bthen hHeld hbq) (fun hHeld => ?_)
                    clear hK K
                    try simp only [Act.put, List.setIfInBounds_toArray, List.set_cons_zero, List.set_cons_succ]
                    refine draw_take 4 84 (v := ?_) rfl rfl (by kernel_rfl) (by kernel_rfl) (by kernel_rfl) (fun _ _ _ h => h) (by kernel_rfl) ?hy hHeld ?_
                    case hy => (intro w hSw; (try dsimp only at hSw); go_simp; try (with_reducible rfl))
                    simp only [Act.put, List.setIfInBounds_toArray, List.set_cons_zero, List.set_cons_succ]
                    refine draw_take 5 89 (v := ?_) rfl rfl (by kernel_rfl) (by kernel_rfl) (by kernel_rfl) (fun _ _ _ h => h) (by kernel_rfl) ?hy hHeld ?_
                    case hy => (intro w hSw; (try dsimp only at hSw); go_simp; try (with_reducible rfl))
                    simp only [Act.put, List.setIfInBounds_toArray, List.set_cons_zero, List.set_cons_succ]
                    refine draw_take 6 90 (v := ?_) rfl rfl (by kernel_rfl) (by kernel_rfl) (by kernel_rfl) (fun _ _ _ h => h) (by kernel_rfl) ?hy hHeld ?_
                    case hy => (intro w hSw; (try dsimp only at hSw); go_simp; try (with_reducible rfl))
                    simp only [Act.put, List.setIfInBounds_toArray, List.set_cons_zero, List.set_cons_succ]
                    refine draw_take 7 91 (v := ?_) rfl rfl (by kernel_rfl) (by kernel_rfl) (by kernel_rfl) (fun _ _ _ h => h) (by kernel_rfl) ?hy hHeld ?_
                    case hy => (intro w hSw; (try dsimp only at hSw); go_simp; try (with_reducible rfl))
                    simp only [Act.put, List.setIfInBounds_toArray, List.set_cons_zero, List.set_cons_succ]
                    have hOb := Lib.hid (Hob.out.keep hbq (Hob.out.lt rfl))
                    have s0 := hOb.out.cell 0 _ rfl
                    have s1 := hOb.out.cell 1 _ rfl
                    have s2 := hOb.out.cell 2 _ rfl
                    have s3 := hOb.out.cell 3 _ rfl
                    have s4 := hOb.out.cell 4 _ rfl
                    have s5 := hOb.out.cell 5 _ rfl
                    have r0 := hOb.out.free 0
                    have r1 := hOb.out.free 1
                    have r2 := hOb.out.free 2
                    have r3 := hOb.out.free 3
                    have r4 := hOb.out.free 4
                    have r5 := hOb.out.free 5
                    have hB4 := hHeld
                    refine wpAnyH_ready (rs := [9]) (by kernel_rfl) (by simp) ?_
                    refine AllReadyH.cons rfl (fun K hK => ?_) AllReadyH.nil
                    go_simp
                    refine hK.out _ _ (below_set6 hB4 hgW) (fun hHeld => ?_)
                    clear hK K
                    try simp only [Act.put, List.setIfInBounds_toArray, List.set_cons_zero, List.set_cons_succ]
                    refine draw_take 10 14 (v := ?_) rfl rfl (by kernel_rfl) (by kernel_rfl) (by kernel_rfl) (fun _ _ _ h => h) (by kernel_rfl) ?hy hHeld ?_
                    case hy => (intro w hSw; (try dsimp only at hSw); go_simp; try (with_reducible rfl))
                    simp only [Act.put, List.setIfInBounds_toArray, List.set_cons_zero, List.set_cons_succ]
                    refine draw_take 11 15 (v := ?_) rfl rfl (by kernel_rfl) (by kernel_rfl) (by kernel_rfl) (fun _ _ _ h => h) (by kernel_rfl) ?hy hHeld ?_
                    case hy => (intro w hSw; (try dsimp only at hSw); go_simp; try (with_reducible rfl))
                    simp only [Act.put, List.setIfInBounds_toArray, List.set_cons_zero, List.set_cons_succ]
                    refine wpAnyH_done (by kernel_rfl) ?_ _
                    go_wp2_with fail
                    go_meet
                    exact nv_no (below_set6 hB4 hgW)
              · have hgW : wr.heap.size ≤ wr.heap.size := Nat.le_refl _
                have Hob := Lib.hid (OwnL.new wr.drew [.int .i64 0, .int .i64 0, .slice none 0 0, .slice none 0 0, .int .i64 0, .int .i64 0] 32)
                simp only [World.size_drew] at Hob
                go_simp
                refine hK.out _ _ (bthen hHeld below_box) (fun hHeld => ?_)
                clear hK K
                try simp only [Act.put, List.setIfInBounds_toArray, List.set_cons_zero, List.set_cons_succ]
                refine wpAnyH_ready (rs := [2]) (by kernel_rfl) (by simp) ?_
                refine AllReadyH.cons rfl (fun K hK => ?_) AllReadyH.nil
                go_simp
                (go_at_call 9; refine (hwo.out _).mono ?_; rintro e w3 ⟨rfl, hbq⟩)
                have Hob := Lib.hid (Hob.out.keep hbq (Hob.out.lt rfl))
                go_wp2_with fail
                refine hK.out _ _ (bthen hHeld hbq) (fun hHeld => ?_)
                clear hK K
                try simp only [Act.put, List.setIfInBounds_toArray, List.set_cons_zero, List.set_cons_succ]
                refine wpAnyH_ready (rs := [3]) (by kernel_rfl) (by simp) ?_
                refine AllReadyH.cons rfl (fun K hK => ?_) AllReadyH.nil
                have hszB := hHeld.size
                have hgB := Hob.out.lt rfl
                go_simp
                (go_at_call 11; refine (hnw.out _ hHeld).mono ?_; rintro e w4 ⟨hret, hbq⟩)
                rcases hret with ⟨hok, p7, n7, c7, q7, m7, d7, rfl, hsr, hown⟩ | ⟨hok, rfl⟩
                · subst hok
                  go_wp2_with fail
                  refine hK.out _ _ (bthen hHeld hbq) (fun hHeld => ?_)
                  clear hK K
                  try simp only [Act.put, List.setIfInBounds_toArray, List.set_cons_zero, List.set_cons_succ]
                  refine draw_take 4 84 (v := ?_) rfl rfl (by kernel_rfl) (by kernel_rfl) (by kernel_rfl) (fun _ _ _ h => h) (by kernel_rfl) ?hy hHeld ?_
                  case hy => (intro w hSw; (try dsimp only at hSw); go_simp; try (with_reducible rfl))
                  simp only [Act.put, List.setIfInBounds_toArray, List.set_cons_zero, List.set_cons_succ]
                  refine draw_take 5 89 (v := ?_) rfl rfl (by kernel_rfl) (by kernel_rfl) (by kernel_rfl) (fun _ _ _ h => h) (by kernel_rfl) ?hy hHeld ?_
                  case hy => (intro w hSw; (try dsimp only at hSw); go_simp; try (with_reducible rfl))
                  simp only [Act.put, List.setIfInBounds_toArray, List.set_cons_zero, List.set_cons_succ]
                  refine draw_take 6 90 (v := ?_) rfl rfl (by kernel_rfl) (by kernel_rfl) (by kernel_rfl) (fun _ _ _ h => h) (by kernel_rfl) ?hy hHeld ?_
                  case hy => (intro w hSw; (try dsimp only at hSw); go_simp; try (with_reducible rfl))
                  simp only [Act.put, List.setIfInBounds_toArray, List.set_cons_zero, List.set_cons_succ]
                  refine draw_take 7 91 (v := ?_) rfl rfl (by kernel_rfl) (by kernel_rfl) (by kernel_rfl) (fun _ _ _ h => h) (by kernel_rfl) ?hy hHeld ?_
                  case hy => (intro w hSw; (try dsimp only at hSw); go_simp; try (with_reducible rfl))
                  simp only [Act.put, List.setIfInBounds_toArray, List.set_cons_zero, List.set_cons_succ]
                  have hOb := Lib.hid (Hob.out.keep hbq (Hob.out.lt rfl))
                  have s0 := hOb.out.cell 0 _ rfl
                  have s1 := hOb.out.cell 1 _ rfl
                  have s2 := hOb.out.cell 2 _ rfl
                  have s3 := hOb.out.cell 3 _ rfl
                  have s4 := hOb.out.cell 4 _ rfl
                  have s5 := hOb.out.cell 5 _ rfl
                  have r0 := hOb.out.free 0
                  have r1 := hOb.out.free 1
                  have r2 := hOb.out.free 2
                  have r3 := hOb.out.free 3
                  have r4 := hOb.out.free 4
                  have r5 := hOb.out.free 5
                  have hB4 := hHeld
                  refine wpAnyH_ready (rs := [9]) (by kernel_rfl) (by simp) ?_
                  refine AllReadyH.cons rfl (fun K hK => ?_) AllReadyH.nil
                  go_simp
                  refine hK.out _ _ (below_set6 hB4 hgW) (fun hHeld => ?_)
                  clear hK K
                  try simp only [Act.put, List.setIfInBounds_toArray, List.set_cons_zero, List.set_cons_succ]
                  refine draw_take 10 14 (v := ?_) rfl rfl (by kernel_rfl) (by kernel_rfl) (by kernel_rfl) (fun _ _ _ h => h) (by kernel_rfl) ?hy hHeld ?_
                  case hy => (intro w hSw; (try dsimp only at hSw); go_simp; try (with_reducible rfl))
                  simp only [Act.put, List.setIfInBounds_toArray, List.set_cons_zero, List.set_cons_succ]
                  refine draw_take 11 15 (v := ?_) rfl rfl (by kernel_rfl) (by kernel_rfl) (by kernel_rfl) (fun _ _ _ h => h) (by kernel_rfl) ?hy hHeld ?_
                  case hy => (intro w hSw; (try dsimp only at hSw); go_simp; try (with_reducible rfl))
                  simp only [Act.put, List.setIfInBounds_toArray, List.set_cons_zero, List.set_cons_succ]
                  refine wpAnyH_done (by kernel_rfl) ?_ _
                  go_wp2_with fail
                  go_meet
                  exact nv_yes hB4 hgW hOb.out hsr hown hgB hszB
                · subst hok
                  go_wp2_with fail
                  refine hK.out _ _ (bthen hHeld hbq) (fun hHeld => ?_)
                  clear hK K
                  try simp only [Act.put, List.setIfInBounds_toArray, List.set_cons_zero, List.set_cons_succ]
                  refine draw_take 4 84 (v := ?_) rfl rfl (by kernel_rfl) (by kernel_rfl) (by kernel_rfl) (fun _ _ _ h => h) (by kernel_rfl) ?hy hHeld ?_
                  case hy => (intro w hSw; (try dsimp only at hSw); go_simp; try (with_reducible rfl))
                  simp only [Act.put, List.setIfInBounds_toArray, List.set_cons_zero, List.set_cons_succ]
                  refine draw_take 5 89 (v := ?_) rfl rfl (by kernel_rfl) (by kernel_rfl) (by kernel_rfl) (fun _ _ _ h => h) (by kernel_rfl) ?hy hHeld ?_
                  case hy => (intro w hSw; (try dsimp only at hSw); go_simp; try (with_reducible rfl))
                  simp only [Act.put, List.setIfInBounds_toArray, List.set_cons_zero, List.set_cons_succ]
                  refine draw_take 6 90 (v := ?_) rfl rfl (by kernel_rfl) (by kernel_rfl) (by kernel_rfl) (fun _ _ _ h => h) (by kernel_rfl) ?hy hHeld ?_
                  case hy => (intro w hSw; (try dsimp only at hSw); go_simp; try (with_reducible rfl))
                  simp only [Act.put, List.setIfInBounds_toArray, List.set_cons_zero, List.set_cons_succ]
                  refine draw_take 7 91 (v := ?_) rfl rfl (by kernel_rfl) (by kernel_rfl) (by kernel_rfl) (fun _ _ _ h => h) (by kernel_rfl) ?hy hHeld ?_
                  case hy => (intro w hSw; (try dsimp only at hSw); go_simp; try (with_reducible rfl))
                  simp only [Act.put, List.setIfInBounds_toArray, List.set_cons_zero, List.set_cons_succ]
                  have hOb := Lib.hid (Hob.out.keep hbq (Hob.out.lt rfl))
                  have s0 := hOb.out.cell 0 _ rfl
                  have s1 := hOb.out.cell 1 _ rfl
                  have s2 := hOb.out.cell 2 _ rfl
                  have s3 := hOb.out.cell 3 _ rfl
                  have s4 := hOb.out.cell 4 _ rfl
                  have s5 := hOb.out.cell 5 _ rfl
                  have r0 := hOb.out.free 0
                  have r1 := hOb.out.free 1
                  have r2 := hOb.out.free 2
                  have r3 := hOb.out.free 3
                  have r4 := hOb.out.free 4
                  have r5 := hOb.out.free 5
                  have hB4 := hHeld
                  refine wpAnyH_ready (rs := [9]) (by kernel_rfl) (by simp) ?_
                  refine AllReadyH.cons rfl (fun K hK => ?_) AllReadyH.nil
                  go_simp
                  refine hK.out _ _ (below_set6 hB4 hgW) (fun hHeld => ?_)
                  clear hK K
                  try simp only [Act.put, List.setIfInBounds_toArray, List.set_cons_zero, List.set_cons_succ]
                  refine draw_take 10 14 (v := ?_) rfl rfl (by kernel_rfl) (by kernel_rfl) (by kernel_rfl) (fun _ _ _ h => h) (by kernel_rfl) ?hy hHeld ?_
                  case hy => (intro w hSw; (try dsimp only at hSw); go_simp; try (with_reducible rfl))
                  simp only [Act.put, List.setIfInBounds_toArray, List.set_cons_zero, List.set_cons_succ]
                  refine draw_take 11 15 (v := ?_) rfl rfl (by kernel_rfl) (by kernel_rfl) (by kernel_rfl) (fun _ _ _ h => h) (by kernel_rfl) ?hy hHeld ?_
                  case hy => (intro w hSw; (try dsimp only at hSw); go_simp; try (with_reducible rfl))
                  simp only [Act.put, List.setIfInBounds_toArray, List.set_cons_zero, List.set_cons_succ]
                  refine wpAnyH_done (by kernel_rfl) ?_ _
                  go_wp2_with fail
                  go_meet
                  exact nv_no (below_set6 hB4 hgW)
            case rest =>
              obtain ⟨hBn, -, hno⟩ := hcut
              obtain rfl := hno HOK.out
              have HB9 := Lib.hid (bthen HBw.out hBn)
              clear hno hBn
              go_wp2_with fail
              refine (haw.out _).mono ?_
              rintro e w9 ⟨rfl, hb9⟩
              have HB10 := Lib.hid (bthen HB9.out hb9)
              clear hb9
              go_wp2
              go_ret
              exact ⟨rfl, HB10.out⟩
end Go.Proofs.Ytbenklhbcgiacaa
