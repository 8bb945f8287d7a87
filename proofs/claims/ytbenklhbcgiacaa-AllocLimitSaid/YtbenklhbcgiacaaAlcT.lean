/- The laws of layer 7: awake, AllocAsks. -/
import Derived.Test.YtbenklhbcgiacaaAlcN
import Derived.Test.YtbenklhbcgiacaaAlcS
import Derived.Test.YtbenklhbcgiacaaAlcR
import Derived.Test.YtbenklhbcgiacaaHeapU
set_option linter.unusedSimpArgs false
set_option linter.unusedVariables false
namespace Go.Proofs.Ytbenklhbcgiacaa
open Go.RowKit

/-- What a law has in hand behind an allocation. -/
def NvCut (W : World) (ok : Bool) (h : Hp) (A : Int) (a b c : Value) (wx : World) : Prop :=
  Below W.heap.size W wx ∧ (ok = true → b = .int .u64 A ∧ c = .int .i64 0 ∧ ∃ g p n k q m d, a = .pointer (some ⟨g, 0, none⟩) ∧ W.heap.size ≤ g ∧ OwnL wx g [.int .i64 h.pw, .int .i64 h.np, .slice p n k, .slice q m d, .int .i64 h.space, .int .i64 h.bump] ∧ SRow wx .u64 p n k h.words ∧ wx.ownsRow W.heap.size 55 4 (.slice q m d) m (pvals h.pages)) ∧ (ok = false → c = .int .i64 3)
theorem nv_new {W w4 : World} {p q : Option Addr} {n c m d B : Nat} {h : Hp} {A : Int} {T : TypeId} (hb : Below W.heap.size W w4) (hs : SRow w4 .u64 p n c h.words) (hr : w4.ownsRow B 55 4 (.slice q m d) m (pvals h.pages)) (hB : W.heap.size ≤ B) :
    NvCut W true h A (.pointer (some ⟨w4.heap.size, 0, none⟩)) (.int .u64 A) (.int .i64 0) (w4.alloc (.cells #[.int .i64 h.pw, .int .i64 h.np, .slice p n c, .slice q m d, .int .i64 h.space, .int .i64 h.bump] T)) :=
  ⟨bthen hb below_box, fun _ => ⟨rfl, rfl, _, p, n, c, q, m, d, rfl, hb.size, OwnL.new w4 [.int .i64 h.pw, .int .i64 h.np, .slice p n c, .slice q m d, .int .i64 h.space, .int .i64 h.bump] T, hs.keep below_box, own_below (own_mono hr hB) below_box⟩, fun h => by cases h⟩
theorem nv_yes {W w4 : World} {p q : Option Addr} {n c m d g B : Nat} {h : Hp} {A : Int} (hb : Below W.heap.size W w4) (hg : W.heap.size ≤ g) (ho : OwnL w4 g [.int .i64 0, .int .i64 0, .slice none 0 0, .slice none 0 0, .int .i64 0, .int .i64 0]) (hs : SRow w4 .u64 p n c h.words) (hr : w4.ownsRow B 55 4 (.slice q m d) m (pvals h.pages)) (hgB : g < B) (hB : W.heap.size ≤ B) :
    NvCut W true h A (.pointer (some ⟨g, 0, none⟩)) (.int .u64 A) (.int .i64 0) ((((((w4.setCell ⟨g, 0, none⟩ (.int .i64 h.pw)).setCell ⟨g, 1, none⟩ (.int .i64 h.np)).setCell ⟨g, 2, none⟩ (.slice p n c)).setCell ⟨g, 3, none⟩ (.slice q m d)).setCell ⟨g, 4, none⟩ (.int .i64 h.space)).setCell ⟨g, 5, none⟩ (.int .i64 h.bump)) := by
  refine ⟨below_set6 hb hg, fun _ => ⟨rfl, rfl, g, p, n, c, q, m, d, rfl, hg, ?_, ?_, ?_⟩, fun h => by cases h⟩
  · exact (((((ho.set 0 _ (by simp)).set 1 _ (by simp)).set 2 _ (by simp)).set 3 _ (by simp)).set 4 _ (by simp)).set 5 _ (by simp)
  · exact SRow.set6o hs (Own6.ofL ho) (fun x e => by cases e) (fun x e => by cases e) (fun x e => by cases e) (fun x e => by cases e) (fun x e => by cases e) (fun x e => by cases e) _ _ _ _ _ _
  · have s : ∀ (w : World) (o : Nat) (x : Value), w.ownsRow B 55 4 (.slice q m d) m (pvals h.pages) → (w.setCell ⟨g, o, none⟩ x).ownsRow B 55 4 (.slice q m d) m (pvals h.pages) := fun w o x hh => ownsRow_setCell_below hh hgB x
    exact own_mono (s _ _ _ (s _ _ _ (s _ _ _ (s _ _ _ (s _ _ _ (s _ _ _ hr)))))) hB
theorem nv_no {W wx : World} {h : Hp} {A : Int} {a b : Value} (hb : Below W.heap.size W wx) : NvCut W false h A a b (.int .i64 3) wx := ⟨hb, fun h => (by cases h), fun _ => rfl⟩

/-- A new allocation in a proper heap, by plain data. -/
theorem new_step {pw np sp bp : Int} {ws : List Int} {ps : List Pg} {L : Nat} (p q : Option Addr) (n c m d : Nat) (w : World) (hs : SRow w .u64 p n c ws) (hr : PRow w q m d ps) (hp : okP ⟨pw, np, ws, ps, sp, bp⟩ = true) (has : asksB pw np 3 L 0 = true) :
    Calls Try.prog 11 #[.agg #[.int .i64 pw, .int .i64 np, .slice p n c, .slice q m d, .int .i64 sp, .int .i64 bp], .agg #[.int .i64 3, .int .i64 L, .int .u32 0]] w
      fun e w' => RetNw w.heap.size (placeOK ⟨pw, np, ws, ps, sp, bp⟩ (L + 1)) (stepH ⟨pw, np, ws, ps, sp, bp⟩ 3 L 0) (placeA ⟨pw, np, ws, ps, sp, bp⟩ (L + 1)) e w' ∧ Below w.heap.size w w' := by
  have hv : validB 3 L 0 = true := by
    unfold asksB at has
    rw [Bool.and_eq_true, Bool.and_eq_true] at has
    exact has.1.1
  have hn : ¬ needV pw np (L + 1) = -1 := by
    unfold asksB at has
    rw [Bool.and_eq_true, Bool.and_eq_true] at has
    have := of_decide_eq_true has.2
    rwa [size_ok hv] at this
  have hb2 : ((0 : Nat) : Int) < 4294967296 := by omega
  have hv' : validB ((3 : Nat) : Int) L ((0 : Nat) : Int) = true := by simpa using hv
  have has' : asksB pw np ((3 : Nat) : Int) L ((0 : Nat) : Int) = true := by simpa using has
  exact new_run7 pw np sp bp 3 L 0 p q n c m d ws ps w hs hr hb2 hv' hp (PlOK.of hp) has' _ _ _ rfl rfl rfl (fun hok => by
    obtain ⟨-, a2, a3, a4⟩ := step_proper (k := 3) (b := 0) hp hn hok
    exact ⟨a4, a2, a3⟩)

theorem conf16 : okP ⟨16, 8, List.replicate 128 0, List.replicate 8 Pg.zero, 0, -1⟩ = true := by kernel_rfl
theorem asks16 : asksB 16 8 3 (3 : Nat) 0 = true := by kernel_rfl
theorem place16 : placeOK ⟨16, 8, List.replicate 128 0, List.replicate 8 Pg.zero, 0, -1⟩ (((3 : Nat) : Int) + 1) = true := by kernel_rfl
theorem addr16 : placeA ⟨16, 8, List.replicate 128 0, List.replicate 8 Pg.zero, 0, -1⟩ (((3 : Nat) : Int) + 1) = 4096 := by kernel_rfl
theorem step16 : (stepH ⟨16, 8, List.replicate 128 0, List.replicate 8 Pg.zero, 0, -1⟩ 3 3 0).pw = 16 ∧ (stepH ⟨16, 8, List.replicate 128 0, List.replicate 8 Pg.zero, 0, -1⟩ 3 3 0).np = 8 ∧ (stepH ⟨16, 8, List.replicate 128 0, List.replicate 8 Pg.zero, 0, -1⟩ 3 3 0).bump = 0 ∧ (stepH ⟨16, 8, List.replicate 128 0, List.replicate 8 Pg.zero, 0, -1⟩ 3 3 0).pages[0]? = some ⟨1, 0, 4, 0⟩ := by decide

set_option maxRecDepth 100000 in
set_option maxHeartbeats 3200000 in
theorem awake_any (w : World) :
    Calls Try.prog 5 #[] w fun e w' => e = .returned (.bool true) ∧ Below w.heap.size w w' := by
  have hrf := Lib.hid (fun w => refNew_any 16 8 w)
  rw [show newHV 16 8 = ⟨16, 8, List.replicate 128 0, List.replicate 8 Pg.zero, 0, -1⟩ from (newH_ok (by decide)).1, show newHE 16 8 = 0 from by decide] at hrf
  have hwo := Lib.hid (fun w => words_any 3 w)
  have hns := Lib.hid (fun w' p n c q m d (hs : SRow w' .u64 p n c (List.replicate 128 0)) (hr : PRow w' q m d (List.replicate 8 Pg.zero)) => new_step (L := 3) p q n c m d w' hs hr conf16 asks16)
  rw [addr16] at hns
  obtain ⟨OK, hOK⟩ : ∃ OK, Hid (placeOK ⟨16, 8, List.replicate 128 0, List.replicate 8 Pg.zero, 0, -1⟩ (((3 : Nat) : Int) + 1) = OK) := ⟨_, rfl⟩
  rw [hOK.out] at hns
  have HOK := Lib.hid (hOK.out.symm.trans place16)
  clear hOK
  obtain ⟨s1, s2, s3, s4⟩ := step16
  have s5 : okP (stepH ⟨16, 8, List.replicate 128 0, List.replicate 8 Pg.zero, 0, -1⟩ 3 3 0) = true := (step_proper (k := 3) (b := 0) conf16 (by decide) place16).1
  generalize stepH ⟨16, 8, List.replicate 128 0, List.replicate 8 Pg.zero, 0, -1⟩ 3 3 0 = HN at *
  have S1 := Lib.hid s1
  have S3 := Lib.hid s3
  have S4 := Lib.hid s4
  have S5 := Lib.hid s5
  clear s1 s2 s3 s4 s5
  go_enter Try.func5, Try.ntmps5
  go_wp2_with fail
  refine (hrf.out _).mono ?_
  rintro e w1 ⟨⟨v, rfl, p, n, c, q, m, d, rfl, hs, hr, -⟩, hb1⟩
  have hb0 := Lib.hid hb1
  have Hs := Lib.hid (hs.keep (w' := (w1.alloc (.cells #[.int .i64 16, .int .i64 8, .slice p n c, .slice q m d, .int .i64 0, .int .i64 (-1)] 32))) below_box)
  have Hr := Lib.hid (hr.keep (w' := (w1.alloc (.cells #[.int .i64 16, .int .i64 8, .slice p n c, .slice q m d, .int .i64 0, .int .i64 (-1)] 32))) below_box)
  have Hhb := Lib.hid (OwnL.new w1 [.int .i64 16, .int .i64 8, .slice p n c, .slice q m d, .int .i64 0, .int .i64 (-1)] 32)
  have hnw := Lib.hid (fun w' (hb : Below (w1.alloc (.cells #[.int .i64 16, .int .i64 8, .slice p n c, .slice q m d, .int .i64 0, .int .i64 (-1)] 32)).heap.size (w1.alloc (.cells #[.int .i64 16, .int .i64 8, .slice p n c, .slice q m d, .int .i64 0, .int .i64 (-1)] 32)) w') => hns.out w' p n c q m d (Hs.out.keep hb) (Hr.out.keep hb))
  clear hs hr hb1 hrf hns
  go_upto_region 2 with fail
  go_cut [3, 4, 5] (fun ta tb tc wx => NvCut (w1.alloc (.cells #[.int .i64 16, .int .i64 8, .slice p n c, .slice q m d, .int .i64 0, .int .i64 (-1)] 32)) OK HN 4096 ta tb tc wx)
  case first =>
    refine wp_region_held_drew (S := fun w' => Below (w1.alloc (.cells #[.int .i64 16, .int .i64 8, .slice p n c, .slice q m d, .int .i64 0, .int .i64 (-1)] 32)).heap.size (w1.alloc (.cells #[.int .i64 16, .int .i64 8, .slice p n c, .slice q m d, .int .i64 0, .int .i64 (-1)] 32)) w') (by kernel_rfl) ((Below.refl _ _).drew) (fun hHeld => ?_)
    refine draw_take 0 12 (v := ?_) rfl rfl (by kernel_rfl) (by kernel_rfl) (by kernel_rfl) (fun _ _ _ h => h) (by kernel_rfl) ?hy hHeld ?_
    case hy => (intro w' hSw; (try dsimp only at hSw); have x0 := cell_keep hSw (Hhb.out.cell 0 _ rfl); have x1 := cell_keep hSw (Hhb.out.cell 1 _ rfl); have x2 := cell_keep hSw (Hhb.out.cell 2 _ rfl); have x3 := cell_keep hSw (Hhb.out.cell 3 _ rfl); have x4 := cell_keep hSw (Hhb.out.cell 4 _ rfl); have x5 := cell_keep hSw (Hhb.out.cell 5 _ rfl); go_simp; try (with_reducible rfl))
    simp only [Act.put, List.setIfInBounds_toArray, List.set_cons_zero, List.set_cons_succ]
    refine wpAnyH_ready (rs := [1, 7]) (by kernel_rfl) (by simp) ?_
    refine AllReadyH.cons rfl (fun K hK => ?_) (AllReadyH.cons rfl (fun K hK => ?_) AllReadyH.nil)
    · go_simp
      (go_at_call 9; refine (hwo.out _).mono ?_; rintro e w3 ⟨rfl, hbq⟩)
      go_wp2_with fail
      refine hK.out _ _ (bthen hHeld hbq) (fun hHeld => ?_)
      clear hK K
      try simp only [Act.put, List.setIfInBounds_toArray, List.set_cons_zero, List.set_cons_succ]
      refine wpAnyH_ready (rs := [2, 7]) (by kernel_rfl) (by simp) ?_
      refine AllReadyH.cons rfl (fun K hK => ?_) (AllReadyH.cons rfl (fun K hK => ?_) AllReadyH.nil)
      · have hszB := hHeld.size
        go_simp
        (go_at_call 11; refine (hnw.out _ hHeld).mono ?_; rintro e w4 ⟨hret, hbq⟩)
        rcases hret with ⟨hok, p7, n7, c7, q7, m7, d7, rfl, hsr, hown⟩ | ⟨hok, rfl⟩
        · subst hok
          go_wp2_with fail
          refine hK.out _ _ (bthen hHeld hbq) (fun hHeld => ?_)
          clear hK K
          try simp only [Act.put, List.setIfInBounds_toArray, List.set_cons_zero, List.set_cons_succ]
          refine draw_take 3 11 (v := ?_) rfl rfl (by kernel_rfl) (by kernel_rfl) (by kernel_rfl) (fun _ _ _ h => h) (by kernel_rfl) ?hy hHeld ?_
          case hy => (intro w hSw; (try dsimp only at hSw); go_simp; try (with_reducible rfl))
          simp only [Act.put, List.setIfInBounds_toArray, List.set_cons_zero, List.set_cons_succ]
          refine draw_take 4 15 (v := ?_) rfl rfl (by kernel_rfl) (by kernel_rfl) (by kernel_rfl) (fun _ _ _ h => h) (by kernel_rfl) ?hy hHeld ?_
          case hy => (intro w hSw; (try dsimp only at hSw); go_simp; try (with_reducible rfl))
          simp only [Act.put, List.setIfInBounds_toArray, List.set_cons_zero, List.set_cons_succ]
          refine draw_take 5 16 (v := ?_) rfl rfl (by kernel_rfl) (by kernel_rfl) (by kernel_rfl) (fun _ _ _ h => h) (by kernel_rfl) ?hy hHeld ?_
          case hy => (intro w hSw; (try dsimp only at hSw); go_simp; try (with_reducible rfl))
          simp only [Act.put, List.setIfInBounds_toArray, List.set_cons_zero, List.set_cons_succ]
          refine draw_take 6 17 (v := ?_) rfl rfl (by kernel_rfl) (by kernel_rfl) (by kernel_rfl) (fun _ _ _ h => h) (by kernel_rfl) ?hy hHeld ?_
          case hy => (intro w hSw; (try dsimp only at hSw); go_simp; try (with_reducible rfl))
          simp only [Act.put, List.setIfInBounds_toArray, List.set_cons_zero, List.set_cons_succ]
          have hB4 := hHeld
          refine wpAnyH_ready (rs := [7]) (by kernel_rfl) (by simp) ?_
          refine AllReadyH.cons rfl (fun K hK => ?_) AllReadyH.nil
          go_simp
          refine hK.out _ _ (bthen hHeld below_box) (fun hHeld => ?_)
          clear hK K
          try simp only [Act.put, List.setIfInBounds_toArray, List.set_cons_zero, List.set_cons_succ]
          refine wpAnyH_ready (rs := [8]) (by kernel_rfl) (by simp) ?_
          refine AllReadyH.cons rfl (fun K hK => ?_) AllReadyH.nil
          go_simp
          refine hK.out _ _ (bthen hB4 below_box) (fun hHeld => ?_)
          clear hK K
          try simp only [Act.put, List.setIfInBounds_toArray, List.set_cons_zero, List.set_cons_succ]
          refine draw_take 9 4 (v := ?_) rfl rfl (by kernel_rfl) (by kernel_rfl) (by kernel_rfl) (fun _ _ _ h => h) (by kernel_rfl) ?hy hHeld ?_
          case hy => (intro w hSw; (try dsimp only at hSw); go_simp; try (with_reducible rfl))
          simp only [Act.put, List.setIfInBounds_toArray, List.set_cons_zero, List.set_cons_succ]
          refine draw_take 10 5 (v := ?_) rfl rfl (by kernel_rfl) (by kernel_rfl) (by kernel_rfl) (fun _ _ _ h => h) (by kernel_rfl) ?hy hHeld ?_
          case hy => (intro w hSw; (try dsimp only at hSw); go_simp; try (with_reducible rfl))
          simp only [Act.put, List.setIfInBounds_toArray, List.set_cons_zero, List.set_cons_succ]
          refine wpAnyH_done (by kernel_rfl) ?_ _
          go_wp2_with fail
          go_meet
          exact nv_new hB4 hsr hown hszB
        · subst hok
          go_wp2_with fail
          refine hK.out _ _ (bthen hHeld hbq) (fun hHeld => ?_)
          clear hK K
          try simp only [Act.put, List.setIfInBounds_toArray, List.set_cons_zero, List.set_cons_succ]
          refine draw_take 3 11 (v := ?_) rfl rfl (by kernel_rfl) (by kernel_rfl) (by kernel_rfl) (fun _ _ _ h => h) (by kernel_rfl) ?hy hHeld ?_
          case hy => (intro w hSw; (try dsimp only at hSw); go_simp; try (with_reducible rfl))
          simp only [Act.put, List.setIfInBounds_toArray, List.set_cons_zero, List.set_cons_succ]
          refine draw_take 4 15 (v := ?_) rfl rfl (by kernel_rfl) (by kernel_rfl) (by kernel_rfl) (fun _ _ _ h => h) (by kernel_rfl) ?hy hHeld ?_
          case hy => (intro w hSw; (try dsimp only at hSw); go_simp; try (with_reducible rfl))
          simp only [Act.put, List.setIfInBounds_toArray, List.set_cons_zero, List.set_cons_succ]
          refine draw_take 5 16 (v := ?_) rfl rfl (by kernel_rfl) (by kernel_rfl) (by kernel_rfl) (fun _ _ _ h => h) (by kernel_rfl) ?hy hHeld ?_
          case hy => (intro w hSw; (try dsimp only at hSw); go_simp; try (with_reducible rfl))
          simp only [Act.put, List.setIfInBounds_toArray, List.set_cons_zero, List.set_cons_succ]
          refine draw_take 6 17 (v := ?_) rfl rfl (by kernel_rfl) (by kernel_rfl) (by kernel_rfl) (fun _ _ _ h => h) (by kernel_rfl) ?hy hHeld ?_
          case hy => (intro w hSw; (try dsimp only at hSw); go_simp; try (with_reducible rfl))
          simp only [Act.put, List.setIfInBounds_toArray, List.set_cons_zero, List.set_cons_succ]
          have hB4 := hHeld
          refine wpAnyH_ready (rs := [7]) (by kernel_rfl) (by simp) ?_
          refine AllReadyH.cons rfl (fun K hK => ?_) AllReadyH.nil
          go_simp
          refine hK.out _ _ (bthen hHeld below_box) (fun hHeld => ?_)
          clear hK K
          try simp only [Act.put, List.setIfInBounds_toArray, List.set_cons_zero, List.set_cons_succ]
          refine wpAnyH_ready (rs := [8]) (by kernel_rfl) (by simp) ?_
          refine AllReadyH.cons rfl (fun K hK => ?_) AllReadyH.nil
          go_simp
          refine hK.out _ _ (bthen hB4 below_box) (fun hHeld => ?_)
          clear hK K
          try simp only [Act.put, List.setIfInBounds_toArray, List.set_cons_zero, List.set_cons_succ]
          refine draw_take 9 4 (v := ?_) rfl rfl (by kernel_rfl) (by kernel_rfl) (by kernel_rfl) (fun _ _ _ h => h) (by kernel_rfl) ?hy hHeld ?_
          case hy => (intro w hSw; (try dsimp only at hSw); go_simp; try (with_reducible rfl))
          simp only [Act.put, List.setIfInBounds_toArray, List.set_cons_zero, List.set_cons_succ]
          refine draw_take 10 5 (v := ?_) rfl rfl (by kernel_rfl) (by kernel_rfl) (by kernel_rfl) (fun _ _ _ h => h) (by kernel_rfl) ?hy hHeld ?_
          case hy => (intro w hSw; (try dsimp only at hSw); go_simp; try (with_reducible rfl))
          simp only [Act.put, List.setIfInBounds_toArray, List.set_cons_zero, List.set_cons_succ]
          refine wpAnyH_done (by kernel_rfl) ?_ _
          go_wp2_with fail
          go_meet
          exact nv_no (bthen hB4 below_box)
      · have hgW := hHeld.size
        have Hob := Lib.hid (OwnL.new w3 [.int .i64 0, .int .i64 0, .slice none 0 0, .slice none 0 0, .int .i64 0, .int .i64 0] 32)
        go_simp
        refine hK.out _ _ (bthen hHeld below_box) (fun hHeld => ?_)
        clear hK K
        try simp only [Act.put, List.setIfInBounds_toArray, List.set_cons_zero, List.set_cons_succ]
        refine wpAnyH_ready (rs := [2]) (by kernel_rfl) (by simp) ?_
        refine AllReadyH.cons rfl (fun K hK => ?_) AllReadyH.nil
        have hszB := hHeld.size
        have hgB := Hob.out.lt rfl
        go_simp
        (go_at_call 11; refine (hnw.out _ hHeld).mono ?_; rintro e w4 ⟨hret, hbq⟩)
        rcases hret with ⟨hok, p7, n7, c7, q7, m7, d7, rfl, hsr, hown⟩ | ⟨hok, rfl⟩
        · subst hok
          go_wp2_with fail
          refine hK.out _ _ (bthen hHeld hbq) (fun hHeld => ?_)
          clear hK K
          try simp only [Act.put, List.setIfInBounds_toArray, List.set_cons_zero, List.set_cons_succ]
          refine draw_take 3 11 (v := ?_) rfl rfl (by kernel_rfl) (by kernel_rfl) (by kernel_rfl) (fun _ _ _ h => h) (by kernel_rfl) ?hy hHeld ?_
          case hy => (intro w hSw; (try dsimp only at hSw); go_simp; try (with_reducible rfl))
          simp only [Act.put, List.setIfInBounds_toArray, List.set_cons_zero, List.set_cons_succ]
          refine draw_take 4 15 (v := ?_) rfl rfl (by kernel_rfl) (by kernel_rfl) (by kernel_rfl) (fun _ _ _ h => h) (by kernel_rfl) ?hy hHeld ?_
          case hy => (intro w hSw; (try dsimp only at hSw); go_simp; try (with_reducible rfl))
          simp only [Act.put, List.setIfInBounds_toArray, List.set_cons_zero, List.set_cons_succ]
          refine draw_take 5 16 (v := ?_) rfl rfl (by kernel_rfl) (by kernel_rfl) (by kernel_rfl) (fun _ _ _ h => h) (by kernel_rfl) ?hy hHeld ?_
          case hy => (intro w hSw; (try dsimp only at hSw); go_simp; try (with_reducible rfl))
          simp only [Act.put, List.setIfInBounds_toArray, List.set_cons_zero, List.set_cons_succ]
          refine draw_take 6 17 (v := ?_) rfl rfl (by kernel_rfl) (by kernel_rfl) (by kernel_rfl) (fun _ _ _ h => h) (by kernel_rfl) ?hy hHeld ?_
          case hy => (intro w hSw; (try dsimp only at hSw); go_simp; try (with_reducible rfl))
          simp only [Act.put, List.setIfInBounds_toArray, List.set_cons_zero, List.set_cons_succ]
          have hOb := Lib.hid (Hob.out.keep hbq (Hob.out.lt rfl))
          have s0 := hOb.out.cell 0 _ rfl
          have s1 := hOb.out.cell 1 _ rfl
          have s2 := hOb.out.cell 2 _ rfl
          have s3 := hOb.out.cell 3 _ rfl
          have s4 := hOb.out.cell 4 _ rfl
          have s5 := hOb.out.cell 5 _ rfl
          have r0 := hOb.out.free 0
          have r1 := hOb.out.free 1
          have r2 := hOb.out.free 2
          have r3 := hOb.out.free 3
          have r4 := hOb.out.free 4
          have r5 := hOb.out.free 5
          have hB4 := hHeld
          refine wpAnyH_ready (rs := [8]) (by kernel_rfl) (by simp) ?_
          refine AllReadyH.cons rfl (fun K hK => ?_) AllReadyH.nil
          go_simp
          refine hK.out _ _ (below_set6 hB4 hgW) (fun hHeld => ?_)
          clear hK K
          try simp only [Act.put, List.setIfInBounds_toArray, List.set_cons_zero, List.set_cons_succ]
          refine draw_take 9 4 (v := ?_) rfl rfl (by kernel_rfl) (by kernel_rfl) (by kernel_rfl) (fun _ _ _ h => h) (by kernel_rfl) ?hy hHeld ?_
          case hy => (intro w hSw; (try dsimp only at hSw); go_simp; try (with_reducible rfl))
          simp only [Act.put, List.setIfInBounds_toArray, List.set_cons_zero, List.set_cons_succ]
          refine draw_take 10 5 (v := ?_) rfl rfl (by kernel_rfl) (by kernel_rfl) (by kernel_rfl) (fun _ _ _ h => h) (by kernel_rfl) ?hy hHeld ?_
          case hy => (intro w hSw; (try dsimp only at hSw); go_simp; try (with_reducible rfl))
          simp only [Act.put, List.setIfInBounds_toArray, List.set_cons_zero, List.set_cons_succ]
          refine wpAnyH_done (by kernel_rfl) ?_ _
          go_wp2_with fail
          go_meet
          exact nv_yes hB4 hgW hOb.out hsr hown hgB hszB
        · subst hok
          go_wp2_with fail
          refine hK.out _ _ (bthen hHeld hbq) (fun hHeld => ?_)
          clear hK K
          try simp only [Act.put, List.setIfInBounds_toArray, List.set_cons_zero, List.set_cons_succ]
          refine draw_take 3 11 (v := ?_) rfl rfl (by kernel_rfl) (by kernel_rfl) (by kernel_rfl) (fun _ _ _ h => h) (by kernel_rfl) ?hy hHeld ?_
          case hy => (intro w hSw; (try dsimp only at hSw); go_simp; try (with_reducible rfl))
          simp only [Act.put, List.setIfInBounds_toArray, List.set_cons_zero, List.set_cons_succ]
          refine draw_take 4 15 (v := ?_) rfl rfl (by kernel_rfl) (by kernel_rfl) (by kernel_rfl) (fun _ _ _ h => h) (by kernel_rfl) ?hy hHeld ?_
          case hy => (intro w hSw; (try dsimp only at hSw); go_simp; try (with_reducible rfl))
          simp only [Act.put, List.setIfInBounds_toArray, List.set_cons_zero, List.set_cons_succ]
          refine draw_take 5 16 (v := ?_) rfl rfl (by kernel_rfl) (by kernel_rfl) (by kernel_rfl) (fun _ _ _ h => h) (by kernel_rfl) ?hy hHeld ?_
          case hy => (intro w hSw; (try dsimp only at hSw); go_simp; try (with_reducible rfl))
          simp only [Act.put, List.setIfInBounds_toArray, List.set_cons_zero, List.set_cons_succ]
          refine draw_take 6 17 (v := ?_) rfl rfl (by kernel_rfl) (by kernel_rfl) (by kernel_rfl) (fun _ _ _ h => h) (by kernel_rfl) ?hy hHeld ?_
          case hy => (intro w hSw; (try dsimp only at hSw); go_simp; try (with_reducible rfl))
          simp only [Act.put, List.setIfInBounds_toArray, List.set_cons_zero, List.set_cons_succ]
          have hOb := Lib.hid (Hob.out.keep hbq (Hob.out.lt rfl))
          have s0 := hOb.out.cell 0 _ rfl
          have s1 := hOb.out.cell 1 _ rfl
          have s2 := hOb.out.cell 2 _ rfl
          have s3 := hOb.out.cell 3 _ rfl
          have s4 := hOb.out.cell 4 _ rfl
          have s5 := hOb.out.cell 5 _ rfl
          have r0 := hOb.out.free 0
          have r1 := hOb.out.free 1
          have r2 := hOb.out.free 2
          have r3 := hOb.out.free 3
          have r4 := hOb.out.free 4
          have r5 := hOb.out.free 5
          have hB4 := hHeld
          refine wpAnyH_ready (rs := [8]) (by kernel_rfl) (by simp) ?_
          refine AllReadyH.cons rfl (fun K hK => ?_) AllReadyH.nil
          go_simp
          refine hK.out _ _ (below_set6 hB4 hgW) (fun hHeld => ?_)
          clear hK K
          try simp only [Act.put, List.setIfInBounds_toArray, List.set_cons_zero, List.set_cons_succ]
          refine draw_take 9 4 (v := ?_) rfl rfl (by kernel_rfl) (by kernel_rfl) (by kernel_rfl) (fun _ _ _ h => h) (by kernel_rfl) ?hy hHeld ?_
          case hy => (intro w hSw; (try dsimp only at hSw); go_simp; try (with_reducible rfl))
          simp only [Act.put, List.setIfInBounds_toArray, List.set_cons_zero, List.set_cons_succ]
          refine draw_take 10 5 (v := ?_) rfl rfl (by kernel_rfl) (by kernel_rfl) (by kernel_rfl) (fun _ _ _ h => h) (by kernel_rfl) ?hy hHeld ?_
          case hy => (intro w hSw; (try dsimp only at hSw); go_simp; try (with_reducible rfl))
          simp only [Act.put, List.setIfInBounds_toArray, List.set_cons_zero, List.set_cons_succ]
          refine wpAnyH_done (by kernel_rfl) ?_ _
          go_wp2_with fail
          go_meet
          exact nv_no (below_set6 hB4 hgW)
    · have hgW : (w1.alloc (.cells #[.int .i64 16, .int .i64 8, .slice p n c, .slice q m d, .int .i64 0, .int .i64 (-1)] 32)).heap.size ≤ w1.heap.size + 1 := (by simp)
      have Hob := Lib.hid (OwnL.new (w1.alloc (.cells #[.int .i64 16, .int .i64 8, .slice p n c, .slice q m d, .int .i64 0, .int .i64 (-1)] 32)).drew [.int .i64 0, .int .i64 0, .slice none 0 0, .slice none 0 0, .int .i64 0, .int .i64 0] 32)
      simp only [World.size_drew, World.size_alloc] at Hob
      go_simp
      refine hK.out _ _ (bthen hHeld below_box) (fun hHeld => ?_)
      clear hK K
      try simp only [Act.put, List.setIfInBounds_toArray, List.set_cons_zero, List.set_cons_succ]
      refine wpAnyH_ready (rs := [1]) (by kernel_rfl) (by simp) ?_
      refine AllReadyH.cons rfl (fun K hK => ?_) AllReadyH.nil
      go_simp
      (go_at_call 9; refine (hwo.out _).mono ?_; rintro e w3 ⟨rfl, hbq⟩)
      have Hob := Lib.hid (Hob.out.keep hbq (Hob.out.lt rfl))
      go_wp2_with fail
      refine hK.out _ _ (bthen hHeld hbq) (fun hHeld => ?_)
      clear hK K
      try simp only [Act.put, List.setIfInBounds_toArray, List.set_cons_zero, List.set_cons_succ]
      refine wpAnyH_ready (rs := [2]) (by kernel_rfl) (by simp) ?_
      refine AllReadyH.cons rfl (fun K hK => ?_) AllReadyH.nil
      have hszB := hHeld.size
      have hgB := Hob.out.lt rfl
      go_simp
      (go_at_call 11; refine (hnw.out _ hHeld).mono ?_; rintro e w4 ⟨hret, hbq⟩)
      rcases hret with ⟨hok, p7, n7, c7, q7, m7, d7, rfl, hsr, hown⟩ | ⟨hok, rfl⟩
      · subst hok
        go_wp2_with fail
        refine hK.out _ _ (bthen hHeld hbq) (fun hHeld => ?_)
        clear hK K
        try simp only [Act.put, List.setIfInBounds_toArray, List.set_cons_zero, List.set_cons_succ]
        refine draw_take 3 11 (v := ?_) rfl rfl (by kernel_rfl) (by kernel_rfl) (by kernel_rfl) (fun _ _ _ h => h) (by kernel_rfl) ?hy hHeld ?_
        case hy => (intro w hSw; (try dsimp only at hSw); go_simp; try (with_reducible rfl))
        simp only [Act.put, List.setIfInBounds_toArray, List.set_cons_zero, List.set_cons_succ]
        refine draw_take 4 15 (v := ?_) rfl rfl (by kernel_rfl) (by kernel_rfl) (by kernel_rfl) (fun _ _ _ h => h) (by kernel_rfl) ?hy hHeld ?_
        case hy => (intro w hSw; (try dsimp only at hSw); go_simp; try (with_reducible rfl))
        simp only [Act.put, List.setIfInBounds_toArray, List.set_cons_zero, List.set_cons_succ]
        refine draw_take 5 16 (v := ?_) rfl rfl (by kernel_rfl) (by kernel_rfl) (by kernel_rfl) (fun _ _ _ h => h) (by kernel_rfl) ?hy hHeld ?_
        case hy => (intro w hSw; (try dsimp only at hSw); go_simp; try (with_reducible rfl))
        simp only [Act.put, List.setIfInBounds_toArray, List.set_cons_zero, List.set_cons_succ]
        refine draw_take 6 17 (v := ?_) rfl rfl (by kernel_rfl) (by kernel_rfl) (by kernel_rfl) (fun _ _ _ h => h) (by kernel_rfl) ?hy hHeld ?_
        case hy => (intro w hSw; (try dsimp only at hSw); go_simp; try (with_reducible rfl))
        simp only [Act.put, List.setIfInBounds_toArray, List.set_cons_zero, List.set_cons_succ]
        have hOb := Lib.hid (Hob.out.keep hbq (Hob.out.lt rfl))
        have s0 := hOb.out.cell 0 _ rfl
        have s1 := hOb.out.cell 1 _ rfl
        have s2 := hOb.out.cell 2 _ rfl
        have s3 := hOb.out.cell 3 _ rfl
        have s4 := hOb.out.cell 4 _ rfl
        have s5 := hOb.out.cell 5 _ rfl
        have r0 := hOb.out.free 0
        have r1 := hOb.out.free 1
        have r2 := hOb.out.free 2
        have r3 := hOb.out.free 3
        have r4 := hOb.out.free 4
        have r5 := hOb.out.free 5
        have hB4 := hHeld
        refine wpAnyH_ready (rs := [8]) (by kernel_rfl) (by simp) ?_
        refine AllReadyH.cons rfl (fun K hK => ?_) AllReadyH.nil
        go_simp
        refine hK.out _ _ (below_set6 hB4 hgW) (fun hHeld => ?_)
        clear hK K
        try simp only [Act.put, List.setIfInBounds_toArray, List.set_cons_zero, List.set_cons_succ]
        refine draw_take 9 4 (v := ?_) rfl rfl (by kernel_rfl) (by kernel_rfl) (by kernel_rfl) (fun _ _ _ h => h) (by kernel_rfl) ?hy hHeld ?_
        case hy => (intro w hSw; (try dsimp only at hSw); go_simp; try (with_reducible rfl))
        simp only [Act.put, List.setIfInBounds_toArray, List.set_cons_zero, List.set_cons_succ]
        refine draw_take 10 5 (v := ?_) rfl rfl (by kernel_rfl) (by kernel_rfl) (by kernel_rfl) (fun _ _ _ h => h) (by kernel_rfl) ?hy hHeld ?_
        case hy => (intro w hSw; (try dsimp only at hSw); go_simp; try (with_reducible rfl))
        simp only [Act.put, List.setIfInBounds_toArray, List.set_cons_zero, List.set_cons_succ]
        refine wpAnyH_done (by kernel_rfl) ?_ _
        go_wp2_with fail
        go_meet
        exact nv_yes hB4 hgW hOb.out hsr hown hgB hszB
      · subst hok
        go_wp2_with fail
        refine hK.out _ _ (bthen hHeld hbq) (fun hHeld => ?_)
        clear hK K
        try simp only [Act.put, List.setIfInBounds_toArray, List.set_cons_zero, List.set_cons_succ]
        refine draw_take 3 11 (v := ?_) rfl rfl (by kernel_rfl) (by kernel_rfl) (by kernel_rfl) (fun _ _ _ h => h) (by kernel_rfl) ?hy hHeld ?_
        case hy => (intro w hSw; (try dsimp only at hSw); go_simp; try (with_reducible rfl))
        simp only [Act.put, List.setIfInBounds_toArray, List.set_cons_zero, List.set_cons_succ]
        refine draw_take 4 15 (v := ?_) rfl rfl (by kernel_rfl) (by kernel_rfl) (by kernel_rfl) (fun _ _ _ h => h) (by kernel_rfl) ?hy hHeld ?_
        case hy => (intro w hSw; (try dsimp only at hSw); go_simp; try (with_reducible rfl))
        simp only [Act.put, List.setIfInBounds_toArray, List.set_cons_zero, List.set_cons_succ]
        refine draw_take 5 16 (v := ?_) rfl rfl (by kernel_rfl) (by kernel_rfl) (by kernel_rfl) (fun _ _ _ h => h) (by kernel_rfl) ?hy hHeld ?_
        case hy => (intro w hSw; (try dsimp only at hSw); go_simp; try (with_reducible rfl))
        simp only [Act.put, List.setIfInBounds_toArray, List.set_cons_zero, List.set_cons_succ]
        refine draw_take 6 17 (v := ?_) rfl rfl (by kernel_rfl) (by kernel_rfl) (by kernel_rfl) (fun _ _ _ h => h) (by kernel_rfl) ?hy hHeld ?_
        case hy => (intro w hSw; (try dsimp only at hSw); go_simp; try (with_reducible rfl))
        simp only [Act.put, List.setIfInBounds_toArray, List.set_cons_zero, List.set_cons_succ]
        have hOb := Lib.hid (Hob.out.keep hbq (Hob.out.lt rfl))
        have s0 := hOb.out.cell 0 _ rfl
        have s1 := hOb.out.cell 1 _ rfl
        have s2 := hOb.out.cell 2 _ rfl
        have s3 := hOb.out.cell 3 _ rfl
        have s4 := hOb.out.cell 4 _ rfl
        have s5 := hOb.out.cell 5 _ rfl
        have r0 := hOb.out.free 0
        have r1 := hOb.out.free 1
        have r2 := hOb.out.free 2
        have r3 := hOb.out.free 3
        have r4 := hOb.out.free 4
        have r5 := hOb.out.free 5
        have hB4 := hHeld
        refine wpAnyH_ready (rs := [8]) (by kernel_rfl) (by simp) ?_
        refine AllReadyH.cons rfl (fun K hK => ?_) AllReadyH.nil
        go_simp
        refine hK.out _ _ (below_set6 hB4 hgW) (fun hHeld => ?_)
        clear hK K
        try simp only [Act.put, List.setIfInBounds_toArray, List.set_cons_zero, List.set_cons_succ]
        refine draw_take 9 4 (v := ?_) rfl rfl (by kernel_rfl) (by kernel_rfl) (by kernel_rfl) (fun _ _ _ h => h) (by kernel_rfl) ?hy hHeld ?_
        case hy => (intro w hSw; (try dsimp only at hSw); go_simp; try (with_reducible rfl))
        simp only [Act.put, List.setIfInBounds_toArray, List.set_cons_zero, List.set_cons_succ]
        refine draw_take 10 5 (v := ?_) rfl rfl (by kernel_rfl) (by kernel_rfl) (by kernel_rfl) (fun _ _ _ h => h) (by kernel_rfl) ?hy hHeld ?_
        case hy => (intro w hSw; (try dsimp only at hSw); go_simp; try (with_reducible rfl))
        simp only [Act.put, List.setIfInBounds_toArray, List.set_cons_zero, List.set_cons_succ]
        refine wpAnyH_done (by kernel_rfl) ?_ _
        go_wp2_with fail
        go_meet
        exact nv_no (below_set6 hB4 hgW)
  case rest =>
    obtain ⟨hB, hyes, -⟩ := hcut
    have hyes := fun h => hyes (HOK.out.trans h)
    obtain ⟨rfl, rfl, g, p2, n2, c2, q2, m2, d2, rfl, hg, hOg, hsr, hown⟩ := hyes rfl
    have HB := Lib.hid (bthen hb0.out (bthen below_box hB))
    obtain ⟨q6, d6, hv6, hrow6⟩ := PRow.of_own hown
    obtain ⟨rfl, rfl⟩ : q6 = q2 ∧ d6 = d2 := by
      injection hv6 with a1 a2 a3
      exact ⟨a1.symm, a3.symm⟩
    have c0 := hOg.cell 0 _ rfl
    have c1 := hOg.cell 1 _ rfl
    have c2' := hOg.cell 2 _ rfl
    have c3 := hOg.cell 3 _ rfl
    have c4 := hOg.cell 4 _ rfl
    have c5 := hOg.cell 5 _ rfl
    rw [S1.out] at c0
    rw [S3.out] at c5
    have hp5 := S5.out
    unfold okP at hp5
    rw [S1.out, S3.out] at hp5
    have hro := Lib.hid (room_run 16 HN.np HN.space 0 ⟨1, 0, 4, 0⟩ p2 q6 n2 c2 m2 d6 HN.words HN.pages wc hsr hrow6 S4.out hp5 (by decide) (by decide))
    unfold hpv at hro
    clear hown hv6 hrow6 hOg hyes hnw Hhb Hs Hr hwo hp5 hsr hB hg
    go_wp2_with fail
    refine hro.out.mono ?_
    rintro e w9 ⟨rfl, hb9⟩
    have HB9 := Lib.hid (bthen HB.out hb9)
    clear hb9 hro
    go_wp2
    go_ret
    exact ⟨rfl, HB9.out⟩
end Go.Proofs.Ytbenklhbcgiacaa
