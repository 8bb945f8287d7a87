/- Contracts of package alloc: New. -/
import Derived.Test.YtbenklhbcgiacaaAlcE
import Derived.Test.YtbenklhbcgiacaaObP
set_option linter.unusedSimpArgs false
set_option linter.unusedVariables false
namespace Go.Proofs.Ytbenklhbcgiacaa
open Go.RowKit

theorem spotYes (v : Value) (w : World) : (Instr.typeAssert (.iface 50 v) 20 50 true).run Try.prog w = .ok (.tuple #[v, .bool true]) w := by kernel_rfl
theorem spotNo (w : World) : (Instr.typeAssert .nilIface 20 50 true).run Try.prog w = .ok (.tuple #[.agg #[.int .i64 0, .int .i64 0, .slice none 0 0, .slice none 0 0, .int .i64 0, .int .i64 0, .int .u64 0], .bool false]) w := by kernel_rfl

/-- What New has in hand behind the search for a place. -/
def NwCut (W : World) (p : Option Addr) (n c : Nat) (ok : Bool) (h : Hp) (A : Int) (a b : Value) (wx : World) : Prop :=
  b = .bool ok ∧ Below W.heap.size W wx ∧ (ok = true → ∃ g q m d, a = .pointer (some ⟨g, 0, none⟩) ∧ W.heap.size ≤ g ∧ OwnL wx g [.int .i64 h.pw, .int .i64 h.np, .slice p n c, .slice q m d, .int .i64 h.space, .int .i64 h.bump, .int .u64 A] ∧ wx.ownsRow W.heap.size 55 4 (.slice q m d) m (pvals h.pages))

/-- A call returned a heap with these rows and an address, or an error. -/
def RetNw (B : Nat) (ok : Bool) (h : Hp) (A : Int) (e : Ending) (w' : World) : Prop :=
  (ok = true ∧ ∃ p n c q m d, e = .returned (.tuple #[.agg #[.int .i64 h.pw, .int .i64 h.np, .slice p n c, .slice q m d, .int .i64 h.space, .int .i64 h.bump], .int .u64 A, .int .i64 0]) ∧ SRow w' .u64 p n c h.words ∧ w'.ownsRow B 55 4 (.slice q m d) m (pvals h.pages)) ∨
  (ok = false ∧ e = .returned (.tuple #[.agg #[.int .i64 0, .int .i64 0, .slice none 0 0, .slice none 0 0, .int .i64 0, .int .i64 0], .int .u64 0, .int .i64 3]))
/-- The heap with the new object. -/
def nwH (h : Hp) (A k L b : Int) : Hp := { h with words := writeV h.words A (wordV k L b :: List.replicate L.toNat 0) }

theorem below_set7 {B : Nat} {w w1 : World} {b : Nat} {x0 x1 x2 x3 x4 x5 x6 : Value} (h : Below B w w1) (hb : B ≤ b) : Below B w (((((((w1.setCell ⟨b, 0, none⟩ x0).setCell ⟨b, 1, none⟩ x1).setCell ⟨b, 2, none⟩ x2).setCell ⟨b, 3, none⟩ x3).setCell ⟨b, 4, none⟩ x4).setCell ⟨b, 5, none⟩ x5).setCell ⟨b, 6, none⟩ x6) :=
  ((((((h.setCell hb x0).setCell hb x1).setCell hb x2).setCell hb x3).setCell hb x4).setCell hb x5).setCell hb x6
theorem nw_new {W w4 : World} {p q : Option Addr} {n c m d : Nat} {h : Hp} {A : Int} {T : TypeId} (hb : Below W.heap.size W w4) (hr : w4.ownsRow W.heap.size 55 4 (.slice q m d) m (pvals h.pages)) :
    NwCut W p n c true h A (.pointer (some ⟨w4.heap.size, 0, none⟩)) (.bool true) (w4.alloc (.cells #[.int .i64 h.pw, .int .i64 h.np, .slice p n c, .slice q m d, .int .i64 h.space, .int .i64 h.bump, .int .u64 A] T)) :=
  ⟨rfl, bthen hb below_box, fun _ => ⟨_, q, m, d, rfl, hb.size, OwnL.new w4 [.int .i64 h.pw, .int .i64 h.np, .slice p n c, .slice q m d, .int .i64 h.space, .int .i64 h.bump, .int .u64 A] T, own_below hr below_box⟩⟩
theorem nw_yes {W w4 : World} {p q : Option Addr} {n c m d g B : Nat} {h : Hp} {A : Int} (hb : Below W.heap.size W w4) (hg : W.heap.size ≤ g) (ho : OwnL w4 g [.int .i64 0, .int .i64 0, .slice none 0 0, .slice none 0 0, .int .i64 0, .int .i64 0, .int .u64 0]) (hr : w4.ownsRow B 55 4 (.slice q m d) m (pvals h.pages)) (hgB : g < B) (hB : W.heap.size ≤ B) :
    NwCut W p n c true h A (.pointer (some ⟨g, 0, none⟩)) (.bool true) (((((((w4.setCell ⟨g, 0, none⟩ (.int .i64 h.pw)).setCell ⟨g, 1, none⟩ (.int .i64 h.np)).setCell ⟨g, 2, none⟩ (.slice p n c)).setCell ⟨g, 3, none⟩ (.slice q m d)).setCell ⟨g, 4, none⟩ (.int .i64 h.space)).setCell ⟨g, 5, none⟩ (.int .i64 h.bump)).setCell ⟨g, 6, none⟩ (.int .u64 A)) := by
  refine ⟨rfl, below_set7 hb hg, fun _ => ⟨g, q, m, d, rfl, hg, ?_, ?_⟩⟩
  · exact ((((((ho.set 0 _ (by simp)).set 1 _ (by simp)).set 2 _ (by simp)).set 3 _ (by simp)).set 4 _ (by simp)).set 5 _ (by simp)).set 6 _ (by simp)
  · have s : ∀ (w : World) (o : Nat) (x : Value), w.ownsRow B 55 4 (.slice q m d) m (pvals h.pages) → (w.setCell ⟨g, o, none⟩ x).ownsRow B 55 4 (.slice q m d) m (pvals h.pages) := fun w o x hh => ownsRow_setCell_below hh hgB x
    exact own_mono (s _ _ _ (s _ _ _ (s _ _ _ (s _ _ _ (s _ _ _ (s _ _ _ (s _ _ _ hr))))))) hB
theorem nw_no {W wx : World} {p : Option Addr} {n c : Nat} {h : Hp} {A : Int} {a : Value} (hb : Below W.heap.size W wx) : NwCut W p n c false h A a (.bool false) wx := ⟨rfl, hb, fun h => by cases h⟩

set_option maxRecDepth 100000 in
set_option maxHeartbeats 3200000 in
theorem new_run7 (pw np sp bp : Int) (k L b : Nat) (p q : Option Addr) (n c m d : Nat) (ws : List Int) (ps : List Pg) (w : World) (hs : SRow w .u64 p n c ws) (hr : PRow w q m d ps) (hb2 : (b : Int) < 4294967296) (hv : validB k L b = true) (hp : properP pw np ws.length ps sp bp = true) (hq : PlOK ⟨pw, np, ws, ps, sp, bp⟩) (has : asksB pw np k L b = true)
    (OK : Bool) (A : Int) (H : Hp) (hOK : placeOK ⟨pw, np, ws, ps, sp, bp⟩ (L + 1) = OK) (hA : placeA ⟨pw, np, ws, ps, sp, bp⟩ (L + 1) = A) (hH : placeH ⟨pw, np, ws, ps, sp, bp⟩ (L + 1) = H)
    (hG : OK = true → properP H.pw H.np ws.length H.pages H.space H.bump = true ∧ (0 ≤ A ∧ A < 18446744073709551616) ∧ writeE ws A (wordV k L b :: List.replicate L 0) = 0) :
    Calls Try.prog 11 #[hpv pw np p n c q m d sp bp, .agg #[.int .i64 k, .int .i64 L, .int .u32 b]] w fun e w' => RetNw w.heap.size OK ⟨H.pw, H.np, writeV ws A (wordV k L b :: List.replicate L 0), H.pages, H.space, H.bump⟩ A e w' ∧ Below w.heap.size w w' := by
  obtain ⟨-, -, v3, v4, -, -⟩ := valid_parts hv
  have hL : L ≤ 255 := by omega
  have hb0 : Below w.heap.size w (((w.alloc (.cells #[.int .i64 pw, .int .i64 np, .slice p n c, .slice q m d, .int .i64 sp, .int .i64 bp] 32)).alloc (.cells #[.int .i64 k, .int .i64 L, .int .u32 b] 26)).alloc (.cells #[.int .i64 0, .int .i64 0, .slice none 0 0, .slice none 0 0, .int .i64 0, .int .i64 0] 32)) := bthen (bthen below_box below_box) below_box
  have hpr := Lib.hid (fun w' (hb : Below w.heap.size w w') => pproper_any pw np p q n c m d sp bp ws ps w' (hs.keep hb) (hr.keep hb))
  rw [hp] at hpr
  have hak := Lib.hid (fun w => asks_any pw np k L b w (by omega) hb2)
  rw [has] at hak
  have hsz := Lib.hid (fun w => hsize_any k L b w (by omega) hb2)
  rw [size_ok hv] at hsz
  have hpl0 := fun w' (hb : Below w.heap.size w w') => place_run pw np sp bp (L + 1) ws ps p q n c m d w' (hr.keep hb) hq (by omega)
  unfold hpv at hpl0
  have Hx := Lib.hid ((OwnL.new w [.int .i64 pw, .int .i64 np, .slice p n c, .slice q m d, .int .i64 sp, .int .i64 bp] 32).keep (bthen (below_box (o := (.cells #[.int .i64 k, .int .i64 L, .int .u32 b] 26))) (below_box (o := (.cells #[.int .i64 0, .int .i64 0, .slice none 0 0, .slice none 0 0, .int .i64 0, .int .i64 0] 32)))) (by simp))
  have Hh := Lib.hid ((OwnL.new (w.alloc (.cells #[.int .i64 pw, .int .i64 np, .slice p n c, .slice q m d, .int .i64 sp, .int .i64 bp] 32)) [.int .i64 k, .int .i64 L, .int .u32 b] 26).keep (below_box (o := (.cells #[.int .i64 0, .int .i64 0, .slice none 0 0, .slice none 0 0, .int .i64 0, .int .i64 0] 32))) (by simp))
  have Ho := Lib.hid (OwnL.new ((w.alloc (.cells #[.int .i64 pw, .int .i64 np, .slice p n c, .slice q m d, .int .i64 sp, .int .i64 bp] 32)).alloc (.cells #[.int .i64 k, .int .i64 L, .int .u32 b] 26)) [.int .i64 0, .int .i64 0, .slice none 0 0, .slice none 0 0, .int .i64 0, .int .i64 0] 32)
  have HB := Lib.hid hb0
  simp only [World.size_alloc] at Hh Ho
  unfold hpv
  rw [hOK, hA, hH] at hpl0
  have hin := Lib.hid (fun (hok : OK = true) w' q7 m7 d7 (hb : Below w.heap.size w w') (hr : PRow w' q7 m7 d7 H.pages) => pinit_run H.pw H.np H.space H.bump A k L b p q7 n c m7 d7 ws H.pages w' (hs.keep hb) hr (hG hok).2.1.1 (hG hok).2.1.2 hb2 hv (hG hok).1)
  have hE0 := Lib.hid (fun hok : OK = true => (hG hok).2.2)
  have hm0 := Lib.hid (fun hok : OK = true => (show 1 ≤ H.pages.length by
    have := (hG hok).1
    unfold properP at this
    simp only [Bool.and_eq_true, decide_eq_true_eq] at this
    have c := conf_parts this.1.1.1.1.1
    have l := this.1.1.1.2
    omega))
  obtain ⟨Y, hY⟩ : ∃ Y, Hid (writeV ws A (wordV k L b :: List.replicate L 0) = Y) := ⟨_, rfl⟩
  obtain ⟨E, hE⟩ : ∃ E, Hid (writeE ws A (wordV k L b :: List.replicate L 0) = E) := ⟨_, rfl⟩
  rw [hY.out, hE.out] at hin
  rw [hE.out] at hE0
  rw [hY.out]
  have Hpl0 := Lib.hid hpl0
  have hya := spotYes
  have hno := spotNo
  clear hs hr hb0 hp v3 v4 hv hb2 hpl0 has hq hG hOK hA hH
  go_enter Try.func11, Try.ntmps11
  go_wp2_with fail
  refine (hpr.out _ HB.out).mono ?_
  rintro e w1 ⟨rfl, hb1⟩
  have hw1 := Lib.hid (bthen HB.out hb1)
  have Ho1 := Lib.hid (Ho.out.keep hb1 (by simp))
  have Hh1 := Lib.hid (Hh.out.keep hb1 (by simp; try omega))
  have Hx1 := Lib.hid (Hx.out.keep hb1 (by simp; try omega))
  have hsz1 : w.heap.size + 1 + 1 + 1 ≤ w1.heap.size := by have := hb1.size; simpa using this
  have x0 := Hx1.out.cell 0 _ rfl
  have x1 := Hx1.out.cell 1 _ rfl
  have z0 := Hh1.out.cell 0 _ rfl
  have z1 := Hh1.out.cell 1 _ rfl
  have z2 := Hh1.out.cell 2 _ rfl
  clear hpr Ho Hh Hx HB hb1
  go_wp2_with fail
  refine (hak.out _).mono ?_
  rintro e w2 ⟨rfl, hb2⟩
  have hw2 := Lib.hid (bthen hw1.out hb2)
  have Ho2 := Lib.hid (Ho1.out.keep hb2 (by omega))
  have Hh2 := Lib.hid (Hh1.out.keep hb2 (by omega))
  have Hx2 := Lib.hid (Hx1.out.keep hb2 (by omega))
  have hsz2 : w.heap.size + 1 + 1 + 1 ≤ w2.heap.size := Nat.le_trans hsz1 hb2.size
  have hpl := Lib.hid (fun w' (hb : Below w2.heap.size w2 w') => Hpl0.out w' (bthen hw2.out hb))
  have x0 := Hx2.out.cell 0 _ rfl
  have x1 := Hx2.out.cell 1 _ rfl
  have x2 := Hx2.out.cell 2 _ rfl
  have x3 := Hx2.out.cell 3 _ rfl
  have x4 := Hx2.out.cell 4 _ rfl
  have x5 := Hx2.out.cell 5 _ rfl
  have z0 := Hh2.out.cell 0 _ rfl
  have z1 := Hh2.out.cell 1 _ rfl
  have z2 := Hh2.out.cell 2 _ rfl
  clear hak Ho1 Hh1 Hx1 hb2 hw1 hsz1 Hpl0
  go_upto_region 3 with fail
  go_cut [7, 8] (fun ta tb wx => NwCut w2 p n c OK H A ta tb wx)
  case first =>
    refine wp_region_held_drew (S := fun w' => Below w2.heap.size w2 w') (by kernel_rfl) ((Below.refl _ _).drew) (fun hHeld => ?_)
    refine draw_take 0 23 (v := ?_) rfl rfl (by kernel_rfl) (by kernel_rfl) (by kernel_rfl) (fun _ _ _ h => h) (by kernel_rfl) ?hy hHeld ?_
    case hy => (intro w' hSw; (try dsimp only at hSw); have x0 := cell_keep hSw x0; have x1 := cell_keep hSw x1; have x2 := cell_keep hSw x2; have x3 := cell_keep hSw x3; have x4 := cell_keep hSw x4; have x5 := cell_keep hSw x5; have z0 := cell_keep hSw z0; have z1 := cell_keep hSw z1; have z2 := cell_keep hSw z2; go_simp; try (with_reducible rfl))
    simp only [Act.put, List.setIfInBounds_toArray, List.set_cons_zero, List.set_cons_succ]
    refine draw_take 1 24 (v := ?_) rfl rfl (by kernel_rfl) (by kernel_rfl) (by kernel_rfl) (fun _ _ _ h => h) (by kernel_rfl) ?hy hHeld ?_
    case hy => (intro w' hSw; (try dsimp only at hSw); have x0 := cell_keep hSw x0; have x1 := cell_keep hSw x1; have x2 := cell_keep hSw x2; have x3 := cell_keep hSw x3; have x4 := cell_keep hSw x4; have x5 := cell_keep hSw x5; have z0 := cell_keep hSw z0; have z1 := cell_keep hSw z1; have z2 := cell_keep hSw z2; go_simp; try (with_reducible rfl))
    simp only [Act.put, List.setIfInBounds_toArray, List.set_cons_zero, List.set_cons_succ]
    refine wpAnyH_ready (rs := [2, 8]) (by kernel_rfl) (by simp) ?_
    refine AllReadyH.cons rfl (fun K hK => ?_) (AllReadyH.cons rfl (fun K hK => ?_) AllReadyH.nil)
    · go_simp
      (go_at_call 15; refine (hsz.out _).mono ?_; rintro e w3 ⟨rfl, hbq⟩)
      go_wp2_with fail
      refine hK.out _ _ (bthen hHeld hbq) (fun hHeld => ?_)
      clear hK K
      try simp only [Act.put, List.setIfInBounds_toArray, List.set_cons_zero, List.set_cons_succ]
      refine wpAnyH_ready (rs := [3, 8]) (by kernel_rfl) (by simp) ?_
      refine AllReadyH.cons rfl (fun K hK => ?_) (AllReadyH.cons rfl (fun K hK => ?_) AllReadyH.nil)
      · have hszB := hHeld.size
        go_simp
        (go_at_call 21; refine (hpl.out _ hHeld).mono ?_; rintro e w4 ⟨hret, hbq⟩)
        rcases hret with ⟨hok, q7, m7, d7, heq, hown⟩ | ⟨hok, heq⟩
        · unfold spotV at heq
          subst heq
          subst hok
          go_wp2_with fail
          refine hK.out _ _ (bthen hHeld hbq) (fun hHeld => ?_)
          clear hK K
          try simp only [Act.put, List.setIfInBounds_toArray, List.set_cons_zero, List.set_cons_succ]
          refine draw_take 4 27 (v := ?_) rfl rfl (by kernel_rfl) (by kernel_rfl) (by kernel_rfl) (fun _ _ _ h => h) (by kernel_rfl) ?hy hHeld ?_
          case hy => (intro w hSw; (try dsimp only at hSw); go_simp; try (with_reducible rfl))
          simp only [Act.put, List.setIfInBounds_toArray, List.set_cons_zero, List.set_cons_succ]
          refine draw_take 5 22 (v := ?_) rfl rfl (by kernel_rfl) (by kernel_rfl) (by kernel_rfl) (fun _ _ _ h => h) (by kernel_rfl) ?hy hHeld ?_
          case hy => (intro w hSw; (try dsimp only at hSw); go_simp; try (with_reducible rfl))
          simp only [Act.put, List.setIfInBounds_toArray, List.set_cons_zero, List.set_cons_succ]
          refine draw_take 6 28 (v := ?_) rfl rfl (by kernel_rfl) (by kernel_rfl) (by kernel_rfl) (fun _ _ _ h => h) (by kernel_rfl) ?hy hHeld ?_
          case hy => (intro w hSw; (try dsimp only at hSw); go_simp; try (with_reducible rfl))
          simp only [Act.put, List.setIfInBounds_toArray, List.set_cons_zero, List.set_cons_succ]
          refine draw_take 7 29 (v := ?_) rfl rfl (by kernel_rfl) (by kernel_rfl) (by kernel_rfl) (fun _ _ _ h => h) (by kernel_rfl) ?hy hHeld ?_
          case hy => (intro w hSw; (try dsimp only at hSw); go_simp; try (with_reducible rfl))
          simp only [Act.put, List.setIfInBounds_toArray, List.set_cons_zero, List.set_cons_succ]
          have hB4 := hHeld
          refine wpAnyH_ready (rs := [8]) (by kernel_rfl) (by simp) ?_
          refine AllReadyH.cons rfl (fun K hK => ?_) AllReadyH.nil
          go_simp
          refine hK.out _ _ (bthen hHeld below_box) (fun hHeld => ?_)
          clear hK K
          try simp only [Act.put, List.setIfInBounds_toArray, List.set_cons_zero, List.set_cons_succ]
          refine wpAnyH_ready (rs := [9]) (by kernel_rfl) (by simp) ?_
          refine AllReadyH.cons rfl (fun K hK => ?_) AllReadyH.nil
          go_simp
          refine hK.out _ _ (bthen hB4 below_box) (fun hHeld => ?_)
          clear hK K
          try simp only [Act.put, List.setIfInBounds_toArray, List.set_cons_zero, List.set_cons_succ]
          refine draw_take 10 8 (v := ?_) rfl rfl (by kernel_rfl) (by kernel_rfl) (by kernel_rfl) (fun _ _ _ h => h) (by kernel_rfl) ?hy hHeld ?_
          case hy => (intro w hSw; (try dsimp only at hSw); go_simp; try (with_reducible rfl))
          simp only [Act.put, List.setIfInBounds_toArray, List.set_cons_zero, List.set_cons_succ]
          refine wpAnyH_done (by kernel_rfl) ?_ _
          go_wp2_with fail
          go_meet
          exact nw_new hB4 (own_mono hown hszB)
        · subst heq
          subst hok
          go_wp2_with fail
          refine hK.out _ _ (bthen hHeld hbq) (fun hHeld => ?_)
          clear hK K
          try simp only [Act.put, List.setIfInBounds_toArray, List.set_cons_zero, List.set_cons_succ]
          refine draw_take 4 27 (v := ?_) rfl rfl (by kernel_rfl) (by kernel_rfl) (by kernel_rfl) (fun _ _ _ h => h) (by kernel_rfl) ?hy hHeld ?_
          case hy => (intro w hSw; (try dsimp only at hSw); go_simp; try (with_reducible rfl))
          simp only [Act.put, List.setIfInBounds_toArray, List.set_cons_zero, List.set_cons_succ]
          refine draw_take 5 22 (v := ?_) rfl rfl (by kernel_rfl) (by kernel_rfl) (by kernel_rfl) (fun _ _ _ h => h) (by kernel_rfl) ?hy hHeld ?_
          case hy => (intro w hSw; (try dsimp only at hSw); go_simp; try (with_reducible rfl))
          simp only [Act.put, List.setIfInBounds_toArray, List.set_cons_zero, List.set_cons_succ]
          refine draw_take 6 28 (v := ?_) rfl rfl (by kernel_rfl) (by kernel_rfl) (by kernel_rfl) (fun _ _ _ h => h) (by kernel_rfl) ?hy hHeld ?_
          case hy => (intro w hSw; (try dsimp only at hSw); go_simp; try (with_reducible rfl))
          simp only [Act.put, List.setIfInBounds_toArray, List.set_cons_zero, List.set_cons_succ]
          refine draw_take 7 29 (v := ?_) rfl rfl (by kernel_rfl) (by kernel_rfl) (by kernel_rfl) (fun _ _ _ h => h) (by kernel_rfl) ?hy hHeld ?_
          case hy => (intro w hSw; (try dsimp only at hSw); go_simp; try (with_reducible rfl))
          simp only [Act.put, List.setIfInBounds_toArray, List.set_cons_zero, List.set_cons_succ]
          have hB4 := hHeld
          refine wpAnyH_ready (rs := [8]) (by kernel_rfl) (by simp) ?_
          refine AllReadyH.cons rfl (fun K hK => ?_) AllReadyH.nil
          go_simp
          refine hK.out _ _ (bthen hHeld below_box) (fun hHeld => ?_)
          clear hK K
          try simp only [Act.put, List.setIfInBounds_toArray, List.set_cons_zero, List.set_cons_succ]
          refine wpAnyH_ready (rs := [9]) (by kernel_rfl) (by simp) ?_
          refine AllReadyH.cons rfl (fun K hK => ?_) AllReadyH.nil
          go_simp
          refine hK.out _ _ (bthen hB4 below_box) (fun hHeld => ?_)
          clear hK K
          try simp only [Act.put, List.setIfInBounds_toArray, List.set_cons_zero, List.set_cons_succ]
          refine draw_take 10 8 (v := ?_) rfl rfl (by kernel_rfl) (by kernel_rfl) (by kernel_rfl) (fun _ _ _ h => h) (by kernel_rfl) ?hy hHeld ?_
          case hy => (intro w hSw; (try dsimp only at hSw); go_simp; try (with_reducible rfl))
          simp only [Act.put, List.setIfInBounds_toArray, List.set_cons_zero, List.set_cons_succ]
          refine wpAnyH_done (by kernel_rfl) ?_ _
          go_wp2_with fail
          go_meet
          exact nw_no (bthen hB4 below_box)
      · have hgW := hHeld.size
        have Hob := Lib.hid (OwnL.new w3 [.int .i64 0, .int .i64 0, .slice none 0 0, .slice none 0 0, .int .i64 0, .int .i64 0, .int .u64 0] 50)
        go_simp
        refine hK.out _ _ (bthen hHeld below_box) (fun hHeld => ?_)
        clear hK K
        try simp only [Act.put, List.setIfInBounds_toArray, List.set_cons_zero, List.set_cons_succ]
        refine wpAnyH_ready (rs := [3]) (by kernel_rfl) (by simp) ?_
        refine AllReadyH.cons rfl (fun K hK => ?_) AllReadyH.nil
        have hszB := hHeld.size
        have hgB := Hob.out.lt rfl
        go_simp
        (go_at_call 21; refine (hpl.out _ hHeld).mono ?_; rintro e w4 ⟨hret, hbq⟩)
        rcases hret with ⟨hok, q7, m7, d7, heq, hown⟩ | ⟨hok, heq⟩
        · unfold spotV at heq
          subst heq
          subst hok
          go_wp2_with fail
          refine hK.out _ _ (bthen hHeld hbq) (fun hHeld => ?_)
          clear hK K
          try simp only [Act.put, List.setIfInBounds_toArray, List.set_cons_zero, List.set_cons_succ]
          refine draw_take 4 27 (v := ?_) rfl rfl (by kernel_rfl) (by kernel_rfl) (by kernel_rfl) (fun _ _ _ h => h) (by kernel_rfl) ?hy hHeld ?_
          case hy => (intro w hSw; (try dsimp only at hSw); go_simp; try (with_reducible rfl))
          simp only [Act.put, List.setIfInBounds_toArray, List.set_cons_zero, List.set_cons_succ]
          refine draw_take 5 22 (v := ?_) rfl rfl (by kernel_rfl) (by kernel_rfl) (by kernel_rfl) (fun _ _ _ h => h) (by kernel_rfl) ?hy hHeld ?_
          case hy => (intro w hSw; (try dsimp only at hSw); go_simp; try (with_reducible rfl))
          simp only [Act.put, List.setIfInBounds_toArray, List.set_cons_zero, List.set_cons_succ]
          refine draw_take 6 28 (v := ?_) rfl rfl (by kernel_rfl) (by kernel_rfl) (by kernel_rfl) (fun _ _ _ h => h) (by kernel_rfl) ?hy hHeld ?_
          case hy => (intro w hSw; (try dsimp only at hSw); go_simp; try (with_reducible rfl))
          simp only [Act.put, List.setIfInBounds_toArray, List.set_cons_zero, List.set_cons_succ]
          refine draw_take 7 29 (v := ?_) rfl rfl (by kernel_rfl) (by kernel_rfl) (by kernel_rfl) (fun _ _ _ h => h) (by kernel_rfl) ?hy hHeld ?_
          case hy => (intro w hSw; (try dsimp only at hSw); go_simp; try (with_reducible rfl))
          simp only [Act.put, List.setIfInBounds_toArray, List.set_cons_zero, List.set_cons_succ]
          have hOb := Lib.hid (Hob.out.keep hbq (Hob.out.lt rfl))
          have s0 := hOb.out.cell 0 _ rfl
          have s1 := hOb.out.cell 1 _ rfl
          have s2 := hOb.out.cell 2 _ rfl
          have s3 := hOb.out.cell 3 _ rfl
          have s4 := hOb.out.cell 4 _ rfl
          have s5 := hOb.out.cell 5 _ rfl
          have s6 := hOb.out.cell 6 _ rfl
          have r0 := hOb.out.free 0
          have r1 := hOb.out.free 1
          have r2 := hOb.out.free 2
          have r3 := hOb.out.free 3
          have r4 := hOb.out.free 4
          have r5 := hOb.out.free 5
          have r6 := hOb.out.free 6
          have hB4 := hHeld
          refine wpAnyH_ready (rs := [9]) (by kernel_rfl) (by simp) ?_
          refine AllReadyH.cons rfl (fun K hK => ?_) AllReadyH.nil
          go_simp
          refine hK.out _ _ (below_set7 hB4 hgW) (fun hHeld => ?_)
          clear hK K
          try simp only [Act.put, List.setIfInBounds_toArray, List.set_cons_zero, List.set_cons_succ]
          refine draw_take 10 8 (v := ?_) rfl rfl (by kernel_rfl) (by kernel_rfl) (by kernel_rfl) (fun _ _ _ h => h) (by kernel_rfl) ?hy hHeld ?_
          case hy => (intro w hSw; (try dsimp only at hSw); go_simp; try (with_reducible rfl))
          simp only [Act.put, List.setIfInBounds_toArray, List.set_cons_zero, List.set_cons_succ]
          refine wpAnyH_done (by kernel_rfl) ?_ _
          go_wp2_with fail
          go_meet
          exact nw_yes hB4 hgW hOb.out hown hgB hszB
        · subst heq
          subst hok
          go_wp2_with fail
          refine hK.out _ _ (bthen hHeld hbq) (fun hHeld => ?_)
          clear hK K
          try simp only [Act.put, List.setIfInBounds_toArray, List.set_cons_zero, List.set_cons_succ]
          refine draw_take 4 27 (v := ?_) rfl rfl (by kernel_rfl) (by kernel_rfl) (by kernel_rfl) (fun _ _ _ h => h) (by kernel_rfl) ?hy hHeld ?_
          case hy => (intro w hSw; (try dsimp only at hSw); go_simp; try (with_reducible rfl))
          simp only [Act.put, List.setIfInBounds_toArray, List.set_cons_zero, List.set_cons_succ]
          refine draw_take 5 22 (v := ?_) rfl rfl (by kernel_rfl) (by kernel_rfl) (by kernel_rfl) (fun _ _ _ h => h) (by kernel_rfl) ?hy hHeld ?_
          case hy => (intro w hSw; (try dsimp only at hSw); go_simp; try (with_reducible rfl))
          simp only [Act.put, List.setIfInBounds_toArray, List.set_cons_zero, List.set_cons_succ]
          refine draw_take 6 28 (v := ?_) rfl rfl (by kernel_rfl) (by kernel_rfl) (by kernel_rfl) (fun _ _ _ h => h) (by kernel_rfl) ?hy hHeld ?_
          case hy => (intro w hSw; (try dsimp only at hSw); go_simp; try (with_reducible rfl))
          simp only [Act.put, List.setIfInBounds_toArray, List.set_cons_zero, List.set_cons_succ]
          refine draw_take 7 29 (v := ?_) rfl rfl (by kernel_rfl) (by kernel_rfl) (by kernel_rfl) (fun _ _ _ h => h) (by kernel_rfl) ?hy hHeld ?_
          case hy => (intro w hSw; (try dsimp only at hSw); go_simp; try (with_reducible rfl))
          simp only [Act.put, List.setIfInBounds_toArray, List.set_cons_zero, List.set_cons_succ]
          have hOb := Lib.hid (Hob.out.keep hbq (Hob.out.lt rfl))
          have s0 := hOb.out.cell 0 _ rfl
          have s1 := hOb.out.cell 1 _ rfl
          have s2 := hOb.out.cell 2 _ rfl
          have s3 := hOb.out.cell 3 _ rfl
          have s4 := hOb.out.cell 4 _ rfl
          have s5 := hOb.out.cell 5 _ rfl
          have s6 := hOb.out.cell 6 _ rfl
          have r0 := hOb.out.free 0
          have r1 := hOb.out.free 1
          have r2 := hOb.out.free 2
          have r3 := hOb.out.free 3
          have r4 := hOb.out.free 4
          have r5 := hOb.out.free 5
          have r6 := hOb.out.free 6
          have hB4 := hHeld
          refine wpAnyH_ready (rs := [9]) (by kernel_rfl) (by simp) ?_
          refine AllReadyH.cons rfl (fun K hK => ?_) AllReadyH.nil
          go_simp
          refine hK.out _ _ (below_set7 hB4 hgW) (fun hHeld => ?_)
          clear hK K
          try simp only [Act.put, List.setIfInBounds_toArray, List.set_cons_zero, List.set_cons_succ]
          refine draw_take 10 8 (v := ?_) rfl rfl (by kernel_rfl) (by kernel_rfl) (by kernel_rfl) (fun _ _ _ h => h) (by kernel_rfl) ?hy hHeld ?_
          case hy => (intro w hSw; (try dsimp only at hSw); go_simp; try (with_reducible rfl))
          simp only [Act.put, List.setIfInBounds_toArray, List.set_cons_zero, List.set_cons_succ]
          refine wpAnyH_done (by kernel_rfl) ?_ _
          go_wp2_with fail
          go_meet
          exact nw_no (below_set7 hB4 hgW)
    · have hgW : w2.heap.size ≤ w2.heap.size := Nat.le_refl _
      have Hob := Lib.hid (OwnL.new w2.drew [.int .i64 0, .int .i64 0, .slice none 0 0, .slice none 0 0, .int .i64 0, .int .i64 0, .int .u64 0] 50)
      simp only [World.size_drew] at Hob
      go_simp
      refine hK.out _ _ (bthen hHeld below_box) (fun hHeld => ?_)
      clear hK K
      try simp only [Act.put, List.setIfInBounds_toArray, List.set_cons_zero, List.set_cons_succ]
      refine wpAnyH_ready (rs := [2]) (by kernel_rfl) (by simp) ?_
      refine AllReadyH.cons rfl (fun K hK => ?_) AllReadyH.nil
      go_simp
      (go_at_call 15; refine (hsz.out _).mono ?_; rintro e w3 ⟨rfl, hbq⟩)
      have Hob := Lib.hid (Hob.out.keep hbq (Hob.out.lt rfl))
      go_wp2_with fail
      refine hK.out _ _ (bthen hHeld hbq) (fun hHeld => ?_)
      clear hK K
      try simp only [Act.put, List.setIfInBounds_toArray, List.set_cons_zero, List.set_cons_succ]
      refine wpAnyH_ready (rs := [3]) (by kernel_rfl) (by simp) ?_
      refine AllReadyH.cons rfl (fun K hK => ?_) AllReadyH.nil
      have hszB := hHeld.size
      have hgB := Hob.out.lt rfl
      go_simp
      (go_at_call 21; refine (hpl.out _ hHeld).mono ?_; rintro e w4 ⟨hret, hbq⟩)
      rcases hret with ⟨hok, q7, m7, d7, heq, hown⟩ | ⟨hok, heq⟩
      · unfold spotV at heq
        subst heq
        subst hok
        go_wp2_with fail
        refine hK.out _ _ (bthen hHeld hbq) (fun hHeld => ?_)
        clear hK K
        try simp only [Act.put, List.setIfInBounds_toArray, List.set_cons_zero, List.set_cons_succ]
        refine draw_take 4 27 (v := ?_) rfl rfl (by kernel_rfl) (by kernel_rfl) (by kernel_rfl) (fun _ _ _ h => h) (by kernel_rfl) ?hy hHeld ?_
        case hy => (intro w hSw; (try dsimp only at hSw); go_simp; try (with_reducible rfl))
        simp only [Act.put, List.setIfInBounds_toArray, List.set_cons_zero, List.set_cons_succ]
        refine draw_take 5 22 (v := ?_) rfl rfl (by kernel_rfl) (by kernel_rfl) (by kernel_rfl) (fun _ _ _ h => h) (by kernel_rfl) ?hy hHeld ?_
        case hy => (intro w hSw; (try dsimp only at hSw); go_simp; try (with_reducible rfl))
        simp only [Act.put, List.setIfInBounds_toArray, List.set_cons_zero, List.set_cons_succ]
        refine draw_take 6 28 (v := ?_) rfl rfl (by kernel_rfl) (by kernel_rfl) (by kernel_rfl) (fun _ _ _ h => h) (by kernel_rfl) ?hy hHeld ?_
        case hy => (intro w hSw; (try dsimp only at hSw); go_simp; try (with_reducible rfl))
        simp only [Act.put, List.setIfInBounds_toArray, List.set_cons_zero, List.set_cons_succ]
        refine draw_take 7 29 (v := ?_) rfl rfl (by kernel_rfl) (by kernel_rfl) (by kernel_rfl) (fun _ _ _ h => h) (by kernel_rfl) ?hy hHeld ?_
        case hy => (intro w hSw; (try dsimp only at hSw); go_simp; try (with_reducible rfl))
        simp only [Act.put, List.setIfInBounds_toArray, List.set_cons_zero, List.set_cons_succ]
        have hOb := Lib.hid (Hob.out.keep hbq (Hob.out.lt rfl))
        have s0 := hOb.out.cell 0 _ rfl
        have s1 := hOb.out.cell 1 _ rfl
        have s2 := hOb.out.cell 2 _ rfl
        have s3 := hOb.out.cell 3 _ rfl
        have s4 := hOb.out.cell 4 _ rfl
        have s5 := hOb.out.cell 5 _ rfl
        have s6 := hOb.out.cell 6 _ rfl
        have r0 := hOb.out.free 0
        have r1 := hOb.out.free 1
        have r2 := hOb.out.free 2
        have r3 := hOb.out.free 3
        have r4 := hOb.out.free 4
        have r5 := hOb.out.free 5
        have r6 := hOb.out.free 6
        have hB4 := hHeld
        refine wpAnyH_ready (rs := [9]) (by kernel_rfl) (by simp) ?_
        refine AllReadyH.cons rfl (fun K hK => ?_) AllReadyH.nil
        go_simp
        refine hK.out _ _ (below_set7 hB4 hgW) (fun hHeld => ?_)
        clear hK K
        try simp only [Act.put, List.setIfInBounds_toArray, List.set_cons_zero, List.set_cons_succ]
        refine draw_take 10 8 (v := ?_) rfl rfl (by kernel_rfl) (by kernel_rfl) (by kernel_rfl) (fun _ _ _ h => h) (by kernel_rfl) ?hy hHeld ?_
        case hy => (intro w hSw; (try dsimp only at hSw); go_simp; try (with_reducible rfl))
        simp only [Act.put, List.setIfInBounds_toArray, List.set_cons_zero, List.set_cons_succ]
        refine wpAnyH_done (by kernel_rfl) ?_ _
        go_wp2_with fail
        go_meet
        exact nw_yes hB4 hgW hOb.out hown hgB hszB
      · subst heq
        subst hok
        go_wp2_with fail
        refine hK.out _ _ (bthen hHeld hbq) (fun hHeld => ?_)
        clear hK K
        try simp only [Act.put, List.setIfInBounds_toArray, List.set_cons_zero, List.set_cons_succ]
        refine draw_take 4 27 (v := ?_) rfl rfl (by kernel_rfl) (by kernel_rfl) (by kernel_rfl) (fun _ _ _ h => h) (by kernel_rfl) ?hy hHeld ?_
        case hy => (intro w hSw; (try dsimp only at hSw); go_simp; try (with_reducible rfl))
        simp only [Act.put, List.setIfInBounds_toArray, List.set_cons_zero, List.set_cons_succ]
        refine draw_take 5 22 (v := ?_) rfl rfl (by kernel_rfl) (by kernel_rfl) (by kernel_rfl) (fun _ _ _ h => h) (by kernel_rfl) ?hy hHeld ?_
        case hy => (intro w hSw; (try dsimp only at hSw); go_simp; try (with_reducible rfl))
        simp only [Act.put, List.setIfInBounds_toArray, List.set_cons_zero, List.set_cons_succ]
        refine draw_take 6 28 (v := ?_) rfl rfl (by kernel_rfl) (by kernel_rfl) (by kernel_rfl) (fun _ _ _ h => h) (by kernel_rfl) ?hy hHeld ?_
        case hy => (intro w hSw; (try dsimp only at hSw); go_simp; try (with_reducible rfl))
        simp only [Act.put, List.setIfInBounds_toArray, List.set_cons_zero, List.set_cons_succ]
        refine draw_take 7 29 (v := ?_) rfl rfl (by kernel_rfl) (by kernel_rfl) (by kernel_rfl) (fun _ _ _ h => h) (by kernel_rfl) ?hy hHeld ?_
        case hy => (intro w hSw; (try dsimp only at hSw); go_simp; try (with_reducible rfl))
        simp only [Act.put, List.setIfInBounds_toArray, List.set_cons_zero, List.set_cons_succ]
        have hOb := Lib.hid (Hob.out.keep hbq (Hob.out.lt rfl))
        have s0 := hOb.out.cell 0 _ rfl
        have s1 := hOb.out.cell 1 _ rfl
        have s2 := hOb.out.cell 2 _ rfl
        have s3 := hOb.out.cell 3 _ rfl
        have s4 := hOb.out.cell 4 _ rfl
        have s5 := hOb.out.cell 5 _ rfl
        have s6 := hOb.out.cell 6 _ rfl
        have r0 := hOb.out.free 0
        have r1 := hOb.out.free 1
        have r2 := hOb.out.free 2
        have r3 := hOb.out.free 3
        have r4 := hOb.out.free 4
        have r5 := hOb.out.free 5
        have r6 := hOb.out.free 6
        have hB4 := hHeld
        refine wpAnyH_ready (rs := [9]) (by kernel_rfl) (by simp) ?_
        refine AllReadyH.cons rfl (fun K hK => ?_) AllReadyH.nil
        go_simp
        refine hK.out _ _ (below_set7 hB4 hgW) (fun hHeld => ?_)
        clear hK K
        try simp only [Act.put, List.setIfInBounds_toArray, List.set_cons_zero, List.set_cons_succ]
        refine draw_take 10 8 (v := ?_) rfl rfl (by kernel_rfl) (by kernel_rfl) (by kernel_rfl) (fun _ _ _ h => h) (by kernel_rfl) ?hy hHeld ?_
        case hy => (intro w hSw; (try dsimp only at hSw); go_simp; try (with_reducible rfl))
        simp only [Act.put, List.setIfInBounds_toArray, List.set_cons_zero, List.set_cons_succ]
        refine wpAnyH_done (by kernel_rfl) ?_ _
        go_wp2_with fail
        go_meet
        exact nw_no (below_set7 hB4 hgW)
  case rest =>
    obtain ⟨rfl, hBc, hyes⟩ := hcut
    have hw3 := Lib.hid (bthen hw2.out hBc)
    have Ho3 := Lib.hid (Ho2.out.keep hBc (by omega))
    have Hh3 := Lib.hid (Hh2.out.keep hBc (by omega))
    have hsz3 : w.heap.size + 1 + 1 + 1 ≤ wc.heap.size := Nat.le_trans hsz2 hBc.size
    clear x0 x1 x2 x3 x4 x5 z0 z1 z2 Ho2 Hh2 Hx2 hpl hsz hw2
    cases OK
    · obtain ⟨d0, d1, d2, d3, d4, d5, e0, e1, e2, e3, e4, e5⟩ := Own6.ofL Ho3.out
      clear hyes hin hE0 hm0
      go_wp2
      exact bodyPost_ret (v := .tuple #[.agg #[.int .i64 0, .int .i64 0, .slice none 0 0, .slice none 0 0, .int .i64 0, .int .i64 0], .int .u64 0, .int .i64 3]) (by simp [results, Try.results11, go_sem, d0, d1, d2, d3, d4, d5]) rfl ⟨Or.inr ⟨rfl, rfl⟩, below_set6 hw3.out (by omega)⟩
    · obtain ⟨g, q7, m7, d7, rfl, hg, hOg, hown⟩ := hyes rfl
      obtain rfl := hE0.out rfl
      have hm1 := hm0.out rfl
      have hlen := hown.1
      rw [pvals_len] at hlen
      obtain ⟨g7, c7, hgv, hg7, hgl⟩ := World.ownsRow.form hown (by omega)
      obtain ⟨rfl, rfl⟩ : q7 = some ⟨g7, 0, none⟩ ∧ d7 = c7 := by
        injection hgv with a1 a2 a3
        exact ⟨a1, a3⟩
      have hinc := Lib.hid (hin.out rfl wc (some ⟨g7, 0, none⟩) m7 d7 hw3.out (prow_own hown))
      have s0 := hOg.cell 0 _ rfl
      have s1 := hOg.cell 1 _ rfl
      have s2 := hOg.cell 2 _ rfl
      have s3 := hOg.cell 3 _ rfl
      have s4 := hOg.cell 4 _ rfl
      have s5 := hOg.cell 5 _ rfl
      have s6 := hOg.cell 6 _ rfl
      have HOg := Lib.hid hOg
      have hgl2 := hOg.lt rfl
      have z0 := Hh3.out.cell 0 _ rfl
      have z1 := Hh3.out.cell 1 _ rfl
      have z2 := Hh3.out.cell 2 _ rfl
      clear hyes hin hE0 hm0 hgv hOg hown hBc
      go_wp2_with fail
      refine hinc.out.mono ?_
      rintro e w5 ⟨hret, hb5⟩
      rcases hret with ⟨-, p', n', c', q', m', d', rfl, hrw, hpw⟩ | ⟨h0, rfl⟩
      · have hw5 := Lib.hid (bthen hw3.out hb5)
        have HOg5 := HOg.out.keep hb5 hgl2
        have Ho5 := Ho3.out.keep hb5 (by omega)
        have s6 := HOg5.cell 6 _ rfl
        have hlen' := hpw.1
        rw [pvals_len] at hlen'
        have hwcg := hb5.size
        obtain ⟨g8, c8, hgv, hg8, hgl8⟩ := World.ownsRow.form hpw (by omega)
        obtain ⟨rfl, rfl⟩ : q' = some ⟨g8, 0, none⟩ ∧ d' = c8 := by
          injection hgv with a1 a2 a3
          exact ⟨a1, a3⟩
        have hbx := (below_box (w := ((((((w5.setCell ⟨w.heap.size + 1 + 1, 0, none⟩ (.int .i64 H.pw)).setCell ⟨w.heap.size + 1 + 1, 1, none⟩ (.int .i64 H.np)).setCell ⟨w.heap.size + 1 + 1, 2, none⟩ (.slice p' n' c')).setCell ⟨w.heap.size + 1 + 1, 3, none⟩ (.slice (some ⟨g8, 0, none⟩) m' d')).setCell ⟨w.heap.size + 1 + 1, 4, none⟩ (.int .i64 H.space)).setCell ⟨w.heap.size + 1 + 1, 5, none⟩ (.int .i64 H.bump))) (o := .cells #[.int .i64 H.pw, .int .i64 H.np, .slice p' n' c', .slice (some ⟨g8, 0, none⟩) m' d', .int .i64 H.space, .int .i64 H.bump] 32)).drew
        have key := (SRow.set6o hrw (Own6.ofL Ho5) (fun x e => by cases e) (fun x e => by cases e) (fun x e => by cases e) (fun x e => by cases e) (fun x e => by cases e) (fun x e => by cases e) (.int .i64 H.pw) (.int .i64 H.np) (.slice p' n' c') (.slice (some ⟨g8, 0, none⟩) m' d') (.int .i64 H.space) (.int .i64 H.bump)).keep hbx
        have hown3 := own_below (own_mono (own_set6 hpw (w.heap.size + 1 + 1) (by omega) (.int .i64 H.pw) (.int .i64 H.np) (.slice p' n' c') (.slice (some ⟨g8, 0, none⟩) m' d') (.int .i64 H.space) (.int .i64 H.bump)) (show w.heap.size ≤ wc.heap.size by omega)) hbx
        have hB6 := bthen (below_set6 (b := w.heap.size + 1 + 1) (x0 := .int .i64 H.pw) (x1 := .int .i64 H.np) (x2 := .slice p' n' c') (x3 := .slice (some ⟨g8, 0, none⟩) m' d') (x4 := .int .i64 H.space) (x5 := .int .i64 H.bump) hw5.out (by omega)) hbx
        have hO := ((Own6.ofL Ho5).set (.int .i64 H.pw) (.int .i64 H.np) (.slice p' n' c') (.slice (some ⟨g8, 0, none⟩) m' d') (.int .i64 H.space) (.int .i64 H.bump)).keep hbx
        obtain ⟨W, hW⟩ : ∃ W, (World.drew (World.alloc ((((((w5.setCell ⟨w.heap.size + 1 + 1, 0, none⟩ (.int .i64 H.pw)).setCell ⟨w.heap.size + 1 + 1, 1, none⟩ (.int .i64 H.np)).setCell ⟨w.heap.size + 1 + 1, 2, none⟩ (.slice p' n' c')).setCell ⟨w.heap.size + 1 + 1, 3, none⟩ (.slice (some ⟨g8, 0, none⟩) m' d')).setCell ⟨w.heap.size + 1 + 1, 4, none⟩ (.int .i64 H.space)).setCell ⟨w.heap.size + 1 + 1, 5, none⟩ (.int .i64 H.bump)) (.cells #[.int .i64 H.pw, .int .i64 H.np, .slice p' n' c', .slice (some ⟨g8, 0, none⟩) m' d', .int .i64 H.space, .int .i64 H.bump] 32))) = W := ⟨_, rfl⟩
        rw [hW] at key hown3 hB6 hO
        have HW := Lib.hid hW
        have Key := Lib.hid key
        have Hown3 := Lib.hid hown3
        have HB6 := Lib.hid hB6
        have HO6 := Lib.hid hO
        obtain ⟨d0, d1, d2, d3, d4, d5, e0, e1, e2, e3, e4, e5⟩ := Own6.ofL Ho5
        have lb : w.heap.size + 1 + 1 < w5.heap.size := by omega
        have lne : w.heap.size + 1 + 1 ≠ w5.heap.size := Nat.ne_of_lt lb
        have lne1 : w5.heap.size ≠ w.heap.size + 1 + 1 := fun h => lne h.symm
        have lg : g < w5.heap.size := by omega
        have lgne : g ≠ w5.heap.size := Nat.ne_of_lt lg
        clear hgv hb5 hrw hpw hbx Ho5 HOg5 hinc hW key hown3 hB6 hO
        go_wp2
        go_region
        all_goals
          rw [HW.out]
          obtain ⟨u0, u1, u2, u3, u4, u5, -, -, -, -, -, -⟩ := HO6.out
          clear d0 d1 d2 d3 d4 d5 e0 e1 e2 e3 e4 e5 s0 s1 s2 s3 s4 s5 s6 z0 z1 z2 lb lne lne1 lg lgne HW
          go_wp2
          exact bodyPost_ret (v := .tuple #[.agg #[.int .i64 H.pw, .int .i64 H.np, .slice p' n' c', .slice (some ⟨g8, 0, none⟩) m' d', .int .i64 H.space, .int .i64 H.bump], .int .u64 A, .int .i64 0]) (by simp [results, Try.results11, go_sem, u0, u1, u2, u3, u4, u5]) rfl ⟨Or.inl ⟨rfl, p', n', c', _, m', d', rfl, Key.out, Hown3.out⟩, HB6.out⟩
      · exact absurd rfl h0
end Go.Proofs.Ytbenklhbcgiacaa
