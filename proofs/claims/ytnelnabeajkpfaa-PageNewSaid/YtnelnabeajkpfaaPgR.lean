/- Contract of page.New. -/
import Derived.Test.YtnelnabeajkpfaaPgQ
namespace Go.Proofs.Ytnelnabeajkpfaa
open Go.RowKit

/-- A row of words where the six fields of a struct without words are stored. -/
theorem SRow.set6 {w : World} {q : Option Addr} {m c b : Nat} {xs : List Int} {y0 y1 y2 y3 y4 y5 : Value} (h : SRow w .u64 q m c xs) (ho : Own6 w b y0 y1 y2 y3 y4 y5)
    (h0 : ∀ x, y0 ≠ .int .u64 x) (h1 : ∀ x, y1 ≠ .int .u64 x) (h2 : ∀ x, y2 ≠ .int .u64 x) (h3 : ∀ x, y3 ≠ .int .u64 x) (h4 : ∀ x, y4 ≠ .int .u64 x) (h5 : ∀ x, y5 ≠ .int .u64 x) (x0 x1 x2 x3 x4 x5 : Value) :
    SRow ((((((w.setCell ⟨b, 0, none⟩ x0).setCell ⟨b, 1, none⟩ x1).setCell ⟨b, 2, none⟩ x2).setCell ⟨b, 3, none⟩ x3).setCell ⟨b, 4, none⟩ x4).setCell ⟨b, 5, none⟩ x5) .u64 q m c xs := by
  refine ⟨h.len, h.le, h.max, fun i x hx => ?_⟩
  obtain ⟨g, off, hp, hcell⟩ := h.row i x hx
  refine ⟨g, off, hp, ?_⟩
  have hne : ∀ (j : Nat) (y : Value), w.cell? ⟨b, j, none⟩ = some y → (∀ x, y ≠ .int .u64 x) → (⟨b, j, none⟩ : Addr) ≠ ⟨g, off + i, none⟩ := fun j y hc hy e => by rw [← e, hc] at hcell; exact hy x (Option.some.inj hcell)
  rw [World.cell?_setCell_other _ _ _ _ (hne 5 _ ho.c5 h5), World.cell?_setCell_other _ _ _ _ (hne 4 _ ho.c4 h4), World.cell?_setCell_other _ _ _ _ (hne 3 _ ho.c3 h3), World.cell?_setCell_other _ _ _ _ (hne 2 _ ho.c2 h2), World.cell?_setCell_other _ _ _ _ (hne 1 _ ho.c1 h1), World.cell?_setCell_other _ _ _ _ (hne 0 _ ho.c0 h0)]
  exact hcell

set_option maxHeartbeats 1600000 in
theorem pnew_ok (pw np : Int) (w : World) (hv : confB pw np = true) :
    Calls Try.prog 20 #[.agg #[.int .i64 pw, .int .i64 np]] w fun e w' => RetH (newHV pw np) (newHE pw np) e w' ∧ Below w.heap.size w w' := by
  obtain ⟨e1, e2⟩ := newH_ok hv
  have E1 := Lib.hid e1
  have E2 := Lib.hid e2
  have hc := Lib.hid (fun w => valid_is hv w)
  obtain ⟨g1, g2⟩ := conf_prod hv
  obtain ⟨k1, k2, -, k4, k5⟩ := conf_parts hv
  have hs := Lib.hid (fun w => size_any pw np w (by omega) g2)
  obtain ⟨A, hA⟩ := Int.eq_ofNat_of_zero_le (show 0 ≤ np * pw by omega)
  obtain ⟨B, hB⟩ := Int.eq_ofNat_of_zero_le (show 0 ≤ np by omega)
  rw [hA] at hs
  have hA4 : A ≤ 4096 := by omega
  have hn := Lib.hid (fun w => new_any (A : Int) w)
  rw [(new_ok hA4).1, (new_ok hA4).2] at hn
  have hm2 := fun w => run_pages B (by omega) w
  rw [← hB] at hm2
  have HA := Lib.hid hA
  have HB := Lib.hid hB
  have hB5 : B ≤ 100000 := by omega
  clear hv e1 e2 hA hB
  have Ho := Lib.hid (Own6.new (w.alloc (.cells #[.int .i64 pw, .int .i64 np] 23)) (.int .i64 0) (.int .i64 0) (.slice none 0 0) (.slice none 0 0) (.int .i64 0) (.int .i64 0) 39)
  go_enter Try.func20, Try.ntmps20
  go_wp2_with fail
  refine (hc.out _).mono ?_
  rintro e w1 ⟨rfl, hb1⟩
  have hw1 := below_boxed hb1
  have c0 := box_cell (w := w) (cs := #[.int .i64 pw, .int .i64 np]) (T := 23) hw1 0 (v := .int .i64 pw) rfl
  have c1 := box_cell (w := w) (cs := #[.int .i64 pw, .int .i64 np]) (T := 23) hw1 1 (v := .int .i64 np) rfl
  have Ho1 := Ho.out.keep hb1
  simp only [World.size_alloc] at Ho1
  have hwB := below_boxed hw1
  clear hc Ho hb1 hw1
  go_wp2_with fail
  refine (hs.out _).mono ?_
  rintro e w2 ⟨rfl, hb2⟩
  have c0 := cell_keep hb2 c0
  have c1 := cell_keep hb2 c1
  have Ho1 := Ho1.keep hb2
  have hwB := bthen hwB hb2
  clear hb2 hs
  go_wp2_with fail
  refine (hn.out _).mono ?_
  rintro e w3 ⟨⟨q, m, c, rfl, hq⟩, hb3⟩
  have c0 := cell_keep hb3 c0
  have c1 := cell_keep hb3 c1
  have Ho1 := Ho1.keep hb3
  have hwB := bthen hwB hb3
  have HO := Lib.hid Ho1
  have Hq := Lib.hid hq
  obtain ⟨d0, d1, d2, d3, d4, d5, f0, f1, f2, f3, f4, f5⟩ := Ho1
  have lb : w.heap.size < w3.heap.size := cell_lt c0
  have lb1 := cell_lt d0
  simp only [] at lb1
  have lne : w.heap.size ≠ w3.heap.size := Nat.ne_of_lt lb
  have lne1 : w.heap.size + 1 ≠ w3.heap.size := Nat.ne_of_lt lb1
  have hmB : B ≤ maxLen := by unfold maxLen; omega
  clear hb3 hn hq
  go_wp2
  go_region
  all_goals
    go_wp2
    generalize hW : (World.alloc _ _).drew = W
    obtain ⟨r0, r1, r2, r3, r4, r5, -, -, -, -, -, -⟩ := (HO.out.set (.int .i64 pw) (.int .i64 np) (.slice q m c) (.slice (some ⟨w3.heap.size, 0, none⟩) B B) (.int .i64 0) (.int .i64 (-1))).keep (w' := W) (by rw [← hW]; exact (below_box.drew))
    refine bodyPost_ret (v := .tuple #[.agg #[.int .i64 pw, .int .i64 np, .slice q m c, .slice (some ⟨w3.heap.size, 0, none⟩) B B, .int .i64 0, .int .i64 (-1)], .int .i64 0]) (by simp [results, Try.results20, go_sem, r0, r1, r2, r3, r4, r5]) rfl ?_
    rw [← hW]
    rw [E1.out, E2.out, HA.out, HB.out]
    refine ⟨⟨_, rfl, _, _, _, _, _, _, rfl, ?_, ?_, WB.zeros _⟩, ?_⟩
    · rw [Int.toNat_natCast]
      exact (Hq.out.set6 HO.out (by simp) (by simp) (by simp) (by simp) (by simp) (by simp) _ _ _ _ _ _).keep (below_box.drew)
    · exact PRow.keep (made_pages' _ _ B _ (by simp) hmB) (Below.drew (Below.refl _ _))
    · exact ((below_set6 hwB (Nat.le_succ _)).alloc (by simp; omega) _).drew

set_option maxHeartbeats 800000 in
theorem pnew_no (pw np : Int) (w : World) (hv : confB pw np = false) :
    Calls Try.prog 20 #[.agg #[.int .i64 pw, .int .i64 np]] w fun e w' => RetH (newHV pw np) (newHE pw np) e w' ∧ Below w.heap.size w w' := by
  obtain ⟨e1, e2⟩ := newH_no hv
  have E1 := Lib.hid e1
  have E2 := Lib.hid e2
  have hc := Lib.hid (fun w => valid_is hv w)
  clear hv e1 e2
  have Ho := Lib.hid (Own6.new (w.alloc (.cells #[.int .i64 pw, .int .i64 np] 23)) (.int .i64 0) (.int .i64 0) (.slice none 0 0) (.slice none 0 0) (.int .i64 0) (.int .i64 0) 39)
  go_enter Try.func20, Try.ntmps20
  go_wp2_with fail
  refine (hc.out _).mono ?_
  rintro e w1 ⟨rfl, hb1⟩
  have hw1 := below_boxed hb1
  obtain ⟨d0, d1, d2, d3, d4, d5, f0, f1, f2, f3, f4, f5⟩ := Ho.out.keep hb1
  simp only [World.size_alloc] at d0 d1 d2 d3 d4 d5 f0 f1 f2 f3 f4 f5
  have hwB := below_boxed hw1
  clear hc Ho hb1 hw1
  go_wp2
  refine bodyPost_ret (v := .tuple #[.agg #[.int .i64 0, .int .i64 0, .slice none 0 0, .slice none 0 0, .int .i64 0, .int .i64 0], .int .i64 1]) (by simp [results, Try.results20, go_sem, d0, d1, d2, d3, d4, d5]) rfl ?_
  rw [E1.out, E2.out]
  exact ⟨⟨_, rfl, HV.zero _⟩, below_set6 hwB (Nat.le_succ _)⟩
theorem pnew_any (pw np : Int) (w : World) :
    Calls Try.prog 20 #[.agg #[.int .i64 pw, .int .i64 np]] w fun e w' => RetH (newHV pw np) (newHE pw np) e w' ∧ Below w.heap.size w w' := by
  cases hv : confB pw np
  · exact pnew_no pw np w hv
  · exact pnew_ok pw np w hv
end Go.Proofs.Ytnelnabeajkpfaa
