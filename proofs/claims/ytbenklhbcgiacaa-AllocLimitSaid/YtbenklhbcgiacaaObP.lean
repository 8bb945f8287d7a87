/- Contracts of package object: write, Init. -/
import Derived.Test.YtbenklhbcgiacaaTkA
import Derived.Test.YtbenklhbcgiacaaPgR
import Derived.Test.YtbenklhbcgiacaaPgW
import Derived.Test.YtbenklhbcgiacaaOwn
import Derived.Test.YtbenklhbcgiacaaArenaQ
import Derived.Test.YtbenklhbcgiacaaHeadQ
set_option linter.unusedSimpArgs false
set_option linter.unusedVariables false
namespace Go.Proofs.Ytbenklhbcgiacaa
open Go.RowKit

theorem Own6.ofL {w : World} {b : Nat} {x0 x1 x2 x3 x4 x5 : Value} (h : OwnL w b [x0, x1, x2, x3, x4, x5]) : Own6 w b x0 x1 x2 x3 x4 x5 :=
  ⟨h.cell 0 _ rfl, h.cell 1 _ rfl, h.cell 2 _ rfl, h.cell 3 _ rfl, h.cell 4 _ rfl, h.cell 5 _ rfl, h.free 0, h.free 1, h.free 2, h.free 3, h.free 4, h.free 5⟩
theorem own_set6 {w : World} {B e s g n c : Nat} {xs : List Value} (h : w.ownsRow B e s (.slice (some ⟨g, 0, none⟩) n c) n xs) (b : Nat) (hne : g ≠ b) (x0 x1 x2 x3 x4 x5 : Value) :
    ((((((w.setCell ⟨b, 0, none⟩ x0).setCell ⟨b, 1, none⟩ x1).setCell ⟨b, 2, none⟩ x2).setCell ⟨b, 3, none⟩ x3).setCell ⟨b, 4, none⟩ x4).setCell ⟨b, 5, none⟩ x5).ownsRow B e s (.slice (some ⟨g, 0, none⟩) n c) n xs :=
  own_other (own_other (own_other (own_other (own_other (own_other h _ x0 hne) _ x1 hne) _ x2 hne) _ x3 hne) _ x4 hne) _ x5 hne
theorem prow_own {w : World} {B g n c : Nat} {ps : List Pg} (h : w.ownsRow B 55 4 (.slice (some ⟨g, 0, none⟩) n c) n (pvals ps)) : PRow w (some ⟨g, 0, none⟩) n c ps := by
  obtain ⟨q6, d6, hv6, hrow6⟩ := PRow.of_own h
  obtain ⟨rfl, rfl⟩ : q6 = some ⟨g, 0, none⟩ ∧ d6 = c := by
    injection hv6 with a1 a2 a3
    exact ⟨a1.symm, a3.symm⟩
  exact hrow6

/-- A call returned a heap with these rows, or the zero heap and an error. -/
def RetWr (B : Nat) (pw np sp bp : Int) (ws : List Int) (ps : List Pg) (E : Int) (e : Ending) (w' : World) : Prop :=
  (E = 0 ∧ ∃ p n c q m d, e = .returned (.tuple #[.agg #[.int .i64 pw, .int .i64 np, .slice p n c, .slice q m d, .int .i64 sp, .int .i64 bp], .int .i64 0]) ∧ SRow w' .u64 p n c ws ∧ w'.ownsRow B 55 4 (.slice q m d) m (pvals ps)) ∨
  (¬ E = 0 ∧ e = .returned (.tuple #[.agg #[.int .i64 0, .int .i64 0, .slice none 0 0, .slice none 0 0, .int .i64 0, .int .i64 0], .int .i64 E]))

set_option maxRecDepth 100000 in
set_option maxHeartbeats 3200000 in
theorem write_run (pw np sp bp a : Int) (p q lp : Option Addr) (n c m d ln lc : Nat) (ws l : List Int) (ps : List Pg) (w : World) (hs : SRow w .u64 p n c ws) (hr : PRow w q m d ps) (hl : SRow w .u64 lp ln lc l) (hn : n ≤ 100000) (hm : 1 ≤ m ∧ m ≤ 100000) (ha : 0 ≤ a) (ha2 : a < 18446744073709551616) :
    Calls Try.prog 34 #[.agg #[.int .i64 pw, .int .i64 np, .slice p n c, .slice q m d, .int .i64 sp, .int .i64 bp], .int .u64 a, .slice lp ln lc] w
      fun e w' => RetWr w.heap.size pw np sp bp (writeV ws a l) ps (writeE ws a l) e w' ∧ Below w.heap.size w w' := by
  obtain ⟨_, b2, off, _, rfl, _⟩ := hr.at_ (k := 0) (by omega)
  have hb0 : Below w.heap.size w ((w.alloc (.cells #[.int .i64 pw, .int .i64 np, .slice p n c, .slice (some ⟨b2, off, none⟩) m d, .int .i64 sp, .int .i64 bp] 32)).alloc (.cells #[.int .i64 0, .int .i64 0, .slice none 0 0, .slice none 0 0, .int .i64 0, .int .i64 0] 32)) := bthen below_box below_box
  have hwr := Lib.hid (fun w' (hb : Below w.heap.size w w') => write_any p lp n c ln lc ws l a w' (hs.keep hb) (hl.keep hb) hn ha ha2)
  have hcl := Lib.hid (fun w' (hb : Below w.heap.size w w') => clone_any b2 off m d ps w' (hr.keep hb) hm.2 hm.1)
  have Hx := Lib.hid ((OwnL.new w [.int .i64 pw, .int .i64 np, .slice p n c, .slice (some ⟨b2, off, none⟩) m d, .int .i64 sp, .int .i64 bp] 32).keep (below_box (o := .cells #[.int .i64 0, .int .i64 0, .slice none 0 0, .slice none 0 0, .int .i64 0, .int .i64 0] 32)) (by simp))
  have Ho := Lib.hid (OwnL.new (w.alloc (.cells #[.int .i64 pw, .int .i64 np, .slice p n c, .slice (some ⟨b2, off, none⟩) m d, .int .i64 sp, .int .i64 bp] 32)) [.int .i64 0, .int .i64 0, .slice none 0 0, .slice none 0 0, .int .i64 0, .int .i64 0] 32)
  have HB := Lib.hid hb0
  obtain ⟨E, hE⟩ : ∃ E, Hid (writeE ws a l = E) := ⟨_, rfl⟩
  obtain ⟨V, hV⟩ : ∃ V, Hid (writeV ws a l = V) := ⟨_, rfl⟩
  rw [hE.out, hV.out] at hwr ⊢
  have y1 := cell_keep (w' := ((w.alloc (.cells #[.int .i64 pw, .int .i64 np, .slice p n c, .slice (some ⟨b2, off, none⟩) m d, .int .i64 sp, .int .i64 bp] 32)).alloc (.cells #[.int .i64 0, .int .i64 0, .slice none 0 0, .slice none 0 0, .int .i64 0, .int .i64 0] 32))) (Below.refl _ _) (Hx.out.cell 2 _ rfl)
  clear hs hr hl hb0
  go_enter Try.func34, Try.ntmps34
  go_wp2_with fail
  refine (hwr.out _ HB.out).mono ?_
  rintro e w1 ⟨⟨p', n', c', rfl, hrow⟩, hb1⟩
  have hw1 := Lib.hid (bthen HB.out hb1)
  have Ho1 := Lib.hid (Ho.out.keep hb1 (by simp))
  have Hx1 := Lib.hid (Hx.out.keep hb1 (by simp; omega))
  have hsz : w.heap.size + 1 + 1 ≤ w1.heap.size := by have := hb1.size; simpa using this
  have Hrow := Lib.hid hrow
  simp only [World.size_alloc] at Ho1
  clear hwr Ho Hx HB hb1 y1 hrow
  by_cases h0 : E = 0
  · subst h0
    have x0 := Hx1.out.cell 0 _ rfl
    have x3 := Hx1.out.cell 3 _ rfl
    go_wp2_with fail
    refine (hcl.out _ hw1.out).mono ?_
    rintro e w2 ⟨⟨g, cc, rfl, hg, hown⟩, hb2⟩
    have hw2 := Lib.hid (bthen hw1.out hb2)
    have Ho2 := Lib.hid (Ho1.out.keep hb2 (by omega))
    have Hx2 := Hx1.out.keep hb2 (by omega)
    have Hrow2 := Lib.hid (Hrow.out.keep hb2)
    have Hown := Lib.hid hown
    have hg2 : w.heap.size + 1 + 1 ≤ g := by omega
    have x0 := Hx2.cell 0 _ rfl
    have x1 := Hx2.cell 1 _ rfl
    have x2 := Hx2.cell 2 _ rfl
    have x3 := Hx2.cell 3 _ rfl
    have x4 := Hx2.cell 4 _ rfl
    have x5 := Hx2.cell 5 _ rfl
    have f2 := Hx2.free 2
    have f3 := Hx2.free 3
    have x3' := (Hx2.set 2 (.slice p' n' c') (by simp)).cell 3 _ rfl
    have hown3 := Lib.hid (own_mono (own_set6 (own_other (own_other Hown.out ⟨w.heap.size, 2, none⟩ (.slice p' n' c') (by simp only; omega)) ⟨w.heap.size, 3, none⟩ (.slice (some ⟨g, 0, none⟩) m cc) (by simp only; omega)) (w.heap.size + 1) (by omega) (.int .i64 pw) (.int .i64 np) (.slice p' n' c') (.slice (some ⟨g, 0, none⟩) m cc) (.int .i64 sp) (.int .i64 bp)) hw1.out.size)
    have key := Lib.hid (SRow.set6o ((Hrow2.out.setOther ⟨w.heap.size, 2, none⟩ _ (.slice p' n' c') x2 (fun x e => by cases e)).setOther ⟨w.heap.size, 3, none⟩ _ (.slice (some ⟨g, 0, none⟩) m cc) x3' (fun x e => by cases e)) (Own6.ofL ((Ho2.out.other ⟨w.heap.size, 2, none⟩ (.slice p' n' c') (by simp only; omega)).other ⟨w.heap.size, 3, none⟩ (.slice (some ⟨g, 0, none⟩) m cc) (by simp only; omega))) (fun x e => by cases e) (fun x e => by cases e) (fun x e => by cases e) (fun x e => by cases e) (fun x e => by cases e) (fun x e => by cases e) (.int .i64 pw) (.int .i64 np) (.slice p' n' c') (.slice (some ⟨g, 0, none⟩) m cc) (.int .i64 sp) (.int .i64 bp))
    obtain ⟨d0, d1, d2, d3, d4, d5, e0, e1, e2, e3, e4, e5⟩ := Own6.ofL Ho2.out
    clear hcl hb2 hown hw1 Ho1 Hx1 Hrow Hx2 hg x3'
    go_wp2
    exact bodyPost_ret (v := .tuple #[.agg #[.int .i64 pw, .int .i64 np, .slice p' n' c', .slice (some ⟨g, 0, none⟩) m cc, .int .i64 sp, .int .i64 bp], .int .i64 0]) (by simp [results, Try.results34, go_sem, d0, d1, d2, d3, d4, d5]) rfl ⟨Or.inl ⟨rfl, p', n', c', _, m, cc, rfl, key.out, hown3.out⟩, below_set6 ((hw2.out.setCell (Nat.le_refl _) _).setCell (Nat.le_refl _) _) (by omega)⟩
  · have hne2 : (E != 0) = true := bne_iff_ne.2 h0
    have HNE := Lib.hid h0
    obtain ⟨d0, d1, d2, d3, d4, d5, e0, e1, e2, e3, e4, e5⟩ := Own6.ofL Ho1.out
    clear h0 hcl
    go_wp2
    exact bodyPost_ret (v := .tuple #[.agg #[.int .i64 0, .int .i64 0, .slice none 0 0, .slice none 0 0, .int .i64 0, .int .i64 0], .int .i64 E]) (by simp [results, Try.results34, go_sem, d0, d1, d2, d3, d4, d5]) rfl ⟨Or.inr ⟨HNE.out, rfl⟩, below_set6 hw1.out (by omega)⟩

theorem own_made (w : World) (T : TypeId) (n : Nat) (hn : n ≤ maxLen) : (w.alloc (.cells (madeCells #[.int .u64 0] n) T)).ownsRow w.heap.size T 1 (.slice (some ⟨w.heap.size, 0, none⟩) n n) n (ivals .u64 (List.replicate n 0)) := by
  have h2 : (madeCells #[.int .u64 0] n).toList = ivals .u64 (List.replicate n 0) := made_zeros _ _
  have h3 : (madeCells #[.int .u64 0] n).size = n := by rw [← Array.length_toList, h2, ivals_len, List.length_replicate]
  refine ⟨by rw [ivals_len, List.length_replicate]; omega, .inr ⟨w.heap.size, n, _, rfl, Nat.le_refl _, heap_alloc_new w _, Nat.le_refl _, hn, by rw [h3]; omega, ?_⟩⟩
  rw [h2]
  exact List.take_of_length_le (by rw [ivals_len, List.length_replicate]; omega)
theorem head_row {w : World} {B g L c : Nat} {e : TypeId} {V : Int} (h : w.ownsRow B e 1 (.slice (some ⟨g, 0, none⟩) (L + 1) c) (L + 1) ((ivals .u64 (List.replicate (L + 1) 0)).set 0 (.int .u64 V))) : SRow w .u64 (some ⟨g, 0, none⟩) (L + 1) c (V :: List.replicate L 0) := by
  rw [show (ivals .u64 (List.replicate (L + 1) 0)).set 0 (.int .u64 V) = ivals .u64 (V :: List.replicate L 0) from by rw [List.replicate_succ]; simp [ivals]] at h
  obtain ⟨p, c', he, hs⟩ := SRow.of_own (kd := .u64) (xs := V :: List.replicate L 0) h
  injection he with e1 _ e3
  subst e1 e3
  exact hs

set_option maxRecDepth 100000 in
set_option maxHeartbeats 3200000 in
theorem pinit_run (pw np sp bp a : Int) (k L : Nat) (b : Nat) (p q : Option Addr) (n c m d : Nat) (ws : List Int) (ps : List Pg) (w : World) (hs : SRow w .u64 p n c ws) (hr : PRow w q m d ps) (ha : 0 ≤ a) (ha2 : a < 18446744073709551616) (hb2 : (b : Int) < 4294967296) (hv : validB k L b = true) (hp : properP pw np ws.length ps sp bp = true) :
    Calls Try.prog 22 #[.agg #[.int .i64 pw, .int .i64 np, .slice p n c, .slice q m d, .int .i64 sp, .int .i64 bp], .int .u64 a, .agg #[.int .i64 k, .int .i64 L, .int .u32 b]] w
      fun e w' => RetWr w.heap.size pw np sp bp (writeV ws a (wordV k L b :: List.replicate L 0)) ps (writeE ws a (wordV k L b :: List.replicate L 0)) e w' ∧ Below w.heap.size w w' := by
  have hcf : confB pw np = true := by cases hc : confB pw np with
    | true => rfl
    | false => unfold properP at hp; rw [hc] at hp; cases hp
  obtain ⟨hw8, hp8⟩ : (ws.length : Int) = np * pw ∧ (ps.length : Int) = np := by
    unfold properP at hp
    simp only [Bool.and_eq_true, decide_eq_true_eq] at hp
    exact ⟨hp.1.1.1.1.2, hp.1.1.1.2⟩
  have hn : n ≤ 100000 := by have := (conf_prod hcf).2; have := hs.len; omega
  have hm : 1 ≤ m ∧ m ≤ 100000 := by have := conf_parts hcf; have := hr.len; omega
  obtain ⟨-, -, v3, v4, -, -⟩ := valid_parts hv
  have hL : L ≤ 255 := by omega
  have hb0 : Below w.heap.size w (((w.alloc (.cells #[.int .i64 pw, .int .i64 np, .slice p n c, .slice q m d, .int .i64 sp, .int .i64 bp] 32)).alloc (.cells #[.int .i64 k, .int .i64 L, .int .u32 b] 26)).alloc (.cells #[.int .i64 0, .int .i64 0, .slice none 0 0, .slice none 0 0, .int .i64 0, .int .i64 0] 32)) := bthen (bthen below_box below_box) below_box
  have hpr := Lib.hid (fun w' (hb : Below w.heap.size w w') => pproper_any pw np p q n c m d sp bp ws ps w' (hs.keep hb) (hr.keep hb))
  rw [hp] at hpr
  have hen := Lib.hid (fun w => encode_ok k L b w hb2 hv)
  have hsz := Lib.hid (fun w => hsize_any k L b w (by omega) hb2)
  rw [size_ok hv] at hsz
  have hwr := Lib.hid (fun w' g (hb : Below w.heap.size w w') (hl : SRow w' .u64 (some ⟨g, 0, none⟩) (L + 1) (L + 1) (wordV k L b :: List.replicate L 0)) => write_run pw np sp bp a p q (some ⟨g, 0, none⟩) n c m d (L + 1) (L + 1) ws (wordV k L b :: List.replicate L 0) ps w' (hs.keep hb) (hr.keep hb) hl hn hm ha ha2)
  obtain ⟨V, hV⟩ : ∃ V, Hid (wordV k L b = V) := ⟨_, rfl⟩
  rw [hV.out] at hen hwr ⊢
  obtain ⟨E, hE⟩ : ∃ E, Hid (writeE ws a (V :: List.replicate L 0) = E) := ⟨_, rfl⟩
  obtain ⟨Y, hY⟩ : ∃ Y, Hid (writeV ws a (V :: List.replicate L 0) = Y) := ⟨_, rfl⟩
  rw [hE.out, hY.out] at hwr ⊢
  have Hx := Lib.hid ((OwnL.new w [.int .i64 pw, .int .i64 np, .slice p n c, .slice q m d, .int .i64 sp, .int .i64 bp] 32).keep (bthen (below_box (o := .cells #[.int .i64 k, .int .i64 L, .int .u32 b] 26)) (below_box (o := .cells #[.int .i64 0, .int .i64 0, .slice none 0 0, .slice none 0 0, .int .i64 0, .int .i64 0] 32))) (by simp))
  have Hh := Lib.hid ((OwnL.new (w.alloc (.cells #[.int .i64 pw, .int .i64 np, .slice p n c, .slice q m d, .int .i64 sp, .int .i64 bp] 32)) [.int .i64 k, .int .i64 L, .int .u32 b] 26).keep (below_box (o := .cells #[.int .i64 0, .int .i64 0, .slice none 0 0, .slice none 0 0, .int .i64 0, .int .i64 0] 32)) (by simp))
  have Ho := Lib.hid (OwnL.new ((w.alloc (.cells #[.int .i64 pw, .int .i64 np, .slice p n c, .slice q m d, .int .i64 sp, .int .i64 bp] 32)).alloc (.cells #[.int .i64 k, .int .i64 L, .int .u32 b] 26)) [.int .i64 0, .int .i64 0, .slice none 0 0, .slice none 0 0, .int .i64 0, .int .i64 0] 32)
  have HB := Lib.hid hb0
  have hmk := fun w => run_words (L + 1) (by omega) w
  rw [show (((L + 1 : Nat)) : Int) = (L : Int) + 1 from by omega] at hmk
  simp only [World.size_alloc] at Hh Ho
  have Hlen := Lib.hid (show 1 ≤ ps.length by rw [hr.len]; exact hm.1)
  clear hs hr hb0 hp hcf hw8 hp8 v3 v4 hv ha ha2 hb2
  go_enter Try.func22, Try.ntmps22
  go_wp2_with fail
  refine (hpr.out _ HB.out).mono ?_
  rintro e w1 ⟨rfl, hb1⟩
  have hw1 := Lib.hid (bthen HB.out hb1)
  have Ho1 := Lib.hid (Ho.out.keep hb1 (by simp))
  have Hh1 := Lib.hid (Hh.out.keep hb1 (by simp; try omega))
  have Hx1 := Lib.hid (Hx.out.keep hb1 (by simp; try omega))
  have hsz1 : w.heap.size + 1 + 1 + 1 ≤ w1.heap.size := by have := hb1.size; simpa using this
  have z0 := Hh1.out.cell 0 _ rfl
  have z1 := Hh1.out.cell 1 _ rfl
  have z2 := Hh1.out.cell 2 _ rfl
  clear hpr Ho Hh Hx HB hb1
  go_wp2_with fail
  refine (hen.out _).mono ?_
  rintro e w2 ⟨rfl, hb2⟩
  have hw2 := Lib.hid (bthen hw1.out hb2)
  have Ho2 := Lib.hid (Ho1.out.keep hb2 (by omega))
  have Hh2 := Lib.hid (Hh1.out.keep hb2 (by omega))
  have Hx2 := Lib.hid (Hx1.out.keep hb2 (by omega))
  have hsz2 : w.heap.size + 1 + 1 + 1 ≤ w2.heap.size := Nat.le_trans hsz1 hb2.size
  have z0 := Hh2.out.cell 0 _ rfl
  have z1 := Hh2.out.cell 1 _ rfl
  have z2 := Hh2.out.cell 2 _ rfl
  clear hen Ho1 Hh1 Hx1 hb2 hw1 hsz1
  go_wp2_with fail
  refine (hsz.out _).mono ?_
  rintro e w3 ⟨rfl, hb3⟩
  have hw3 := bthen hw2.out hb3
  have Ho3 := Lib.hid (Ho2.out.keep hb3 (by omega))
  have Hx3 := Hx2.out.keep hb3 (by omega)
  have hsz3 : w.heap.size + 1 + 1 + 1 ≤ w3.heap.size := Nat.le_trans hsz2 hb3.size
  have hbm := below_box (w := w3) (o := .cells (madeCells #[.int .u64 0] (L + 1)) 38)
  have hom := own_made w3 38 (L + 1) (by unfold maxLen; omega)
  have m0 := hom.cellAt 0 (by omega)
  have mf := hom.frozenAt 0
  have hst := (hom.stored 0 (.int .u64 V)).1
  rw [show (ivals .u64 (List.replicate (L + 1) 0))[0]? = some (.int .u64 0) from by simp [ivals, List.replicate_succ]] at m0
  have Hrow := Lib.hid (head_row hst)
  have hB4 := Lib.hid (show Below w.heap.size w ((w3.alloc (.cells (madeCells #[.int .u64 0] (L + 1)) 38)).setCell ⟨w3.heap.size, 0, none⟩ (.int .u64 V)) from (bthen hw3 hbm).setCell (show w.heap.size ≤ w3.heap.size by omega) _)
  have Ho4 := Lib.hid ((Ho3.out.keep hbm (by omega)).other ⟨w3.heap.size, 0, none⟩ (.int .u64 V) (by simp only; omega))
  have Hx4 := (Hx3.keep hbm (by omega)).other ⟨w3.heap.size, 0, none⟩ (.int .u64 V) (by simp only; omega)
  have x0 := Hx3.cell 0 _ rfl
  have x1 := Hx3.cell 1 _ rfl
  have x2 := Hx3.cell 2 _ rfl
  have x3 := Hx3.cell 3 _ rfl
  have x4 := Hx3.cell 4 _ rfl
  have x5 := Hx3.cell 5 _ rfl
  have hWW : (w3.alloc (.cells (madeCells #[.int .u64 0] (L + 1)) 38)).setCell ⟨w3.heap.size, 0, none⟩ (.int .u64 V) = w3.alloc (.cells ((madeCells #[.int .u64 0] (L + 1)).setIfInBounds 0 (.int .u64 V)) 38) := World.setCell_alloc_at _ _ _ _ _ rfl
  rw [hWW] at Hrow hB4 Ho4
  have HZ := Lib.hid hsz3
  clear hWW
  have lb : w.heap.size < w3.heap.size := by omega
  have lne : w.heap.size ≠ w3.heap.size := Nat.ne_of_lt lb
  have lne1 : w3.heap.size ≠ w.heap.size := fun h => lne h.symm
  have hLn : (0 : Int) < (L : Int) + 1 := by omega
  clear hsz Ho2 Hh2 Hx2 hb3 hw2 hsz2 hom hst hbm hw3 Hx3 Ho3 Hx4 z0 z1 z2 hsz3
  go_wp2_with fail
  refine (hwr.out _ _ hB4.out Hrow.out).mono ?_
  rintro e w5 ⟨hret, hb5⟩
  have hB5 := Lib.hid (bthen hB4.out hb5)
  have Ho5 := Lib.hid (Ho4.out.keep hb5 (by have := HZ.out; simp; omega))
  obtain ⟨d0, d1, d2, d3, d4, d5, e0, e1, e2, e3, e4, e5⟩ := Own6.ofL Ho5.out
  rcases hret with ⟨rfl, p', n', c', q', m', d', rfl, hrw, hpw⟩ | ⟨h0, rfl⟩
  · have key := Lib.hid (SRow.set6o hrw (Own6.ofL Ho5.out) (fun x e => by cases e) (fun x e => by cases e) (fun x e => by cases e) (fun x e => by cases e) (fun x e => by cases e) (fun x e => by cases e) (.int .i64 pw) (.int .i64 np) (.slice p' n' c') (.slice q' m' d') (.int .i64 sp) (.int .i64 bp))
    have hm0 : 0 < m' := by have := hpw.1; rw [pvals_len] at this; have := Hlen.out; omega
    obtain ⟨g, cc, hgv, hg, hgl⟩ := World.ownsRow.form hpw hm0
    obtain ⟨rfl, rfl⟩ : q' = some ⟨g, 0, none⟩ ∧ d' = cc := by
      injection hgv with a1 a2 a3
      exact ⟨a1, a3⟩
    have hgb : w.heap.size + 1 + 1 + 1 ≤ g := by have := HZ.out; simp at hg; omega
    have hown3 := Lib.hid (own_mono (own_set6 hpw (w.heap.size + 1 + 1) (by omega) (.int .i64 pw) (.int .i64 np) (.slice p' n' c') (.slice (some ⟨g, 0, none⟩) m' d') (.int .i64 sp) (.int .i64 bp)) hB4.out.size)
    clear hb5 hwr hgv hrw hpw hg
    go_wp2
    exact bodyPost_ret (v := .tuple #[.agg #[.int .i64 pw, .int .i64 np, .slice p' n' c', .slice (some ⟨g, 0, none⟩) m' d', .int .i64 sp, .int .i64 bp], .int .i64 0]) (by simp [results, Try.results22, go_sem, d0, d1, d2, d3, d4, d5]) rfl ⟨Or.inl ⟨rfl, p', n', c', _, m', d', rfl, key.out, hown3.out⟩, below_set6 hB5.out (by omega)⟩
  · have HNE := Lib.hid h0
    clear h0 hb5 hwr
    go_wp2
    exact bodyPost_ret (v := .tuple #[.agg #[.int .i64 0, .int .i64 0, .slice none 0 0, .slice none 0 0, .int .i64 0, .int .i64 0], .int .i64 E]) (by simp [results, Try.results22, go_sem, d0, d1, d2, d3, d4, d5]) rfl ⟨Or.inr ⟨HNE.out, rfl⟩, below_set6 hB5.out (by omega)⟩
end Go.Proofs.Ytbenklhbcgiacaa
