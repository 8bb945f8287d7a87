/- Contract of the reference's open of layer 14, and of its Enter and Push. -/
import Derived.Test.YtjnpmfkkagchjaaScRo
import Derived.Test.YtjnpmfkkagchjaaScO
set_option linter.unusedVariables false
set_option linter.unusedSimpArgs false
namespace Go.Proofs.Ytjnpmfkkagchjaa
open Go.RowKit

set_option maxRecDepth 100000 in
set_option maxHeartbeats 3200000 in
theorem refOpen_any (pa : Option Addr) (na ca : Nat) (pb : Option Addr) (nb cb : Nat) (pc : Option Addr) (nc cc : Nat) (l : Loc) (c : Int) (base : Bool) (w : World) (hr : LRow w pa na ca pb nb cb pc nc cc l) :
    Calls Try.prog 40 #[.agg #[.slice pa na ca, .slice pb nb cb, .slice pc nc cc], .int .i64 c, .bool base] w fun e w' => RetL (openL l c base) (openE l c base) e w' ∧ Below w.heap.size w w' := by
  have Hl := Lib.hid hr.lens
  obtain ⟨h63a, h63b, h63c⟩ := hr.i63
  have Hr := Lib.hid (fun w' (h : Below w.heap.size w w') => hr.keep h)
  have hv := Lib.hid (fun w h => refVal_any pa na ca pb nb cb pc nc cc l w h)
  cases ho : okB l
  · have E : openE l c base = 1 := by unfold openE; rw [if_pos (Or.inl ho)]
    rw [openL_no E (by decide), E]
    rw [ho] at hv
    clear E ho hr
    go_enter Try.func40, Try.ntmps40
    go_wp2_with (((go_at_call 12; refine (hv.out _ (Hr.out _ (bthen below_box below_box))).mono ?_); rintro e w2 ⟨rfl, hb2⟩; (obtain ⟨hX, hY, hB2, hs2⟩ := start2 hb2); have HX := Lib.hid hX; have HY := Lib.hid hY; have HB := Lib.hid hB2; (obtain ⟨x0, x1, x2⟩ := own3c hX); (obtain ⟨y0, y1, y2, z0, z1, z2⟩ := own6 hY); clear hX hY hB2 hb2))
    exact bodyPost_ret (v := .tuple #[.agg #[.slice none 0 0, .slice none 0 0, .slice none 0 0], .int .i64 1]) (by simp [results, Try.results40, go_sem, y0, y1, y2]) rfl ⟨RetL.zero _ _, ((HB.out.setCell (by simp) _).setCell (by simp) _).setCell (by simp) _⟩
  · rw [ho] at hv
    by_cases hc1 : c < 0
    · have E : openE l c base = 1 := by unfold openE; rw [if_pos (Or.inr (Bool.eq_false_iff.2 fun h => by have := capB_iff.1 h; omega))]
      rw [openL_no E (by decide), E]
      clear E ho hr
      go_enter Try.func40, Try.ntmps40
      go_wp2_with (((go_at_call 12; refine (hv.out _ (Hr.out _ (bthen below_box below_box))).mono ?_); rintro e w2 ⟨rfl, hb2⟩; (obtain ⟨hX, hY, hB2, hs2⟩ := start2 hb2); have HX := Lib.hid hX; have HY := Lib.hid hY; have HB := Lib.hid hB2; (obtain ⟨x0, x1, x2⟩ := own3c hX); (obtain ⟨y0, y1, y2, z0, z1, z2⟩ := own6 hY); clear hX hY hB2 hb2))
      exact bodyPost_ret (v := .tuple #[.agg #[.slice none 0 0, .slice none 0 0, .slice none 0 0], .int .i64 1]) (by simp [results, Try.results40, go_sem, y0, y1, y2]) rfl ⟨RetL.zero _ _, ((HB.out.setCell (by simp) _).setCell (by simp) _).setCell (by simp) _⟩
    by_cases hc2 : 64 < c
    · have E : openE l c base = 1 := by unfold openE; rw [if_pos (Or.inr (Bool.eq_false_iff.2 fun h => by have := capB_iff.1 h; omega))]
      rw [openL_no E (by decide), E]
      clear E ho hr
      go_enter Try.func40, Try.ntmps40
      go_wp2_with (((go_at_call 12; refine (hv.out _ (Hr.out _ (bthen below_box below_box))).mono ?_); rintro e w2 ⟨rfl, hb2⟩; (obtain ⟨hX, hY, hB2, hs2⟩ := start2 hb2); have HX := Lib.hid hX; have HY := Lib.hid hY; have HB := Lib.hid hB2; (obtain ⟨x0, x1, x2⟩ := own3c hX); (obtain ⟨y0, y1, y2, z0, z1, z2⟩ := own6 hY); clear hX hY hB2 hb2))
      exact bodyPost_ret (v := .tuple #[.agg #[.slice none 0 0, .slice none 0 0, .slice none 0 0], .int .i64 1]) (by simp [results, Try.results40, go_sem, y0, y1, y2]) rfl ⟨RetL.zero _ _, ((HB.out.setCell (by simp) _).setCell (by simp) _).setCell (by simp) _⟩
    have hcf : capB c = true := capB_iff.2 (by omega)
    have hn1 : ¬ (okB l = false ∨ capB c = false) := by rw [ho, hcf]; decide
    by_cases h2 : base = false ∧ nb = 0
    · obtain ⟨rfl, h2⟩ := h2
      have E : openE l c false = 9 := by unfold openE; rw [if_neg hn1, if_pos ⟨rfl, by rw [Hl.out.2.1]; exact h2⟩]
      rw [openL_no E (by decide), E]
      have hz : ((nb : Int) == 0) = true := beq_iff_eq.2 (by omega)
      clear E ho hcf hn1 h2 hr
      go_enter Try.func40, Try.ntmps40
      go_wp2_with (((go_at_call 12; refine (hv.out _ (Hr.out _ (bthen below_box below_box))).mono ?_); rintro e w2 ⟨rfl, hb2⟩; (obtain ⟨hX, hY, hB2, hs2⟩ := start2 hb2); have HX := Lib.hid hX; have HY := Lib.hid hY; have HB := Lib.hid hB2; (obtain ⟨x0, x1, x2⟩ := own3c hX); (obtain ⟨y0, y1, y2, z0, z1, z2⟩ := own6 hY); clear hX hY hB2 hb2))
      exact bodyPost_ret (v := .tuple #[.agg #[.slice none 0 0, .slice none 0 0, .slice none 0 0], .int .i64 9]) (by simp [results, Try.results40, go_sem, y0, y1, y2]) rfl ⟨RetL.zero _ _, ((HB.out.setCell (by simp) _).setCell (by simp) _).setCell (by simp) _⟩
    · have hz : base = true ∨ base = false ∧ ((nb : Int) == 0) = false := by
        cases base
        · exact .inr ⟨rfl, beq_eq_false_iff_ne.2 (fun e => h2 ⟨rfl, by omega⟩)⟩
        · exact .inl rfl
      have hn2 : ¬ (base = false ∧ l.sc.length = 0) := by rw [Hl.out.2.1]; exact h2
      by_cases h3 : nb = 64
      · have E : openE l c base = 17 := by unfold openE; rw [if_neg hn1, if_neg hn2, if_pos (by rw [Hl.out.2.1]; exact h3)]
        rw [openL_no E (by decide), E]
        have h64 : ((nb : Int) == 64) = true := beq_iff_eq.2 (by omega)
        clear E ho hcf hn1 hn2 h2 h3 hr
        rcases hz with rfl | ⟨rfl, hz⟩
        all_goals
          go_enter Try.func40, Try.ntmps40
          go_wp2_with (((go_at_call 12; refine (hv.out _ (Hr.out _ (bthen below_box below_box))).mono ?_); rintro e w2 ⟨rfl, hb2⟩; (obtain ⟨hX, hY, hB2, hs2⟩ := start2 hb2); have HX := Lib.hid hX; have HY := Lib.hid hY; have HB := Lib.hid hB2; (obtain ⟨x0, x1, x2⟩ := own3c hX); (obtain ⟨y0, y1, y2, z0, z1, z2⟩ := own6 hY); clear hX hY hB2 hb2))
          exact bodyPost_ret (v := .tuple #[.agg #[.slice none 0 0, .slice none 0 0, .slice none 0 0], .int .i64 17]) (by simp [results, Try.results40, go_sem, y0, y1, y2]) rfl ⟨RetL.zero _ _, ((HB.out.setCell (by simp) _).setCell (by simp) _).setCell (by simp) _⟩
      · have E : openE l c base = 0 := by unfold openE; rw [if_neg hn1, if_neg hn2, if_neg (by rw [Hl.out.2.1]; exact h3)]
        have EL : openL l c base = ⟨l.sl, l.sc ++ [⟨l.sl.length, c, base⟩], l.is⟩ := by unfold openL; rw [if_pos E]
        rw [EL, E]
        exact refOpen_yes pa na ca pb nb cb pc nc cc l c base w hr ho (by omega) (by omega) (fun hb h0 => h2 ⟨hb, h0⟩) h3

set_option maxRecDepth 100000 in
set_option maxHeartbeats 1600000 in
theorem refEnter_any (pa : Option Addr) (na ca : Nat) (pb : Option Addr) (nb cb : Nat) (pc : Option Addr) (nc cc : Nat) (l : Loc) (c : Int) (w : World) (hr : LRow w pa na ca pb nb cb pc nc cc l) :
    Calls Try.prog 17 #[.agg #[.slice pa na ca, .slice pb nb cb, .slice pc nc cc], .int .i64 c] w fun e w' => RetL (openL l c true) (openE l c true) e w' ∧ Below w.heap.size w w' := by
  have Hr := Lib.hid (fun w' (h : Below w.heap.size w w') => hr.keep h)
  have ho := Lib.hid (fun w h => refOpen_any pa na ca pb nb cb pc nc cc l c true w h)
  clear hr
  obtain ⟨E, hE⟩ : ∃ E, openE l c true = E := ⟨_, rfl⟩
  obtain ⟨L, hL⟩ : ∃ L, openL l c true = L := ⟨_, rfl⟩
  rw [hE, hL] at ho ⊢
  clear hE hL
  go_enter Try.func17, Try.ntmps17
  go_wp2_with (((go_at_call 40; refine (ho.out _ (Hr.out _ (bthen below_box below_box))).mono ?_); rintro e w2 ⟨⟨qa, ma, da, qb, mb, db, qc, mc, dc, rfl, hrow⟩, hb2⟩; (obtain ⟨hX, hY, hB2, hs2⟩ := start2 hb2); have HB := Lib.hid hB2; have HR := Lib.hid (hrow.set3 hY (.slice qa ma da) (.slice qb mb db) (.slice qc mc dc)); (obtain ⟨y0, y1, y2, z0, z1, z2⟩ := own6 hY); clear hX hY hB2 hb2 hrow))
  exact bodyPost_ret (v := .tuple #[.agg #[.slice qa ma da, .slice qb mb db, .slice qc mc dc], .int .i64 E]) (by simp [results, Try.results17, go_sem, y0, y1, y2]) rfl ⟨⟨qa, ma, da, qb, mb, db, qc, mc, dc, rfl, HR.out⟩, set3_below HB.out (by omega)⟩

set_option maxRecDepth 100000 in
set_option maxHeartbeats 1600000 in
theorem refPush_any (pa : Option Addr) (na ca : Nat) (pb : Option Addr) (nb cb : Nat) (pc : Option Addr) (nc cc : Nat) (l : Loc) (c : Int) (w : World) (hr : LRow w pa na ca pb nb cb pc nc cc l) :
    Calls Try.prog 19 #[.agg #[.slice pa na ca, .slice pb nb cb, .slice pc nc cc], .int .i64 c] w fun e w' => RetL (openL l c false) (openE l c false) e w' ∧ Below w.heap.size w w' := by
  have Hr := Lib.hid (fun w' (h : Below w.heap.size w w') => hr.keep h)
  have ho := Lib.hid (fun w h => refOpen_any pa na ca pb nb cb pc nc cc l c false w h)
  clear hr
  obtain ⟨E, hE⟩ : ∃ E, openE l c false = E := ⟨_, rfl⟩
  obtain ⟨L, hL⟩ : ∃ L, openL l c false = L := ⟨_, rfl⟩
  rw [hE, hL] at ho ⊢
  clear hE hL
  go_enter Try.func19, Try.ntmps19
  go_wp2_with (((go_at_call 40; refine (ho.out _ (Hr.out _ (bthen below_box below_box))).mono ?_); rintro e w2 ⟨⟨qa, ma, da, qb, mb, db, qc, mc, dc, rfl, hrow⟩, hb2⟩; (obtain ⟨hX, hY, hB2, hs2⟩ := start2 hb2); have HB := Lib.hid hB2; have HR := Lib.hid (hrow.set3 hY (.slice qa ma da) (.slice qb mb db) (.slice qc mc dc)); (obtain ⟨y0, y1, y2, z0, z1, z2⟩ := own6 hY); clear hX hY hB2 hb2 hrow))
  exact bodyPost_ret (v := .tuple #[.agg #[.slice qa ma da, .slice qb mb db, .slice qc mc dc], .int .i64 E]) (by simp [results, Try.results19, go_sem, y0, y1, y2]) rfl ⟨⟨qa, ma, da, qb, mb, db, qc, mc, dc, rfl, HR.out⟩, set3_below HB.out (by omega)⟩
end Go.Proofs.Ytjnpmfkkagchjaa
