/- Contracts of package scope: find, Get, Refs. -/
import Derived.Test.YtapfbnhcndifhaaScE
import Derived.Test.YtapfbnhcndifhaaScG
set_option linter.unusedVariables false
namespace Go.Proofs.Ytapfbnhcndifhaa
open Go.RowKit

/-- The error of a handle. -/
def findV (l : Loc) (i st : Int) : Int :=
  if okB l = false then 1 else if issB l.is i st = false then 6 else
  match l.sl[i.toNat]? with
  | none => 7
  | some s => if s.st = st then (if s.lv then 0 else 8) else 7
def getV (l : Loc) (i st : Int) : Int := if findV l i st = 0 then (match l.sl[i.toNat]? with
  | none => 0
  | some s => s.rf) else 0
theorem findV_a {l : Loc} {i st : Int} (h : okB l = false) : findV l i st = 1 := by unfold findV; rw [if_pos h]
theorem findV_b {l : Loc} {i st : Int} (h : okB l = true) (h2 : issB l.is i st = false) : findV l i st = 6 := by
  unfold findV; rw [if_neg (by rw [h]; decide), if_pos h2]
theorem findV_c {l : Loc} {j : Nat} {st : Int} (h : okB l = true) (h2 : issB l.is j st = true) : findV l j st = match l.sl[j]? with
  | none => 7
  | some s => if s.st = st then (if s.lv then 0 else 8) else 7 := by
  unfold findV; rw [if_neg (by rw [h]; decide), if_neg (by rw [h2]; decide), Int.toNat_natCast]
theorem findV_out {l : Loc} {j : Nat} {st : Int} (h : okB l = true) (h2 : issB l.is j st = true) (hj : l.sl.length ≤ j) : findV l j st = 7 := by
  rw [findV_c h h2, List.getElem?_eq_none hj]
theorem findV_st {l : Loc} {j : Nat} {st : Int} {s : Sl} (h : okB l = true) (h2 : issB l.is j st = true) (hs : l.sl[j]? = some s) (hn : s.st ≠ st) : findV l j st = 7 := by
  rw [findV_c h h2, hs]; simp only; rw [if_neg hn]
theorem findV_dead {l : Loc} {j : Nat} {st : Int} {s : Sl} (h : okB l = true) (h2 : issB l.is j st = true) (hs : l.sl[j]? = some s) (hn : s.st = st) (hl : s.lv = false) : findV l j st = 8 := by
  rw [findV_c h h2, hs]; simp only; rw [if_pos hn, if_neg (by rw [hl]; decide)]
theorem findV_live {l : Loc} {j : Nat} {st : Int} {s : Sl} (h : okB l = true) (h2 : issB l.is j st = true) (hs : l.sl[j]? = some s) (hn : s.st = st) (hl : s.lv = true) : findV l j st = 0 := by
  rw [findV_c h h2, hs]; simp only; rw [if_pos hn, if_pos hl]
/-- A handle whose numbers were issued. -/
theorem iss_nat {l : Loc} {i st : Int} (h : okB l = true) (h2 : issB l.is i st = true) : ∃ j : Nat, i = j ∧ j < 4096 := by
  have h1 := (issAll_iff.1 (okB_iff.1 h).1).2 i (List.mem_of_getElem? (issB_iff.1 h2).2.2)
  exact ⟨i.toNat, by omega, by omega⟩
theorem findV_zero {l : Loc} {i st : Int} (h : findV l i st = 0) : ∃ (j : Nat) (s : Sl), i = j ∧ okB l = true ∧ issB l.is i st = true ∧ l.sl[j]? = some s ∧ s.st = st ∧ s.lv = true := by
  cases h1 : okB l
  · rw [findV_a h1] at h; omega
  · cases h2 : issB l.is i st
    · rw [findV_b h1 h2] at h; omega
    · obtain ⟨j, rfl, _⟩ := iss_nat h1 h2
      rw [findV_c h1 h2] at h
      cases h3 : l.sl[j]? with
      | none => rw [h3] at h; simp at h
      | some s =>
        rw [h3] at h
        simp only at h
        by_cases h4 : s.st = st
        · rw [if_pos h4] at h
          by_cases h5 : s.lv = true
          · exact ⟨j, s, rfl, rfl, rfl, h3, h4, h5⟩
          · rw [if_neg h5] at h; omega
        · rw [if_neg h4] at h; omega
theorem getV_yes {l : Loc} {j : Nat} {st : Int} {s : Sl} (h : findV l j st = 0) (hs : l.sl[j]? = some s) : getV l j st = s.rf := by
  unfold getV; rw [if_pos h, Int.toNat_natCast, hs]
theorem getV_no {l : Loc} {i st : Int} (h : findV l i st ≠ 0) : getV l i st = 0 := by unfold getV; rw [if_neg h]

set_option maxRecDepth 100000 in
set_option maxHeartbeats 1600000 in
theorem find_any (pa : Option Addr) (na ca : Nat) (pb : Option Addr) (nb cb : Nat) (pc : Option Addr) (nc cc : Nat) (l : Loc) (i st : Int) (w : World) (hr : LRow w pa na ca pb nb cb pc nc cc l) :
    Calls Try.prog 40 #[.agg #[.slice pa na ca, .slice pb nb cb, .slice pc nc cc], .int .i64 i, .int .i64 st] w fun e w' => e = .returned (.int .i64 (findV l i st)) ∧ Below w.heap.size w w' := by
  have Hl := Lib.hid hr.lens
  have h63 := hr.i63.1
  have Hr := Lib.hid (fun w' (h : Below w.heap.size w w') => hr.keep h)
  have hv := Lib.hid (fun w h => scValid_any pa na ca pb nb cb pc nc cc l w h)
  have hs := Lib.hid (fun w h => issued_any (.slice pa na ca) (.slice pb nb cb) pc nc cc l.is i st w h)
  clear hr
  cases h1 : okB l
  · have E := Lib.hid (findV_a (i := i) (st := st) h1)
    rw [h1] at hv
    clear h1
    go_enter Try.func40, Try.ntmps40
    go_wp2_with (((go_at_call 35; refine (hv.out _ (Hr.out _ below_box)).mono ?_); rintro e w2 ⟨rfl, hb2⟩))
    go_ret
    exact ⟨ret_int E.out.symm, below_boxed hb2⟩
  · rw [h1] at hv
    cases h2 : issB l.is i st
    · have E := Lib.hid (findV_b h1 h2)
      rw [h2] at hs
      clear h1 h2
      go_enter Try.func40, Try.ntmps40
      go_wp2_with (first
        | ((go_at_call 35; refine (hv.out _ (Hr.out _ below_box)).mono ?_); rintro e w2 ⟨rfl, hb2⟩; have f0 := box_cell hb2 0 rfl; have f1 := box_cell hb2 1 rfl; have f2 := box_cell hb2 2 rfl; have HB := Lib.hid (below_boxed hb2))
        | ((go_at_call 57; refine (hs.out _ (Hr.out _ HB.out).is).mono ?_); rintro e w3 ⟨rfl, hb3⟩))
      go_ret
      exact ⟨ret_int E.out.symm, bthen HB.out hb3⟩
    · rw [h2] at hs
      obtain ⟨j, rfl, _⟩ := iss_nat h1 h2
      by_cases hj : j < na
      · have hj2 : (j : Int) < na := by omega
        obtain ⟨s, b, off, hx, rfl, -, -, -⟩ := slot_at (Hr.out w (Below.refl _ _)).sl hj
        have HC := Lib.hid (fun w' h => slot_at (Hr.out w' h).sl hj)
        have Hx := Lib.hid hx
        have H1 := Lib.hid h1
        have H2 := Lib.hid h2
        clear hx h1 h2
        by_cases h3 : s.st = st
        · cases h4 : s.lv
          · have E := Lib.hid (findV_dead H1.out H2.out Hx.out h3 h4)
            go_enter Try.func40, Try.ntmps40
            go_wp2_with (first
              | ((go_at_call 35; refine (hv.out _ (Hr.out _ below_box)).mono ?_); rintro e w2 ⟨rfl, hb2⟩; have f0 := box_cell hb2 0 rfl; have f1 := box_cell hb2 1 rfl; have f2 := box_cell hb2 2 rfl; have HB := Lib.hid (below_boxed hb2))
              | ((go_at_call 57; refine (hs.out _ (Hr.out _ HB.out).is).mono ?_); rintro e w3 ⟨rfl, hb3⟩; have g0 := cell_keep hb3 f0; have HB3 := Lib.hid (bthen HB.out hb3); (obtain ⟨s', b', off', hx', hp', c0, c1, c2⟩ := HC.out _ HB3.out); (obtain rfl : s = s' := Option.some.inj (Hx.out.symm.trans hx')); cases hp'; clear hx'; rw [h3] at c0; rw [h4] at c2))
            go_ret
            exact ⟨ret_int E.out.symm, HB3.out⟩
          · have E := Lib.hid (findV_live H1.out H2.out Hx.out h3 h4)
            go_enter Try.func40, Try.ntmps40
            go_wp2_with (first
              | ((go_at_call 35; refine (hv.out _ (Hr.out _ below_box)).mono ?_); rintro e w2 ⟨rfl, hb2⟩; have f0 := box_cell hb2 0 rfl; have f1 := box_cell hb2 1 rfl; have f2 := box_cell hb2 2 rfl; have HB := Lib.hid (below_boxed hb2))
              | ((go_at_call 57; refine (hs.out _ (Hr.out _ HB.out).is).mono ?_); rintro e w3 ⟨rfl, hb3⟩; have g0 := cell_keep hb3 f0; have HB3 := Lib.hid (bthen HB.out hb3); (obtain ⟨s', b', off', hx', hp', c0, c1, c2⟩ := HC.out _ HB3.out); (obtain rfl : s = s' := Option.some.inj (Hx.out.symm.trans hx')); cases hp'; clear hx'; rw [h3] at c0; rw [h4] at c2))
            go_ret
            exact ⟨ret_int E.out.symm, HB3.out⟩
        · have E := Lib.hid (findV_st H1.out H2.out Hx.out h3)
          have hne : (s.st != st) = true := bne_iff_ne.2 h3
          clear h3
          go_enter Try.func40, Try.ntmps40
          go_wp2_with (first
            | ((go_at_call 35; refine (hv.out _ (Hr.out _ below_box)).mono ?_); rintro e w2 ⟨rfl, hb2⟩; have f0 := box_cell hb2 0 rfl; have f1 := box_cell hb2 1 rfl; have f2 := box_cell hb2 2 rfl; have HB := Lib.hid (below_boxed hb2))
            | ((go_at_call 57; refine (hs.out _ (Hr.out _ HB.out).is).mono ?_); rintro e w3 ⟨rfl, hb3⟩; have g0 := cell_keep hb3 f0; have HB3 := Lib.hid (bthen HB.out hb3); (obtain ⟨s', b', off', hx', hp', c0, c1, c2⟩ := HC.out _ HB3.out); (obtain rfl : s = s' := Option.some.inj (Hx.out.symm.trans hx')); cases hp'; clear hx'))
          go_ret
          exact ⟨ret_int E.out.symm, HB3.out⟩
      · have E := Lib.hid (findV_out h1 h2 (by have := Hl.out.1; omega))
        have hj2 : (na : Int) ≤ j := by omega
        clear h1 h2
        go_enter Try.func40, Try.ntmps40
        go_wp2_with (first
          | ((go_at_call 35; refine (hv.out _ (Hr.out _ below_box)).mono ?_); rintro e w2 ⟨rfl, hb2⟩; have f0 := box_cell hb2 0 rfl; have f1 := box_cell hb2 1 rfl; have f2 := box_cell hb2 2 rfl; have HB := Lib.hid (below_boxed hb2))
          | ((go_at_call 57; refine (hs.out _ (Hr.out _ HB.out).is).mono ?_); rintro e w3 ⟨rfl, hb3⟩; have g0 := cell_keep hb3 f0; have HB3 := Lib.hid (bthen HB.out hb3)))
        go_ret
        exact ⟨ret_int E.out.symm, HB3.out⟩

set_option maxRecDepth 100000 in
set_option maxHeartbeats 1600000 in
theorem scGet_any (pa : Option Addr) (na ca : Nat) (pb : Option Addr) (nb cb : Nat) (pc : Option Addr) (nc cc : Nat) (l : Loc) (i st : Int) (w : World) (hr : LRow w pa na ca pb nb cb pc nc cc l) :
    Calls Try.prog 13 #[.agg #[.slice pa na ca, .slice pb nb cb, .slice pc nc cc], .int .i64 i, .int .i64 st] w fun e w' => e = .returned (.tuple #[.int .u64 (getV l i st), .int .i64 (findV l i st)]) ∧ Below w.heap.size w w' := by
  have Hl := Lib.hid hr.lens
  have h63 := hr.i63.1
  have Hr := Lib.hid (fun w' (h : Below w.heap.size w w') => hr.keep h)
  have hf := Lib.hid (fun w h => find_any pa na ca pb nb cb pc nc cc l i st w h)
  clear hr
  by_cases h0 : findV l i st = 0
  · obtain ⟨j, s, rfl, h1, h2, hx, hst, hlv⟩ := findV_zero h0
    have E := Lib.hid (getV_yes h0 hx)
    have E0 := Lib.hid h0
    rw [E.out, h0]
    rw [h0] at hf
    have hj : j < na := by have := (List.getElem?_eq_some_iff.1 hx).1; have := Hl.out.1; omega
    have hj2 : (j : Int) < na := by omega
    obtain ⟨s', b, off, hx', rfl, -, -, -⟩ := slot_at (Hr.out w (Below.refl _ _)).sl hj
    have HC := Lib.hid (fun w' h => slot_at (Hr.out w' h).sl hj)
    have Hx := Lib.hid hx
    clear hx hx' s' h0 h1 h2 hst hlv
    go_enter Try.func13, Try.ntmps13
    go_wp2_with (((go_at_call 40; refine (hf.out _ (Hr.out _ below_box)).mono ?_); rintro e w2 ⟨rfl, hb2⟩; have f0 := box_cell hb2 0 rfl; have HB3 := Lib.hid (below_boxed hb2); (obtain ⟨s', b', off', hx', hp', c0, c1, c2⟩ := HC.out _ HB3.out); (obtain rfl : s = s' := Option.some.inj (Hx.out.symm.trans hx')); cases hp'; clear hx'))
    go_ret2
    exact ⟨rfl, HB3.out⟩
  · have E := Lib.hid (getV_no h0)
    rw [E.out]
    have hne : (findV l i st != 0) = true := bne_iff_ne.2 h0
    obtain ⟨f, hfv⟩ : ∃ f, findV l i st = f := ⟨_, rfl⟩
    rw [hfv] at hf hne ⊢
    clear hfv h0
    go_enter Try.func13, Try.ntmps13
    go_wp2_with (((go_at_call 40; refine (hf.out _ (Hr.out _ below_box)).mono ?_); rintro e w2 ⟨rfl, hb2⟩))
    go_ret2
    exact ⟨rfl, below_boxed hb2⟩
end Go.Proofs.Ytapfbnhcndifhaa
