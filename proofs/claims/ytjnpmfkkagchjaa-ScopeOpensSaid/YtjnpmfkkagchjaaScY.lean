/- Contract of the reference's Get of layer 14. -/
import Derived.Test.YtjnpmfkkagchjaaScF
import Derived.Test.YtjnpmfkkagchjaaScI
set_option linter.unusedVariables false
set_option linter.unusedSimpArgs false
namespace Go.Proofs.Ytjnpmfkkagchjaa
open Go.RowKit

set_option maxRecDepth 100000 in
set_option maxHeartbeats 3200000 in
theorem refGet_any (pa : Option Addr) (na ca : Nat) (pb : Option Addr) (nb cb : Nat) (pc : Option Addr) (nc cc : Nat) (l : Loc) (i st : Int) (w : World) (hr : LRow w pa na ca pb nb cb pc nc cc l) :
    Calls Try.prog 28 #[.agg #[.slice pa na ca, .slice pb nb cb, .slice pc nc cc], .int .i64 i, .int .i64 st] w fun e w' => e = .returned (.tuple #[.int .u64 (getV l i st), .int .i64 (findV l i st)]) ∧ Below w.heap.size w w' := by
  have Hl := Lib.hid hr.lens
  obtain ⟨h63a, h63b, h63c⟩ := hr.i63
  have Hr := Lib.hid (fun w' (h : Below w.heap.size w w') => hr.keep h)
  have hv := Lib.hid (fun w h => refVal_any pa na ca pb nb cb pc nc cc l w h)
  clear hr
  cases h1 : okB l
  · have E := findV_a (i := i) (st := st) h1
    have E2 := getV_no (l := l) (i := i) (st := st) (by omega)
    rw [E, E2]
    rw [h1] at hv
    clear h1 E E2
    go_enter Try.func28, Try.ntmps28
    go_wp2_with (((go_at_call 12; refine (hv.out _ (Hr.out _ below_box)).mono ?_); rintro e w2 ⟨rfl, hb2⟩))
    go_ret2
    exact ⟨rfl, below_boxed hb2⟩
  · rw [h1] at hv
    have HN := Lib.hid (fun w' h => (Hr.out w' h).is)
    have stale : ∀ (hno : issB l.is i st = false), (st < 1 ∨ (nc : Int) < st ∨ ∃ (k : Nat) (x : Int), 1 ≤ st ∧ st ≤ nc ∧ st - 1 = k ∧ l.is[k]? = some x ∧ x ≠ i) := by
      intro hno
      by_cases a1 : st < 1
      · exact .inl a1
      · by_cases a2 : (nc : Int) < st
        · exact .inr (.inl a2)
        · obtain ⟨k, hk⟩ : ∃ k : Nat, st - 1 = k := ⟨(st - 1).toNat, by omega⟩
          have hx : l.is[k]? = some (l.is[k]'(by have := Hl.out.2.2; omega)) := List.getElem?_eq_getElem _
          refine .inr (.inr ⟨k, _, by omega, by omega, hk, hx, fun e => ?_⟩)
          rw [issB_mid (by omega) (by have := Hl.out.2.2; omega) hk hx, e] at hno
          simp at hno
    cases h2 : issB l.is i st
    · have E := findV_b h1 h2
      have E2 := getV_no (l := l) (i := i) (st := st) (by omega)
      rw [E, E2]
      rcases stale h2 with a1 | a2 | ⟨k, x, a1, a2, hk, hx, hne⟩
      · clear E E2 h1 h2 stale HN
        go_enter Try.func28, Try.ntmps28
        go_wp2_with (((go_at_call 12; refine (hv.out _ (Hr.out _ below_box)).mono ?_); rintro e w2 ⟨rfl, hb2⟩; have f0 := box_cell hb2 0 rfl; have f1 := box_cell hb2 1 rfl; have f2 := box_cell hb2 2 rfl))
        go_ret2
        exact ⟨rfl, below_boxed hb2⟩
      · have a3 : ¬ st < 1 := by omega
        clear E E2 h1 h2 stale HN
        go_enter Try.func28, Try.ntmps28
        go_wp2_with (((go_at_call 12; refine (hv.out _ (Hr.out _ below_box)).mono ?_); rintro e w2 ⟨rfl, hb2⟩; have f0 := box_cell hb2 0 rfl; have f1 := box_cell hb2 1 rfl; have f2 := box_cell hb2 2 rfl))
        go_ret2
        exact ⟨rfl, below_boxed hb2⟩
      · obtain ⟨x', b, off, hx', rfl, -⟩ := (HN.out w (Below.refl _ _)).at_ (k := k) (by omega)
        have HC := Lib.hid (fun w' h => (HN.out w' h).at_ (k := k) (by omega))
        have Hx := Lib.hid hx
        have hk2 : (k : Int) < nc := by omega
        have hk1 : k < nc := by omega
        have hneb : (x != i) = true := bne_iff_ne.2 hne
        clear E E2 h1 h2 stale HN hx hx' hne
        go_enter Try.func28, Try.ntmps28
        go_wp2_with (((go_at_call 12; refine (hv.out _ (Hr.out _ below_box)).mono ?_); rintro e w2 ⟨rfl, hb2⟩; have f0 := box_cell hb2 0 rfl; have f1 := box_cell hb2 1 rfl; have f2 := box_cell hb2 2 rfl; have HB := Lib.hid (below_boxed hb2); (obtain ⟨y, b', off', hy, hp', c0⟩ := HC.out _ HB.out); (obtain rfl : x = y := Option.some.inj (Hx.out.symm.trans hy)); cases hp'; clear hy))
        go_ret2
        exact ⟨rfl, HB.out⟩
    · obtain ⟨a1, a2, a3⟩ := issB_iff.1 h2
      rw [Hl.out.2.2] at a2
      obtain ⟨k, hk⟩ : ∃ k : Nat, st - 1 = k := ⟨(st - 1).toNat, by omega⟩
      rw [show (st - 1).toNat = k by omega] at a3
      obtain ⟨x', bi, offi, hx', rfl, -⟩ := (HN.out w (Below.refl _ _)).at_ (k := k) (by omega)
      have HC := Lib.hid (fun w' h => (HN.out w' h).at_ (k := k) (by omega))
      have Hx := Lib.hid a3
      have hk2 : (k : Int) < nc := by omega
      have hk1 : k < nc := by omega
      obtain ⟨j, rfl, _⟩ := iss_nat h1 h2
      by_cases hj : j < na
      · have hj2 : (j : Int) < na := by omega
        obtain ⟨s, b, off, hs, rfl, -, -, -⟩ := slot_at (Hr.out w (Below.refl _ _)).sl hj
        have HS := Lib.hid (fun w' h => slot_at (Hr.out w' h).sl hj)
        have HX2 := Lib.hid hs
        obtain ⟨sst, srf, slv⟩ := s
        by_cases h3 : sst = st
        · subst h3
          cases slv
          · have E := findV_dead h1 h2 hs rfl rfl
            have E2 := getV_no (l := l) (i := (j : Int)) (st := sst) (by omega)
            rw [E, E2]
            clear E E2 h1 h2 stale HN hx' a3 hs
            go_enter Try.func28, Try.ntmps28
            go_wp2_with (((go_at_call 12; refine (hv.out _ (Hr.out _ below_box)).mono ?_); rintro e w2 ⟨rfl, hb2⟩; have f0 := box_cell hb2 0 rfl; have f1 := box_cell hb2 1 rfl; have f2 := box_cell hb2 2 rfl; have HB := Lib.hid (below_boxed hb2); (obtain ⟨y, b', off', hy, hp', c0⟩ := HC.out _ HB.out); (obtain rfl : (j : Int) = y := Option.some.inj (Hx.out.symm.trans hy)); cases hp'; clear hy; (obtain ⟨s', b', off', hy, hp', d0, d1, d2⟩ := HS.out _ HB.out); (obtain rfl : (⟨sst, srf, false⟩ : Sl) = s' := Option.some.inj (HX2.out.symm.trans hy)); cases hp'; clear hy; simp only at d0 d1 d2))
            go_ret2
            exact ⟨rfl, HB.out⟩
          · have E := findV_live h1 h2 hs rfl rfl
            have E2 := getV_yes E hs
            rw [E, E2]
            clear E E2 h1 h2 stale HN hx' a3 hs
            go_enter Try.func28, Try.ntmps28
            go_wp2_with (((go_at_call 12; refine (hv.out _ (Hr.out _ below_box)).mono ?_); rintro e w2 ⟨rfl, hb2⟩; have f0 := box_cell hb2 0 rfl; have f1 := box_cell hb2 1 rfl; have f2 := box_cell hb2 2 rfl; have HB := Lib.hid (below_boxed hb2); (obtain ⟨y, b', off', hy, hp', c0⟩ := HC.out _ HB.out); (obtain rfl : (j : Int) = y := Option.some.inj (Hx.out.symm.trans hy)); cases hp'; clear hy; (obtain ⟨s', b', off', hy, hp', d0, d1, d2⟩ := HS.out _ HB.out); (obtain rfl : (⟨sst, srf, true⟩ : Sl) = s' := Option.some.inj (HX2.out.symm.trans hy)); cases hp'; clear hy; simp only at d0 d1 d2))
            go_ret2
            exact ⟨rfl, HB.out⟩
        · have E := findV_st h1 h2 hs h3
          have E2 := getV_no (l := l) (i := (j : Int)) (st := st) (by omega)
          rw [E, E2]
          have hneb : (sst != st) = true := bne_iff_ne.2 h3
          clear E E2 h1 h2 stale HN hx' a3 hs h3
          go_enter Try.func28, Try.ntmps28
          go_wp2_with (((go_at_call 12; refine (hv.out _ (Hr.out _ below_box)).mono ?_); rintro e w2 ⟨rfl, hb2⟩; have f0 := box_cell hb2 0 rfl; have f1 := box_cell hb2 1 rfl; have f2 := box_cell hb2 2 rfl; have HB := Lib.hid (below_boxed hb2); (obtain ⟨y, b', off', hy, hp', c0⟩ := HC.out _ HB.out); (obtain rfl : (j : Int) = y := Option.some.inj (Hx.out.symm.trans hy)); cases hp'; clear hy; (obtain ⟨s', b', off', hy, hp', d0, d1, d2⟩ := HS.out _ HB.out); (obtain rfl : (⟨sst, srf, slv⟩ : Sl) = s' := Option.some.inj (HX2.out.symm.trans hy)); cases hp'; clear hy; simp only at d0 d1 d2))
          go_ret2
          exact ⟨rfl, HB.out⟩
      · have E := findV_out h1 h2 (by have := Hl.out.1; omega)
        have E2 := getV_no (l := l) (i := (j : Int)) (st := st) (by omega)
        rw [E, E2]
        have hj2 : (na : Int) ≤ j := by omega
        clear E E2 h1 h2 stale HN hx' a3
        go_enter Try.func28, Try.ntmps28
        go_wp2_with (((go_at_call 12; refine (hv.out _ (Hr.out _ below_box)).mono ?_); rintro e w2 ⟨rfl, hb2⟩; have f0 := box_cell hb2 0 rfl; have f1 := box_cell hb2 1 rfl; have f2 := box_cell hb2 2 rfl; have HB := Lib.hid (below_boxed hb2); (obtain ⟨y, b', off', hy, hp', c0⟩ := HC.out _ HB.out); (obtain rfl : (j : Int) = y := Option.some.inj (Hx.out.symm.trans hy)); cases hp'; clear hy))
        go_ret2
        exact ⟨rfl, HB.out⟩
end Go.Proofs.Ytjnpmfkkagchjaa
