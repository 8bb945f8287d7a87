/- Plain mathematics: a heap stays proper where an object is placed. -/
import Derived.Test.YtbenklhbcgiacaaAlcE
import Derived.Test.YtbenklhbcgiacaaTab
import Derived.Test.YtbenklhbcgiacaaArenaM
set_option linter.unusedVariables false
namespace Go.Proofs.Ytbenklhbcgiacaa
open Go.RowKit

/-- What the program's Proper says of a heap. -/
def okP (h : Hp) : Bool := properP h.pw h.np h.words.length h.pages h.space h.bump
theorem okP_parts {h : Hp} (hp : okP h = true) : confB h.pw h.np = true ∧ (h.words.length : Int) = h.np * h.pw ∧ (h.pages.length : Int) = h.np ∧ spaceB h.space = true ∧ bumpB h.pages h.bump = true ∧ tableOK h.pw h.np h.pages = true := by
  unfold okP properP at hp
  simp only [Bool.and_eq_true, decide_eq_true_eq] at hp
  obtain ⟨⟨⟨⟨⟨h1, h2⟩, h3⟩, h4⟩, h5⟩, h6⟩ := hp
  exact ⟨h1, h2, h3, h4, h5, h6⟩
theorem okP_mk {h : Hp} (h1 : confB h.pw h.np = true) (h2 : (h.words.length : Int) = h.np * h.pw) (h3 : (h.pages.length : Int) = h.np) (h4 : spaceB h.space = true) (h5 : bumpB h.pages h.bump = true) (h6 : tableOK h.pw h.np h.pages = true) : okP h = true := by
  unfold okP properP
  rw [h1, decide_eq_true h2, decide_eq_true h3, h4, h5, h6]; rfl
/-- A small page of a proper table. -/
theorem small_of {pw np : Int} {ps : List Pg} {K : Nat} {x : Pg} (h : tableOK pw np ps = true) (hx : ps[K]? = some x) (h1 : x.kind = 1) : spaceB x.space = true ∧ (0 ≤ x.used ∧ x.used ≤ pw) ∧ pinsB x.pins = true := by
  have := tableOK_iff.1 h K x hx
  unfold pageOK at this
  rw [if_neg (by omega), if_pos h1] at this
  unfold smallOK at this
  rw [Bool.and_eq_true, Bool.and_eq_true, decide_eq_true_eq] at this
  exact ⟨this.1.1, this.1.2, this.2⟩
theorem PlOK.of {h : Hp} (hp : okP h = true) : PlOK h := by
  obtain ⟨h1, h2, h3, h4, h5, h6⟩ := okP_parts hp
  refine ⟨h1, h3, space_le.1 h4, ?_⟩
  rcases of_decide_eq_true h5 with e | ⟨e1, e2, e3⟩
  · exact Or.inl e
  · have hx : h.pages[h.bump.toNat]? = some (h.pages[h.bump.toNat]'(by omega)) := List.getElem?_eq_getElem _
    rw [getD_at hx] at e3
    obtain ⟨-, hu, -⟩ := small_of h6 hx e3
    exact Or.inr ⟨h.bump.toNat, _, by omega, hx, e3, hu.1, hu.2⟩
theorem needP_le {pw n : Int} (hn : 0 < needP pw n) : n ≤ needP pw n * pw := by
  unfold needP at *
  split at hn
  · omega
  · rename_i h0
    rw [if_neg h0]
    split at hn
    · rename_i h1; rw [if_pos h1]; omega
    · rename_i h1
      rw [if_neg h1]
      split at hn
      · rename_i h2; rw [if_pos h2]; omega
      · rename_i h2
        rw [if_neg h2]
        split at hn
        · rename_i h3; rw [if_pos h3]; omega
        · rename_i h3
          rw [if_neg h3]
          split at hn
          · rename_i h4; rw [if_pos h4]; omega
          · omega
theorem needV_ge (pw np n : Int) : -1 ≤ needV pw np n := by
  unfold needV needP
  repeat' split
  all_goals omega
theorem needV_small {pw np n : Int} (hc : confB pw np = true) (h0 : ¬ 0 < needV pw np n) (h1 : ¬ needV pw np n = -1) : 1 ≤ n ∧ n ≤ pw / 4 := by
  have hz : needV pw np n = 0 := by have := needV_ge pw np n; omega
  by_cases hn : 1 ≤ n
  · rw [need_ok hc hn] at hz
    refine ⟨hn, ?_⟩
    unfold needP at hz
    split at hz
    · assumption
    · split at hz
      · omega
      · split at hz
        · omega
        · split at hz
          · omega
          · split at hz <;> omega
  · rw [need_no (Or.inr (by omega))] at hz; omega
theorem bumpB_mk {ps : List Pg} {K : Nat} {x : Pg} (h : ps[K]? = some x) (h1 : x.kind = 1) : bumpB ps K = true := by
  have := (List.getElem?_eq_some_iff.1 h).1
  refine decide_eq_true (Or.inr ⟨by omega, by omega, ?_⟩)
  rw [Int.toNat_natCast, getD_at h]; exact h1

/-- The heap behind a place, and the place's words. -/
theorem place_proper {h : Hp} {s : Int} (hp : okP h = true) (h1 : 1 ≤ s) (hn : ¬ needV h.pw h.np s = -1) (hok : placeOK h s = true) :
    okP (placeH h s) = true ∧ (placeH h s).words = h.words ∧ (0 ≤ placeA h s ∧ placeA h s < 18446744073709551616) ∧ okA h.words.length (placeA h s) s.toNat = true := by
  obtain ⟨p1, p2, p3, p4, p5, p6⟩ := okP_parts hp
  have hpl := PlOK.of hp
  obtain ⟨g1, g2⟩ := conf_prod p1
  obtain ⟨k1, k2, -, k4, k5⟩ := conf_parts p1
  unfold placeOK at hok
  unfold placeH placeA
  by_cases hk : 0 < needV h.pw h.np s
  · rw [if_pos hk] at hok
    rw [if_pos hk, if_pos hk]
    have hd := of_decide_eq_true hok
    obtain ⟨K, kk, e1, e2, e3, e4, -, e6, -, e8⟩ := place_large (n := s) hpl rfl (by omega) (show 0 ≤ firstV h.pages (needV h.pw h.np s) by omega)
    have hH : largeH h s (needV h.pw h.np s) = { h with pages := put (h.pages.set K ⟨2, h.space, s, 0⟩) (K + 1) (kk - 1) ⟨3, h.space, 0, 0⟩ } := by unfold largeH; rw [e2, e6]
    have hlen : (put (h.pages.set K ⟨2, h.space, s, 0⟩) (K + 1) (kk - 1) ⟨3, h.space, 0, 0⟩).length = h.pages.length := by rw [put_len (by rw [List.length_set]; omega), List.length_set]
    obtain ⟨a1, a2⟩ := addr_in (K := K) (o := 0) p1 (by omega) (by omega) (by omega)
    have hsz : s ≤ needV h.pw h.np s * h.pw := by
      have h3 := need_ok p1 h1
      rw [h3] at hk ⊢
      exact needP_le hk
    have hmul : (K : Int) * h.pw + needV h.pw h.np s * h.pw ≤ h.np * h.pw := by
      rw [← Int.add_mul]
      exact Int.mul_le_mul_of_nonneg_right (by omega) (by omega)
    have hK0 : 0 ≤ (K : Int) * h.pw := Int.mul_nonneg (by omega) (by omega)
    rw [hH, e8, a2]
    refine ⟨okP_mk p1 p2 (by simp only; rw [hlen]; exact p3) p4 ?_ (table_large p6 e4 e3 (by omega) p4 e1), rfl, ⟨by omega, by omega⟩, decide_eq_true ⟨by omega, by omega⟩⟩
    -- the page Bump is no free page
    simp only
    rcases of_decide_eq_true p5 with e | ⟨c1, c2, c3⟩
    · exact decide_eq_true (Or.inl e)
    · have hx : h.pages[h.bump.toNat]? = some (h.pages[h.bump.toNat]'(by omega)) := List.getElem?_eq_getElem _
      rw [getD_at hx] at c3
      have hnf : ¬ (K ≤ h.bump.toNat ∧ h.bump.toNat < K + kk) := fun c => by
        have hz' : h.pages[h.bump.toNat]'(by omega) ∈ (h.pages.drop K).take kk := by
          refine List.mem_of_getElem? (i := h.bump.toNat - K) ?_
          rw [List.getElem?_take, if_pos (by omega), List.getElem?_drop, show K + (h.bump.toNat - K) = h.bump.toNat by omega]; exact hx
        unfold freeB at e4
        have := of_decide_eq_true (List.all_eq_true.1 e4 _ hz')
        omega
      have hy : (put (h.pages.set K ⟨2, h.space, s, 0⟩) (K + 1) (kk - 1) ⟨3, h.space, 0, 0⟩)[h.bump.toNat]? = some (h.pages[h.bump.toNat]'(by omega)) := by
        rw [put_get (by rw [List.length_set]; omega) (by omega), List.getElem?_set, if_neg (by omega)]; exact hx
      have := bumpB_mk hy c3
      rwa [show ((h.bump.toNat : Nat) : Int) = h.bump by omega] at this
  · rw [if_neg hk] at hok
    rw [if_neg hk, if_neg hk]
    obtain ⟨s1, s4⟩ := needV_small p1 hk hn
    cases hnb : newB h s
    · obtain ⟨K, x, b1, b2, b3, -, b5, -, b7⟩ := place_bump hpl h1 hnb
      have hKl := (List.getElem?_eq_some_iff.1 b2).1
      have hx1 : x.kind = 1 := by
        rcases hpl.bp with e | ⟨K', x', e1, e2, e3, -⟩
        · omega
        · obtain rfl : K = K' := by omega
          rw [b2] at e2; cases e2; exact e3
      obtain ⟨u1, u2, u3⟩ := small_of p6 b2 hx1
      have hfit : x.used + s ≤ h.pw := by
        have hd := of_decide_eq_false hnb
        unfold bumpPg at hd
        rw [b1, Int.toNat_natCast, getD_at b2] at hd
        omega
      obtain ⟨a1, a2⟩ := addr_in (K := K) (o := x.used) p1 (by omega) (by omega) (by omega)
      have hmul : (K : Int) * h.pw + h.pw ≤ h.np * h.pw := (page_prod p1 (by omega) (by omega)).2
      have hK0 : 0 ≤ (K : Int) * h.pw := Int.mul_nonneg (by omega) (by omega)
      rw [b5, b7, a2]
      refine ⟨okP_mk p1 p2 (by simp only; rw [List.length_set]; exact p3) p4 ?_ ?_, rfl, ⟨by omega, by omega⟩, decide_eq_true ⟨by omega, by omega⟩⟩
      · exact bumpB_mk (x := ⟨x.kind, x.space, x.used + s, x.pins⟩) (by simp only; rw [List.getElem?_set, if_pos rfl, if_pos hKl]) hx1
      · refine table_small p6 b2 (Or.inr hx1) hx1 ?_
        unfold smallOK
        simp only
        rw [u1, u3, decide_eq_true (show 0 ≤ x.used + s ∧ x.used + s ≤ h.pw by omega)]; rfl
    · have hf : smallFull h = false := by
        unfold smallOKB at hok
        rw [hnb, Bool.true_and] at hok
        simpa using hok
      obtain ⟨K, -, b2, -, -, ⟨y, hy, hy0⟩, -, b5, -, b7⟩ := place_new hpl hnb hf
      obtain ⟨a1, a2⟩ := addr_in (K := K) (o := 0) p1 (by omega) (by omega) (by omega)
      have hmul : (K : Int) * h.pw + h.pw ≤ h.np * h.pw := (page_prod p1 (by omega) (by omega)).2
      have hK0 : 0 ≤ (K : Int) * h.pw := Int.mul_nonneg (by omega) (by omega)
      rw [List.set_set] at b5
      rw [b5, b7, a2]
      refine ⟨okP_mk p1 p2 (by simp only; rw [List.length_set]; exact p3) p4 ?_ ?_, rfl, ⟨by omega, by omega⟩, decide_eq_true ⟨by omega, by omega⟩⟩
      · exact bumpB_mk (x := ⟨1, h.space, 0 + s, 0⟩) (by simp only; rw [List.getElem?_set, if_pos rfl, if_pos b2]) rfl
      · refine table_small p6 hy (Or.inl hy0) rfl ?_
        unfold smallOK
        simp only
        rw [p4, show pinsB 0 = true from rfl, decide_eq_true (show 0 ≤ 0 + s ∧ 0 + s ≤ h.pw by omega)]; rfl

/-- The whole of an allocation on plain data. -/
def stepH (h : Hp) (k L b : Nat) : Hp := ⟨(placeH h (L + 1)).pw, (placeH h (L + 1)).np, writeV h.words (placeA h (L + 1)) (wordV k L b :: List.replicate L 0), (placeH h (L + 1)).pages, (placeH h (L + 1)).space, (placeH h (L + 1)).bump⟩
theorem step_proper {h : Hp} {k L b : Nat} (hp : okP h = true) (hn : ¬ needV h.pw h.np (L + 1) = -1) (hok : placeOK h (L + 1) = true) :
    okP (stepH h k L b) = true ∧ (0 ≤ placeA h (L + 1) ∧ placeA h (L + 1) < 18446744073709551616) ∧ writeE h.words (placeA h (L + 1)) (wordV k L b :: List.replicate L 0) = 0 ∧ properP (placeH h (L + 1)).pw (placeH h (L + 1)).np h.words.length (placeH h (L + 1)).pages (placeH h (L + 1)).space (placeH h (L + 1)).bump = true := by
  obtain ⟨a1, a2, a3, a4⟩ := place_proper hp (by omega) hn hok
  have hl : (wordV k L b :: List.replicate L (0 : Int)).length = ((L : Int) + 1).toNat := by rw [List.length_cons, List.length_replicate]; omega
  rw [← hl] at a4
  obtain ⟨i, hi⟩ : ∃ i : Nat, placeA h (L + 1) = 4096 + (i : Int) := ⟨(placeA h (L + 1) - 4096).toNat, by have := (of_decide_eq_true a4).1; omega⟩
  have a5 := a4
  rw [hi] at a4
  obtain ⟨w1, w2⟩ := write_ok a4
  have hwl : (writeV h.words (placeA h (L + 1)) (wordV k L b :: List.replicate L 0)).length = h.words.length := by
    rw [hi, w1, splice_len]
    have := (of_decide_eq_true a4).2
    omega
  have hpp : properP (placeH h (L + 1)).pw (placeH h (L + 1)).np h.words.length (placeH h (L + 1)).pages (placeH h (L + 1)).space (placeH h (L + 1)).bump = true := by
    have := a1; unfold okP at this; rwa [a2] at this
  refine ⟨?_, a3, by rw [hi]; exact w2, hpp⟩
  unfold okP stepH
  simp only
  rw [hwl]
  exact hpp
end Go.Proofs.Ytbenklhbcgiacaa
