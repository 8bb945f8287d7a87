/- Plain mathematics of places for objects, for heaps as package alloc asks for them. -/
import Derived.Test.YtbenklhbcgiacaaAlcC
set_option linter.unusedVariables false
namespace Go.Proofs.Ytbenklhbcgiacaa
open Go.RowKit

/-- What a place wants to know of a heap. -/
structure PlOK (h : Hp) : Prop where
  conf : confB h.pw h.np = true
  len : (h.pages.length : Int) = h.np
  sp : 0 ≤ h.space ∧ h.space ≤ 1
  bp : h.bump = -1 ∨ ∃ K : Nat, ∃ x : Pg, h.bump = K ∧ h.pages[K]? = some x ∧ x.kind = 1 ∧ 0 ≤ x.used ∧ x.used ≤ h.pw
theorem PlOK.bump {h : Hp} (hp : PlOK h) : (h.bump = -1 ∨ 0 ≤ h.bump ∧ h.bump < h.pages.length) ∧ (¬ h.bump = -1 → 0 ≤ (h.pages.getD h.bump.toNat Pg.zero).used ∧ (h.pages.getD h.bump.toNat Pg.zero).used ≤ 100000) := by
  obtain ⟨_, k2, _⟩ := conf_parts hp.conf
  rcases hp.bp with h1 | ⟨K, x, h1, h2, -, h3, h4⟩
  · exact ⟨Or.inl h1, fun c => absurd h1 c⟩
  · have := (List.getElem?_eq_some_iff.1 h2).1
    rw [h1, Int.toNat_natCast, getD_at h2]
    exact ⟨Or.inr ⟨by omega, by omega⟩, fun _ => ⟨h3, by omega⟩⟩
theorem addr_in {pw np : Int} {K : Nat} {o : Int} (hc : confB pw np = true) (hk : (K : Int) < np) (h0 : 0 ≤ o) (h1 : o < pw) : addrE pw np K o = 0 ∧ addrV pw np K o = 4096 + K * pw + o := by
  obtain ⟨a, b⟩ := addr_ok hc (p := (K : Int)) (o := o) (decide_eq_true ⟨by omega, hk, h0, h1⟩)
  exact ⟨b, a⟩

theorem newB_yes {h : Hp} {nn : Int} (hp : PlOK h) (hU : (inUse h.pages : Int) ≤ limitV h.pw h.np) (hf : fitsB h.pw h.pages h.space h.bump nn = true) : newB h nn = false := by
  obtain ⟨d1, d2, d3⟩ := of_decide_eq_true hf
  refine decide_eq_false ?_
  unfold bumpPg
  rintro (c | c | c | c)
  · rcases hp.bp with e | ⟨K, x, e, -⟩ <;> omega
  · exact c d2
  · omega
  · omega
theorem newB_no {h : Hp} {nn : Int} (hp : PlOK h) (h' : ¬ (inUse h.pages : Int) ≤ limitV h.pw h.np ∨ fitsB h.pw h.pages h.space h.bump nn = false) : newB h nn = true := by
  refine decide_eq_true ?_
  rcases h' with h' | h'
  · exact Or.inr (Or.inr (Or.inr (by omega)))
  · have hd := of_decide_eq_false h'
    unfold bumpPg
    by_cases c1 : h.bump = -1
    · exact Or.inl (by omega)
    · by_cases c2 : (h.pages.getD h.bump.toNat Pg.zero).space = h.space
      · refine Or.inr (Or.inr (Or.inl ?_))
        have : ¬ (h.pages.getD h.bump.toNat Pg.zero).used + nn ≤ h.pw := fun c => hd ⟨c1, c2, c⟩
        omega
      · exact Or.inr (Or.inl c2)

/-- The place on the page Bump. -/
theorem place_bump {h : Hp} {nn : Int} (hp : PlOK h) (h1 : 1 ≤ nn) (hn : newB h nn = false) :
    ∃ (K : Nat) (x : Pg), h.bump = K ∧ h.pages[K]? = some x ∧ (0 ≤ x.used ∧ x.used ≤ 100000) ∧ smallOKB h nn = true ∧ smallH h nn = ⟨h.pw, h.np, h.words, h.pages.set K ⟨x.kind, x.space, x.used + nn, x.pins⟩, h.space, K⟩ ∧ addrE h.pw h.np K x.used = 0 ∧ smallA h nn = addrV h.pw h.np K x.used := by
  have hd := of_decide_eq_false hn
  obtain ⟨_, k2, _⟩ := conf_parts hp.conf
  rcases hp.bp with h2 | ⟨K, x, h2, h3, -, h4, h5⟩
  · exact absurd (Or.inl (by omega)) hd
  · have hK := (List.getElem?_eq_some_iff.1 h3).1
    have hbp : bumpPg h = x := by unfold bumpPg; rw [h2, Int.toNat_natCast, getD_at h3]
    have hl := hp.len
    rw [hbp] at hd
    obtain ⟨a, b⟩ := addr_in (K := K) (o := x.used) hp.conf (by omega) h4 (by omega)
    have hJ : smallJ h nn = K := by unfold smallJ; rw [hn]; exact h2
    have hP : smallPs h nn = h.pages := by unfold smallPs; rw [hn]; rfl
    refine ⟨K, x, h2, h3, ⟨h4, by omega⟩, by unfold smallOKB; rw [hn]; rfl, ?_, a, ?_⟩
    · unfold smallH useAt; rw [hJ, hP, Int.toNat_natCast, getD_at h3]
    · unfold smallA; rw [hJ, hP, Int.toNat_natCast, getD_at h3, b]
/-- The place on a new page. -/
theorem place_new {h : Hp} {nn : Int} (hp : PlOK h) (hn : newB h nn = true) (hf : smallFull h = false) :
    ∃ (K : Nat), firstV h.pages 1 = K ∧ K < h.pages.length ∧ smallPE h.pages K h.space = 0 ∧ smallPV h.pages K h.space = h.pages.set K ⟨1, h.space, 0, 0⟩ ∧ (∃ y, h.pages[K]? = some y ∧ y.kind = 0) ∧ smallOKB h nn = true ∧ smallH h nn = ⟨h.pw, h.np, h.words, (h.pages.set K ⟨1, h.space, 0, 0⟩).set K ⟨1, h.space, 0 + nn, 0⟩, h.space, K⟩ ∧ addrE h.pw h.np K 0 = 0 ∧ smallA h nn = addrV h.pw h.np K 0 := by
  have hd := of_decide_eq_false hf
  have hF : 0 ≤ firstV h.pages 1 := by omega
  obtain ⟨-, f1, f2⟩ := first_spec hF
  obtain ⟨K, hK⟩ := Int.eq_ofNat_of_zero_le hF
  rw [hK] at f1 f2
  obtain ⟨y, hy, hy0⟩ := f2 K (by omega) (by omega)
  have hlt : K < h.pages.length := (List.getElem?_eq_some_iff.1 hy).1
  have hfree : freeB h.pages K 1 = true := by
    have := freeB_succ (ps := h.pages) (i := K) (k := 0) (x := y) (by rw [Nat.add_zero]; exact hy)
    rw [freeB_zero, hy0] at this; simpa using this
  obtain ⟨t1, t2⟩ := take_ok (x := ⟨1, h.space, 0, 0⟩) (y := Pg.zero) hlt (show K + 1 ≤ h.pages.length by omega) hfree
  rw [put_head (by omega) (by omega), put_zero] at t1
  have hps : smallPV h.pages K h.space = h.pages.set K ⟨1, h.space, 0, 0⟩ := by
    unfold smallPV; rw [if_pos hp.sp]; exact t1
  have hpe : smallPE h.pages K h.space = 0 := by unfold smallPE; rw [if_pos hp.sp]; exact t2
  have hl := hp.len
  obtain ⟨k1, k2, _⟩ := conf_parts hp.conf
  obtain ⟨a, b⟩ := addr_in (K := K) (o := 0) hp.conf (by omega) (by omega) (by omega)
  have hJ : smallJ h nn = K := by unfold smallJ; rw [hn]; exact hK
  have hP : smallPs h nn = h.pages.set K ⟨1, h.space, 0, 0⟩ := by unfold smallPs; rw [hn, if_pos rfl, hK, hps]
  have hg : (h.pages.set K ⟨1, h.space, 0, 0⟩)[K]? = some ⟨1, h.space, 0, 0⟩ := by rw [List.getElem?_set, if_pos rfl, if_pos hlt]
  refine ⟨K, hK, hlt, hpe, hps, ⟨y, hy, hy0⟩, by unfold smallOKB; rw [hn, hf]; rfl, ?_, a, ?_⟩
  · unfold smallH useAt; rw [hJ, hP, Int.toNat_natCast, getD_at hg]
  · unfold smallA; rw [hJ, hP, Int.toNat_natCast, getD_at hg, b]
theorem place_none {h : Hp} {nn : Int} (hn : newB h nn = true) (hf : smallFull h = true) : smallOKB h nn = false := by
  unfold smallOKB; rw [hn, hf]; rfl
theorem small_out {ps : List Pg} {i sp : Int} (h : i < 0) (hs : 0 ≤ sp ∧ sp ≤ 1) : smallPE ps i sp = 2 := by
  unfold smallPE takeE; rw [if_pos hs, if_neg (by omega)]

/-- The place of a large object. -/
theorem place_large {h : Hp} {n k : Int} (hp : PlOK h) (hk : needV h.pw h.np n = k) (h1 : 1 ≤ k) (hF : 0 ≤ firstV h.pages k) :
    ∃ (K kk : Nat), k = kk ∧ firstV h.pages k = K ∧ K + kk ≤ h.pages.length ∧ freeB h.pages K kk = true ∧ largePE h.pw h.np h.pages K h.space n = 0 ∧ largePV h.pw h.np h.pages K h.space n = put (h.pages.set K ⟨2, h.space, n, 0⟩) (K + 1) (kk - 1) ⟨3, h.space, 0, 0⟩ ∧ addrE h.pw h.np K 0 = 0 ∧ largeA h k = addrV h.pw h.np K 0 := by
  obtain ⟨-, f1, f2⟩ := first_spec hF
  obtain ⟨K, hK⟩ := Int.eq_ofNat_of_zero_le hF
  obtain ⟨kk, hkk⟩ := Int.eq_ofNat_of_zero_le (show 0 ≤ k by omega)
  rw [hK] at f1 f2
  have hfree : ∀ j : Nat, j ≤ kk → freeB h.pages K j = true := by
    intro j
    induction j with
    | zero => intro _; exact freeB_zero _ _
    | succ j ih =>
      intro hj
      obtain ⟨y, hy, hy0⟩ := f2 (K + j) (by omega) (by omega)
      rw [freeB_succ hy, ih (by omega), hy0]; rfl
  have hl := hp.len
  obtain ⟨k1, k2, _⟩ := conf_parts hp.conf
  obtain ⟨a, b⟩ := addr_in (K := K) (o := 0) hp.conf (by omega) (by omega) (by omega)
  obtain ⟨t1, t2⟩ := take_ok (x := ⟨2, h.space, n, 0⟩) (y := ⟨3, h.space, 0, 0⟩) (show K < h.pages.length by omega) (show K + kk ≤ h.pages.length by omega) (hfree kk (Nat.le_refl _))
  rw [put_head (by omega) (by omega)] at t1
  obtain ⟨e1, e2⟩ := largeP_ok (ps := h.pages) (i := (K : Int)) (show 1 ≤ needV h.pw h.np n ∧ 0 ≤ h.space ∧ h.space ≤ 1 from ⟨by omega, hp.sp⟩)
  refine ⟨K, kk, hkk, hK, by omega, hfree kk (Nat.le_refl _), ?_, ?_, a, ?_⟩
  · rw [e2, hk, hkk]; exact t2
  · rw [e1, hk, hkk]; exact t1
  · unfold largeA; rw [hK, b]; omega
theorem large_out {pw np : Int} {ps : List Pg} {i sp n : Int} (h : i < 0) (h1 : 1 ≤ needV pw np n) (hs : 0 ≤ sp ∧ sp ≤ 1) : largePE pw np ps i sp n = 2 := by
  unfold largePE takeE; rw [if_pos ⟨h1, hs⟩, if_neg (by omega)]
end Go.Proofs.Ytbenklhbcgiacaa
