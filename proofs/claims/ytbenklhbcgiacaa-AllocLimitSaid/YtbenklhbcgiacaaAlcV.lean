/- Plain mathematics: as many objects of one size as fit, one after the other in an empty heap. -/
import Derived.Test.YtbenklhbcgiacaaAlcQ
set_option linter.unusedVariables false
namespace Go.Proofs.Ytbenklhbcgiacaa
open Go.RowKit

theorem inUse_full : ∀ pre : List Pg, (∀ x ∈ pre, ¬ x.kind = 0) → inUse pre = pre.length
  | [], _ => rfl
  | x :: r, h => by rw [inUse, if_neg (h x (by simp)), inUse_full r fun y hy => h y (by simp [hy]), List.length_cons]; omega
theorem inUse_none : ∀ m : Nat, inUse (List.replicate m Pg.zero) = 0
  | 0 => rfl
  | m + 1 => by rw [List.replicate_succ, inUse, inUse_none m]; rfl
theorem inUse_pre {pre : List Pg} {m : Nat} (h : ∀ x ∈ pre, ¬ x.kind = 0) : inUse (pre ++ List.replicate m Pg.zero) = pre.length := by
  rw [inUse_append, inUse_full pre h, inUse_none]; omega
theorem runs_pre {pre : List Pg} {m : Nat} (h : ∀ x ∈ pre, ¬ x.kind = 0) : ∀ j : Nat, j ≤ pre.length → runsTo (pre ++ List.replicate m Pg.zero) j = []
  | 0, _ => rfl
  | j + 1, hj => by
    have hx : (pre ++ List.replicate m Pg.zero)[j]? = some (pre[j]'(by omega)) := by rw [List.getElem?_append_left (by omega)]; exact List.getElem?_eq_getElem _
    rw [runsTo_step hx, runs_pre h j (by omega), runStep_no (h _ (List.getElem_mem _))]
theorem runs_post {pre : List Pg} {m : Nat} (h : ∀ x ∈ pre, ¬ x.kind = 0) : ∀ j : Nat, j + 1 ≤ m → runsTo (pre ++ List.replicate m Pg.zero) (pre.length + (j + 1)) = [((pre.length : Int), (j : Int) + 1)]
  | 0, hj => by
    have hx : (pre ++ List.replicate m Pg.zero)[pre.length]? = some Pg.zero := by rw [List.getElem?_append_right (Nat.le_refl _), List.getElem?_replicate, if_pos (by omega)]
    rw [show pre.length + (0 + 1) = pre.length + 1 from rfl, runsTo_step hx, runs_pre h _ (Nat.le_refl _), runStep_nil rfl]; rfl
  | j + 1, hj => by
    have hx : (pre ++ List.replicate m Pg.zero)[pre.length + (j + 1)]? = some Pg.zero := by rw [List.getElem?_append_right (by omega), List.getElem?_replicate, if_pos (by omega)]
    rw [show pre.length + (j + 1 + 1) = pre.length + (j + 1) + 1 from rfl, runsTo_step hx, runs_post h j (by omega)]
    have := runStep_bump (pre := []) (r := ((pre.length : Int), (j : Int) + 1)) (k := ((pre.length + (j + 1) : Nat) : Int)) (x := Pg.zero) rfl (by simp only; omega)
    rw [List.nil_append] at this
    rw [this]
    simp
theorem first_pre {pre : List Pg} {m : Nat} {k : Int} (h : ∀ x ∈ pre, ¬ x.kind = 0) (h1 : 1 ≤ k) (hk : k ≤ m) : firstV (pre ++ List.replicate m Pg.zero) k = pre.length := by
  rw [firstV_from]
  unfold runsV
  obtain ⟨j, rfl⟩ : ∃ j, m = j + 1 := ⟨m - 1, by omega⟩
  rw [List.length_append, List.length_replicate, runs_post h j (Nat.le_refl _), firstFrom, if_pos ⟨h1, by simp only; omega⟩]

/-- How many objects there are, small ones. -/
structure ChS (P M S t : Nat) (h : Hp) : Prop where
  ok : okP h = true
  pw : h.pw = P
  np : h.np = M
  sp : h.space = 0
  tb : ∃ pre m, h.pages = pre ++ List.replicate m Pg.zero ∧ (∀ x ∈ pre, ¬ x.kind = 0) ∧
    ((t = 0 ∧ pre = [] ∧ h.bump = -1) ∨ ∃ a r x, t = a * (P / S) + r ∧ 1 ≤ r ∧ r ≤ P / S ∧ pre.length = a + 1 ∧ h.bump = (a : Int) ∧ pre[a]? = some x ∧ x.kind = 1 ∧ x.space = 0 ∧ x.used = ((r * S : Nat) : Int))

theorem ChS.start {P M S : Nat} (hc : confB P M = true) (hok : okP ⟨P, M, List.replicate ((M : Int) * P).toNat 0, List.replicate (M : Int).toNat Pg.zero, 0, -1⟩ = true) : ChS P M S 0 ⟨P, M, List.replicate ((M : Int) * P).toNat 0, List.replicate (M : Int).toNat Pg.zero, 0, -1⟩ :=
  ⟨hok, rfl, rfl, rfl, [], (M : Int).toNat, rfl, (fun x hx => by cases hx), Or.inl ⟨rfl, rfl, rfl⟩⟩

theorem small_case {P M S L : Nat} (hc : confB P M = true) (hS : S = L + 1) (hn0 : needV P M ((L : Int) + 1) = 0) : S ≤ P / 4 ∧ 1 ≤ P / S := by
  obtain ⟨h1, h2⟩ := needV_small hc (by rw [hn0]; decide) (by rw [hn0]; decide)
  have h3 : S ≤ P / 4 := by omega
  exact ⟨h3, (Nat.le_div_iff_mul_le (by omega)).2 (by omega)⟩

theorem ChS.step {P M S L t k b : Nat} {h : Hp} (hc : confB P M = true) (hS : S = L + 1) (hn0 : needV P M ((L : Int) + 1) = 0) (hh : ChS P M S t h) (ht : t < M / 4 * (P / S)) :
    placeOK h (L + 1) = true ∧ ChS P M S (t + 1) (stepH h k L b) ∧ (inUse (stepH h k L b).pages : Int) ≤ (M : Int) / 4 := by
  obtain ⟨hs4, hq1⟩ := small_case hc hS hn0
  obtain ⟨k1, k2, -, k4, k5⟩ := conf_parts hc
  obtain ⟨ok, epw, enp, esp, pre, m, epg, hfull, hform⟩ := hh
  have hpl := PlOK.of ok
  have hlen : pre.length + m = M := by have := hpl.len; rw [epg, List.length_append, List.length_replicate, enp] at this; omega
  have hlim : limitV h.pw h.np = (M : Int) / 4 := by rw [epw, enp]; exact limit_ok hc
  have hU : inUse h.pages = pre.length := by rw [epg]; exact inUse_pre hfull
  have hnd : ¬ 0 < needV h.pw h.np ((L : Int) + 1) := by rw [epw, enp, hn0]; decide
  have hnn : ¬ needV h.pw h.np ((L : Int) + 1) = -1 := by rw [epw, enp, hn0]; decide
  -- a new page
  have new : pre.length < M / 4 → newB h ((L : Int) + 1) = true → placeOK h (L + 1) = true ∧ (stepH h k L b).pw = P ∧ (stepH h k L b).np = M ∧ (stepH h k L b).space = 0 ∧ (stepH h k L b).pages = (pre ++ [⟨1, 0, ((S : Nat) : Int), 0⟩]) ++ List.replicate (m - 1) Pg.zero ∧ (stepH h k L b).bump = (pre.length : Int) := by
    intro hlt hnb
    have hF : firstV h.pages 1 = pre.length := by rw [epg]; exact first_pre hfull (by decide) (by omega)
    have hf : smallFull h = false := decide_eq_false (by rw [hF, hlim, hU]; omega)
    obtain ⟨K, b1, b2, -, -, -, b4, b5, -, -⟩ := place_new hpl hnb hf
    obtain rfl : K = pre.length := by rw [hF] at b1; omega
    have hP : placeH h ((L : Int) + 1) = smallH h ((L : Int) + 1) := if_neg hnd
    refine ⟨by unfold placeOK; rw [if_neg hnd]; exact b4, ?_⟩
    unfold stepH
    simp only
    rw [hP, b5]
    refine ⟨epw, enp, esp, ?_, rfl⟩
    simp only
    obtain ⟨m', rfl⟩ : ∃ m', m = m' + 1 := ⟨m - 1, by omega⟩
    rw [List.set_set, epg, List.set_append_right _ _ (Nat.le_refl _), Nat.sub_self, List.replicate_succ, List.set_cons_zero, esp, List.append_assoc, show (0 : Int) + ((L : Int) + 1) = ((S : Nat) : Int) by omega]
    rfl
  rcases hform with ⟨rfl, rfl, hb⟩ | ⟨a, r, x, ht', hr1, hrq, hla, hb, hx, hx1, hx2, hx3⟩
  · have hnb : newB h ((L : Int) + 1) = true := newB_no hpl (Or.inr (decide_eq_false fun c => c.1 hb))
    obtain ⟨n1, n2, n3, n4, n5, n6⟩ := new (by simp only [List.length_nil]; omega) hnb
    have hok := (step_proper (k := k) (b := b) ok hnn n1).1
    have hfull2 : ∀ y ∈ ([] ++ [(⟨1, 0, ((S : Nat) : Int), 0⟩ : Pg)]), ¬ y.kind = 0 := fun y hy => by simp at hy; subst hy; simp
    refine ⟨n1, ⟨hok, n2, n3, n4, _, m - 1, n5, hfull2, Or.inr ⟨0, 1, ⟨1, 0, ((S : Nat) : Int), 0⟩, by simp, Nat.le_refl _, hq1, rfl, n6, rfl, rfl, rfl, by simp⟩⟩, ?_⟩
    rw [n5, inUse_pre hfull2]
    simp only [List.nil_append, List.length_singleton]
    omega
  · have haM : a < M / 4 := by
      rcases Nat.lt_or_ge a (M / 4) with h | h
      · exact h
      · have := Nat.mul_le_mul_right (P / S) h; omega
    have hxp : h.pages[a]? = some x := by rw [epg, List.getElem?_append_left (by omega)]; exact hx
    have hfit : fitsB h.pw h.pages h.space h.bump ((L : Int) + 1) = decide (r * S + S ≤ P) := by
      unfold fitsB
      rw [hb, Int.toNat_natCast, getD_at hxp, hx2, hx3, esp, epw]
      by_cases c : r * S + S ≤ P
      · rw [decide_eq_true c]; exact decide_eq_true ⟨by omega, rfl, by omega⟩
      · rw [decide_eq_false c]; exact decide_eq_false fun h => c (by omega)
    by_cases hrl : r < P / S
    · have h1 : r * S + S ≤ P := by
        have e1 := Nat.mul_le_mul_right S (show r + 1 ≤ P / S from hrl)
        have e2 := Nat.div_mul_le_self P S
        rw [Nat.add_mul, Nat.one_mul] at e1
        omega
      have hnb : newB h ((L : Int) + 1) = false := newB_yes hpl (by rw [hlim, hU]; omega) (by rw [hfit]; exact decide_eq_true h1)
      obtain ⟨K, y, b1, b2, -, b4, b5, -, -⟩ := place_bump hpl (by omega) hnb
      obtain rfl : K = a := by omega
      obtain rfl : y = x := by rw [hxp] at b2; exact (Option.some.inj b2).symm
      have hP : placeH h ((L : Int) + 1) = smallH h ((L : Int) + 1) := if_neg hnd
      have hpk : placeOK h (L + 1) = true := by unfold placeOK; rw [if_neg hnd]; exact b4
      have hok := (step_proper (k := k) (b := b) ok hnn hpk).1
      have hpg : (stepH h k L b).pages = pre.set K ⟨1, 0, (((r + 1) * S : Nat) : Int), y.pins⟩ ++ List.replicate m Pg.zero := by
        unfold stepH
        simp only
        rw [hP, b5]
        simp only
        rw [epg, List.set_append_left _ _ (by omega), hx1, hx2, hx3, show ((r * S : Nat) : Int) + ((L : Int) + 1) = (((r + 1) * S : Nat) : Int) by rw [Nat.add_mul, Nat.one_mul]; omega]
      have hfull2 : ∀ z ∈ pre.set K ⟨1, 0, (((r + 1) * S : Nat) : Int), y.pins⟩, ¬ z.kind = 0 := fun z hz => by
        rcases List.mem_or_eq_of_mem_set hz with h | h
        · exact hfull z h
        · subst h; simp
      refine ⟨hpk, ⟨hok, ?_, ?_, ?_, _, m, hpg, hfull2, Or.inr ⟨K, r + 1, _, by omega, by omega, hrl, by rw [List.length_set]; exact hla, ?_, by rw [List.getElem?_set, if_pos rfl, if_pos (by omega)], rfl, rfl, rfl⟩⟩, ?_⟩
      · unfold stepH; simp only; rw [hP, b5]; exact epw
      · unfold stepH; simp only; rw [hP, b5]; exact enp
      · unfold stepH; simp only; rw [hP, b5]; exact esp
      · unfold stepH; simp only; rw [hP, b5]
      · rw [hpg, inUse_pre hfull2, List.length_set]; omega
    · obtain rfl : r = P / S := by omega
      have h2 : ¬ P / S * S + S ≤ P := by have := Nat.lt_div_mul_add (a := P) (b := S) (by omega); omega
      have hnb : newB h ((L : Int) + 1) = true := newB_no hpl (Or.inr (by rw [hfit]; exact decide_eq_false h2))
      have haM2 : a + 1 < M / 4 := by
        rcases Nat.lt_or_ge (a + 1) (M / 4) with h | h
        · exact h
        · have := Nat.mul_le_mul_right (P / S) h; rw [Nat.add_mul, Nat.one_mul] at this; omega
      obtain ⟨n1, n2, n3, n4, n5, n6⟩ := new (by omega) hnb
      have hok := (step_proper (k := k) (b := b) ok hnn n1).1
      have hfull2 : ∀ y ∈ (pre ++ [(⟨1, 0, ((S : Nat) : Int), 0⟩ : Pg)]), ¬ y.kind = 0 := fun y hy => by
        rcases List.mem_append.1 hy with h | h
        · exact hfull y h
        · simp at h; subst h; simp
      refine ⟨n1, ⟨hok, n2, n3, n4, _, m - 1, n5, hfull2, Or.inr ⟨a + 1, 1, ⟨1, 0, ((S : Nat) : Int), 0⟩, ?_, Nat.le_refl _, hq1, by rw [List.length_append, hla]; rfl, by rw [n6, hla], ?_, rfl, rfl, by simp⟩⟩, ?_⟩
      · rw [Nat.add_mul, Nat.one_mul]; omega
      · rw [List.getElem?_append_right (by omega), hla, Nat.sub_self]; rfl
      · rw [n5, inUse_pre hfull2, List.length_append, hla]
        simp only [List.length_singleton]
        omega

theorem ChS.stop {P M S L : Nat} {h : Hp} (hc : confB P M = true) (hS : S = L + 1) (hn0 : needV P M ((L : Int) + 1) = 0) (hh : ChS P M S (M / 4 * (P / S)) h) : placeOK h (L + 1) = false := by
  obtain ⟨hs4, hq1⟩ := small_case hc hS hn0
  obtain ⟨k1, k2, -, k4, k5⟩ := conf_parts hc
  obtain ⟨ok, epw, enp, esp, pre, m, epg, hfull, hform⟩ := hh
  have hpl := PlOK.of ok
  have hlim : limitV h.pw h.np = (M : Int) / 4 := by rw [epw, enp]; exact limit_ok hc
  have hU : inUse h.pages = pre.length := by rw [epg]; exact inUse_pre hfull
  have hnd : ¬ 0 < needV h.pw h.np ((L : Int) + 1) := by rw [epw, enp, hn0]; decide
  unfold placeOK
  rw [if_neg hnd]
  rcases hform with ⟨h0, -, -⟩ | ⟨a, r, x, ht', hr1, hrq, hla, hb, hx, hx1, hx2, hx3⟩
  · have : 1 * 1 ≤ M / 4 * (P / S) := Nat.mul_le_mul (by omega) hq1
    omega
  · have haM : a < M / 4 := by
      rcases Nat.lt_or_ge a (M / 4) with h | h
      · exact h
      · have := Nat.mul_le_mul_right (P / S) h; omega
    have e1 := Nat.mul_le_mul_right (P / S) (show a + 1 ≤ M / 4 from haM)
    rw [Nat.add_mul, Nat.one_mul] at e1
    obtain rfl : r = P / S := by omega
    have haE : M / 4 = a + 1 := by
      rcases Nat.lt_or_ge (a + 1) (M / 4) with h | h
      · have := Nat.mul_le_mul_right (P / S) (show a + 2 ≤ M / 4 from h)
        rw [Nat.add_mul] at this
        omega
      · omega
    have h2 : ¬ P / S * S + S ≤ P := by have := Nat.lt_div_mul_add (a := P) (b := S) (by omega); omega
    have hxp : h.pages[a]? = some x := by rw [epg, List.getElem?_append_left (by omega)]; exact hx
    have hfit : fitsB h.pw h.pages h.space h.bump ((L : Int) + 1) = false := by
      unfold fitsB
      rw [hb, Int.toNat_natCast, getD_at hxp, hx2, hx3, esp, epw]
      exact decide_eq_false fun h => h2 (by omega)
    exact place_none (newB_no hpl (Or.inr hfit)) (decide_eq_true (Or.inr (by rw [hlim, hU]; omega)))

/-- How many objects there are, large ones. -/
structure ChL (P M k t : Nat) (h : Hp) : Prop where
  ok : okP h = true
  pw : h.pw = P
  np : h.np = M
  tb : ∃ pre m, h.pages = pre ++ List.replicate m Pg.zero ∧ (∀ x ∈ pre, ¬ x.kind = 0) ∧ pre.length = t * k
theorem ChL.start {P M k : Nat} (hok : okP ⟨P, M, List.replicate ((M : Int) * P).toNat 0, List.replicate (M : Int).toNat Pg.zero, 0, -1⟩ = true) : ChL P M k 0 ⟨P, M, List.replicate ((M : Int) * P).toNat 0, List.replicate (M : Int).toNat Pg.zero, 0, -1⟩ :=
  ⟨hok, rfl, rfl, [], (M : Int).toNat, rfl, (fun x hx => by cases hx), by simp⟩
theorem put_pre {pre : List Pg} {m k : Nat} {X T : Pg} (hk : 1 ≤ k) (hm : k ≤ m) : put ((pre ++ List.replicate m Pg.zero).set pre.length X) (pre.length + 1) (k - 1) T = (pre ++ (X :: List.replicate (k - 1) T)) ++ List.replicate (m - k) Pg.zero := by
  obtain ⟨m', rfl⟩ : ∃ m', m = m' + 1 := ⟨m - 1, by omega⟩
  obtain ⟨k', rfl⟩ : ∃ k', k = k' + 1 := ⟨k - 1, by omega⟩
  rw [List.set_append_right _ _ (Nat.le_refl _), Nat.sub_self, List.replicate_succ, List.set_cons_zero]
  unfold put
  rw [Nat.add_sub_cancel]
  have e1 : (pre ++ X :: List.replicate m' Pg.zero).take (pre.length + 1) = pre ++ [X] := by
    rw [List.take_append, List.take_of_length_le (by omega), show pre.length + 1 - pre.length = 1 by omega]; rfl
  have e2 : (pre ++ X :: List.replicate m' Pg.zero).drop (pre.length + 1 + k') = List.replicate (m' - k') Pg.zero := by
    rw [List.drop_append, List.drop_of_length_le (by omega), show pre.length + 1 + k' - pre.length = k' + 1 by omega, List.drop_succ_cons, List.drop_replicate]; rfl
  rw [e1, e2, show m' + 1 - (k' + 1) = m' - k' by omega]
  simp
theorem ChL.step {P M k t L kk b : Nat} {h : Hp} (hc : confB P M = true) (hk1 : 1 ≤ k) (hn : needV P M ((L : Int) + 1) = k) (hh : ChL P M k t h) (ht : t < M / 4 / k) :
    placeOK h (L + 1) = true ∧ ChL P M k (t + 1) (stepH h kk L b) ∧ (inUse (stepH h kk L b).pages : Int) ≤ (M : Int) / 4 := by
  obtain ⟨k1, k2, -, k4, k5⟩ := conf_parts hc
  obtain ⟨ok, epw, enp, pre, m, epg, hfull, hl⟩ := hh
  have hpl := PlOK.of ok
  have hlen : pre.length + m = M := by have := hpl.len; rw [epg, List.length_append, List.length_replicate, enp] at this; omega
  have hlim : limitV h.pw h.np = (M : Int) / 4 := by rw [epw, enp]; exact limit_ok hc
  have hU : inUse h.pages = pre.length := by rw [epg]; exact inUse_pre hfull
  have hnk : needV h.pw h.np ((L : Int) + 1) = k := by rw [epw, enp]; exact hn
  have hnd : 0 < needV h.pw h.np ((L : Int) + 1) := by rw [hnk]; omega
  have htk : t * k + k ≤ M / 4 := by
    have e1 := Nat.mul_le_mul_right k (show t + 1 ≤ M / 4 / k from ht)
    have e2 := Nat.div_mul_le_self (M / 4) k
    rw [Nat.add_mul, Nat.one_mul] at e1
    omega
  have hF : firstV h.pages k = pre.length := by rw [epg]; exact first_pre hfull (by omega) (by omega)
  have hlo : largeOKB h k = true := decide_eq_true (by rw [hF, hlim, hU]; omega)
  have hpk : placeOK h (L + 1) = true := by unfold placeOK; rw [if_pos hnd, hnk]; exact hlo
  obtain ⟨K, k', e1, e2, e3, -, -, e6, -, -⟩ := place_large (n := (L : Int) + 1) hpl hnk (by omega) (by rw [hF]; omega)
  obtain rfl : K = pre.length := by omega
  obtain rfl : k' = k := by omega
  have hP : placeH h ((L : Int) + 1) = largeH h ((L : Int) + 1) k' := by unfold placeH; rw [if_pos hnd, hnk]
  have hH : largeH h ((L : Int) + 1) k' = { h with pages := (pre ++ ((⟨2, h.space, (L : Int) + 1, 0⟩ : Pg) :: List.replicate (k' - 1) ⟨3, h.space, 0, 0⟩)) ++ List.replicate (m - k') Pg.zero } := by
    unfold largeH
    rw [e2, e6, epg, put_pre hk1 (by omega)]
  have hok := (step_proper (k := kk) (b := b) ok (by rw [hnk]; omega) hpk).1
  have hpg : (stepH h kk L b).pages = (pre ++ ((⟨2, h.space, (L : Int) + 1, 0⟩ : Pg) :: List.replicate (k' - 1) ⟨3, h.space, 0, 0⟩)) ++ List.replicate (m - k') Pg.zero := by unfold stepH; simp only; rw [hP, hH]
  have hfull2 : ∀ z ∈ pre ++ ((⟨2, h.space, (L : Int) + 1, 0⟩ : Pg) :: List.replicate (k' - 1) ⟨3, h.space, 0, 0⟩), ¬ z.kind = 0 := fun z hz => by
    rcases List.mem_append.1 hz with h | h
    · exact hfull z h
    · rcases List.mem_cons.1 h with h | h
      · subst h; simp
      · obtain ⟨-, rfl⟩ := List.mem_replicate.1 h; simp
  have hl2 : (pre ++ ((⟨2, h.space, (L : Int) + 1, 0⟩ : Pg) :: List.replicate (k' - 1) ⟨3, h.space, 0, 0⟩)).length = (t + 1) * k' := by
    rw [List.length_append, List.length_cons, List.length_replicate, hl, Nat.add_mul, Nat.one_mul]; omega
  refine ⟨hpk, ⟨hok, ?_, ?_, _, m - k', hpg, hfull2, hl2⟩, ?_⟩
  · unfold stepH; simp only; rw [hP, hH]; exact epw
  · unfold stepH; simp only; rw [hP, hH]; exact enp
  · rw [hpg, inUse_pre hfull2, hl2, Nat.add_mul, Nat.one_mul]; omega
theorem ChL.stop {P M k L : Nat} {h : Hp} (hc : confB P M = true) (hk1 : 1 ≤ k) (hn : needV P M ((L : Int) + 1) = k) (hh : ChL P M k (M / 4 / k) h) : placeOK h (L + 1) = false := by
  obtain ⟨k1, k2, -, k4, k5⟩ := conf_parts hc
  obtain ⟨ok, epw, enp, pre, m, epg, hfull, hl⟩ := hh
  have hlim : limitV h.pw h.np = (M : Int) / 4 := by rw [epw, enp]; exact limit_ok hc
  have hU : inUse h.pages = pre.length := by rw [epg]; exact inUse_pre hfull
  have hnk : needV h.pw h.np ((L : Int) + 1) = k := by rw [epw, enp]; exact hn
  have hnd : 0 < needV h.pw h.np ((L : Int) + 1) := by rw [hnk]; omega
  have h2 := Nat.lt_div_mul_add (a := M / 4) (b := k) (by omega)
  unfold placeOK
  rw [if_pos hnd, hnk]
  exact decide_eq_false fun c => c (Or.inr (by rw [hlim, hU, hl]; omega))

/-- As many objects as fit. -/
def mostN (P M L : Nat) : Nat := if 0 < needV P M ((L : Int) + 1) then M / 4 / (needV P M ((L : Int) + 1)).toNat else M / 4 * (P / (L + 1))
theorem chain {P M L : Nat} (hc : confB P M = true) (hn : ¬ needV P M ((L : Int) + 1) = -1) (hok : okP ⟨P, M, List.replicate ((M : Int) * P).toNat 0, List.replicate (M : Int).toNat Pg.zero, 0, -1⟩ = true) :
    ∃ Ch : Nat → Hp → Prop, Ch 0 ⟨P, M, List.replicate ((M : Int) * P).toNat 0, List.replicate (M : Int).toNat Pg.zero, 0, -1⟩ ∧ (∀ t h, Ch t h → okP h = true ∧ h.pw = P ∧ h.np = M) ∧
      (∀ t h, Ch t h → t < mostN P M L → placeOK h (L + 1) = true ∧ Ch (t + 1) (stepH h 3 L 0) ∧ (inUse (stepH h 3 L 0).pages : Int) ≤ (M : Int) / 4) ∧ (∀ h, Ch (mostN P M L) h → placeOK h (L + 1) = false) := by
  by_cases hk : 0 < needV P M ((L : Int) + 1)
  · obtain ⟨k, hkk⟩ := Int.eq_ofNat_of_zero_le (show 0 ≤ needV P M ((L : Int) + 1) by omega)
    have hm : mostN P M L = M / 4 / k := by unfold mostN; rw [if_pos hk, hkk, Int.toNat_natCast]
    rw [hm]
    exact ⟨ChL P M k, ChL.start hok, fun t h c => ⟨c.ok, c.pw, c.np⟩, fun t h c ht => ChL.step hc (by omega) hkk c ht, fun h c => ChL.stop hc (by omega) hkk c⟩
  · have h0 : needV P M ((L : Int) + 1) = 0 := by have := needV_ge P M ((L : Int) + 1); omega
    have hm : mostN P M L = M / 4 * (P / (L + 1)) := by unfold mostN; rw [if_neg hk]
    rw [hm]
    exact ⟨ChS P M (L + 1), ChS.start hc hok, fun t h c => ⟨c.ok, c.pw, c.np⟩, fun t h c ht => ChS.step hc rfl h0 c ht, fun h c => ChS.stop hc rfl h0 c⟩
theorem table_none (pw np : Int) (ps : List Pg) : ∀ (l : List Pg) (i : Nat), (∀ x ∈ l, x = Pg.zero) → tableFrom pw np ps i l = true
  | [], _, _ => rfl
  | x :: r, i, h => by
    have hx := h x (by simp)
    subst hx
    rw [tableFrom, table_none pw np ps r (i + 1) fun y hy => h y (by simp [hy])]
    rfl
theorem empty_ok {pw np : Int} (hc : confB pw np = true) : okP ⟨pw, np, List.replicate (np * pw).toNat 0, List.replicate np.toNat Pg.zero, 0, -1⟩ = true := by
  obtain ⟨g1, g2⟩ := conf_prod hc
  obtain ⟨k1, k2, -, k4, k5⟩ := conf_parts hc
  exact okP_mk hc (by simp only; rw [List.length_replicate]; omega) (by simp only; rw [List.length_replicate]; omega) rfl rfl (table_none _ _ _ _ _ fun x hx => (List.mem_replicate.1 hx).2)
end Go.Proofs.Ytbenklhbcgiacaa
