/- Plain mathematics of layer 14: what the calls answer is valid. -/
import Derived.Test.YtapfbnhcndifhaaScR
set_option linter.unusedVariables false
namespace Go.Proofs.Ytapfbnhcndifhaa
open Go.RowKit

/-- Valid local handles, as facts. -/
structure Good (l : Loc) : Prop where
  iss : issAll l.is = true
  few : l.sc.length ≤ 64
  none : l.sc.length = 0 → l.sl.length = 0
  fr : ∀ k s, l.sc[k]? = some s → FrOk l k s
  cnt : ∀ k s, l.sc[k]? = some s → (cnt (part l.sl s.fr (endOf l k)) : Int) ≤ s.cp
  slot : ∀ k s, l.sl[k]? = some s → slotB l k s = true
theorem good_iff {l : Loc} : okB l = true ↔ Good l := by
  rw [okB_iff]
  constructor
  · rintro ⟨h1, h2, h3⟩
    refine ⟨h1, ?_, fun h => ?_, fun k s hs => okSc_fr h2 hs, fun k s hs => okSc_cnt h2 hs, okSl_iff.1 h3⟩
    · cases h0 : l.sc[0]? with
      | none => have := List.getElem?_eq_none_iff.1 h0; omega
      | some s => exact (okSc_first h2 h0).2.1
    · rw [okSc_nil h] at h2; exact of_decide_eq_true h2
  · rintro ⟨h1, h2, h3, h4, h5, h6⟩
    exact ⟨h1, okSc_of h2 h3 h4 h5, okSl_iff.2 h6⟩
theorem Good.st_ge {l : Loc} (h : Good l) : ∀ (k : Nat) (s : Sl), l.sl[k]? = some s → (k : Int) + 1 ≤ s.st ∧ s.st ≤ l.is.length := by
  intro k
  induction k with
  | zero =>
    intro s hs
    have := issB_iff.1 (slotB_iff.1 (h.slot 0 s hs)).2.1
    omega
  | succ j ih =>
    intro s hs
    obtain ⟨s', hs'⟩ : ∃ s', l.sl[j]? = some s' := ⟨_, List.getElem?_eq_getElem (by have := (List.getElem?_eq_some_iff.1 hs).1; omega)⟩
    have h5 := (slotB_iff.1 (h.slot (j + 1) s hs)).1
    rw [prevSt_succ hs'] at h5
    have := ih s' hs'
    have := issB_iff.1 (slotB_iff.1 (h.slot (j + 1) s hs)).2.1
    omega
theorem Good.len_le {l : Loc} (h : Good l) : l.sl.length ≤ l.is.length := by
  cases hl : l.sl.length with
  | zero => omega
  | succ k =>
    obtain ⟨s, hs⟩ : ∃ s, l.sl[k]? = some s := ⟨_, List.getElem?_eq_getElem (by omega)⟩
    have := h.st_ge k s hs
    omega
theorem part_append {a b : List Sl} {x y : Int} (h : y ≤ a.length) (h0 : 0 ≤ x) : part (a ++ b) x y = part a x y := by
  unfold part
  by_cases hx : x.toNat ≤ a.length
  · rw [List.drop_append_of_le_length hx, List.take_append_of_le_length (by rw [List.length_drop]; omega)]
  · have e : (y - x).toNat = 0 := by omega
    rw [e]; simp
theorem part_snoc {a : List Sl} {s : Sl} {x : Int} (h0 : 0 ≤ x) (h1 : x ≤ a.length) : part (a ++ [s]) x (a.length + 1) = part a x a.length ++ [s] := by
  unfold part
  rw [List.drop_append_of_le_length (by omega), List.take_of_length_le (by simp; omega), List.take_of_length_le (by simp; omega)]
theorem prevSt_append {a b : List Sl} {k : Nat} (h : k ≤ a.length) : prevSt (a ++ b) k = prevSt a k := by
  cases k with
  | zero => rfl
  | succ j => simp only [prevSt]; rw [List.getElem?_append_left (by omega)]
theorem prevFr_append {a b : List Sp} {k : Nat} (h : k ≤ a.length) : prevFr (a ++ b) k = prevFr a k := by
  cases k with
  | zero => rfl
  | succ j => simp only [prevFr]; rw [List.getElem?_append_left (by omega)]
theorem issB_append {a b : List Int} {i st : Int} (h : issB a i st = true) : issB (a ++ b) i st = true := by
  obtain ⟨h1, h2, h3⟩ := issB_iff.1 h
  exact issB_iff.2 ⟨h1, by rw [List.length_append]; omega, by rw [List.getElem?_append_left (by omega)]; exact h3⟩
/-- What is known where New succeeds. -/
theorem room_facts {l : Loc} {ref : Int} (h : roomV l ref = 0) : okB l = true ∧ ref ≠ 0 ∧ ∃ s, l.sc[l.sc.length - 1]? = some s ∧ (cnt (part l.sl s.fr l.sl.length) : Int) < s.cp ∧ l.is.length < 4096 := by
  obtain ⟨h1, h2⟩ := room_ok h
  refine ⟨h1, h2, ?_⟩
  cases h3 : l.sc[l.sc.length - 1]? with
  | none => rw [roomV_b h1 h2 (by have := List.getElem?_eq_none_iff.1 h3; omega)] at h; omega
  | some s =>
    rw [roomV_c h1 h2 h3] at h
    have h5 := (last_ok h1 h3).2.2.2.1
    have h6 := (issAll_iff.1 (okB_iff.1 h1).1).1
    refine ⟨s, rfl, ?_, ?_⟩
    · by_cases e : (cnt (part l.sl s.fr l.sl.length) : Int) = s.cp
      · rw [if_pos e] at h; omega
      · omega
    · by_cases e : (cnt (part l.sl s.fr l.sl.length) : Int) = s.cp
      · rw [if_pos e] at h; omega
      · rw [if_neg e] at h
        by_cases e2 : l.is.length = 4096
        · rw [if_pos e2] at h; omega
        · omega
theorem new_good {l : Loc} {ref : Int} (h : roomV l ref = 0) : Good ⟨l.sl ++ [⟨l.is.length + 1, ref, true⟩], l.sc, l.is ++ [(l.sl.length : Int)]⟩ := by
  obtain ⟨ho, hre, s0, hs0, hc0, hlt⟩ := room_facts h
  have g := good_iff.1 ho
  have hll := g.len_le
  refine ⟨?_, g.few, fun e => ?_, fun k s hs => ?_, fun k s hs => ?_, fun k s hs => ?_⟩
  · obtain ⟨h1, h2⟩ := issAll_iff.1 g.iss
    refine issAll_iff.2 ⟨by simp; omega, fun x hx => ?_⟩
    rcases List.mem_append.1 hx with hx | hx
    · exact h2 x hx
    · simp at hx; omega
  · have := (List.getElem?_eq_some_iff.1 hs0).1
    simp only at e; omega
  · obtain ⟨h1, h2, h3, h4⟩ := g.fr k s hs
    exact ⟨h1, h2, by simp; omega, h4⟩
  · have hs : l.sc[k]? = some s := hs
    have h0 := fr_nonneg g.fr k s hs
    cases hn : l.sc[k + 1]? with
    | none =>
      have hk : k = l.sc.length - 1 := by have := List.getElem?_eq_none_iff.1 hn; have := (List.getElem?_eq_some_iff.1 hs).1; omega
      subst hk
      have hs' : l.sc[l.sc.length - 1]? = some s := hs
      rw [hs0] at hs'; cases hs'
      have e : endOf (⟨l.sl ++ [⟨l.is.length + 1, ref, true⟩], l.sc, l.is ++ [(l.sl.length : Int)]⟩ : Loc) (l.sc.length - 1) = (l.sl.length : Int) + 1 := by unfold endOf; simp only; rw [hn]; simp
      rw [e]
      simp only
      rw [part_snoc h0 (g.fr _ _ hs0).2.2.1, cnt_append]
      simp only [Go.Proofs.Ytapfbnhcndifhaa.cnt]
      simp; omega
    | some s' =>
      have e : endOf (⟨l.sl ++ [⟨l.is.length + 1, ref, true⟩], l.sc, l.is ++ [(l.sl.length : Int)]⟩ : Loc) k = endOf l k := (endOf_in (l := ⟨l.sl ++ [⟨l.is.length + 1, ref, true⟩], l.sc, l.is ++ [(l.sl.length : Int)]⟩) hn).trans (endOf_in (l := l) hn).symm
      rw [e]
      simp only
      rw [part_append (fr_end g.fr hs).2 h0]
      exact g.cnt k s hs
  · by_cases hk : k < l.sl.length
    · have hs' : l.sl[k]? = some s := by simp only at hs; rw [List.getElem?_append_left hk] at hs; exact hs
      obtain ⟨h1, h2, h3⟩ := slotB_iff.1 (g.slot k s hs')
      exact slotB_iff.2 ⟨by simp only; rw [prevSt_append (by omega)]; exact h1, issB_append h2, h3⟩
    · have hk : k = l.sl.length := by have := (List.getElem?_eq_some_iff.1 hs).1; simp at this; omega
      subst hk
      simp only at hs
      rw [List.getElem?_append_right (Nat.le_refl _)] at hs
      simp at hs
      subst hs
      refine slotB_iff.2 ⟨?_, issB_iff.2 ⟨by simp only; omega, by simp, ?_⟩, by simpa using hre⟩
      · simp only
        rw [prevSt_append (Nat.le_refl _)]
        cases hl : l.sl.length with
        | zero => simp only [prevSt]; omega
        | succ j =>
          obtain ⟨s', hs'⟩ : ∃ s', l.sl[j]? = some s' := ⟨_, List.getElem?_eq_getElem (by omega)⟩
          rw [prevSt_succ hs']
          have := (g.st_ge j s' hs').2
          omega
      · simp only
        have e : ((l.is.length : Int) + 1 - 1).toNat = l.is.length := by omega
        rw [e, List.getElem?_append_right (Nat.le_refl _)]
        simp
theorem new_ok {l : Loc} {ref : Int} (h : roomV l ref = 0) : okB (newL l ref) = true := by
  unfold newL; rw [if_pos h]; exact good_iff.2 (new_good h)
theorem cnt_set_le : ∀ (l : List Sl) (j : Nat) (st rf : Int), cnt (l.set j ⟨st, rf, false⟩) ≤ cnt l
  | [], j, st, rf => by simp
  | s :: r, 0, st, rf => by simp [cnt]; split <;> omega
  | s :: r, j + 1, st, rf => by
    have := cnt_set_le r j st rf
    simp only [List.set_cons_succ, cnt]; split <;> omega
theorem part_set {l : List Sl} {j : Nat} {y : Sl} {a b : Int} : cnt (part (l.set j y) a b) ≤ cnt (part l a b) ∨ y.lv = true := by
  cases hy : y.lv
  · left
    obtain ⟨st, rf, lv⟩ := y
    simp only at hy
    subst hy
    unfold part
    rw [List.drop_set]
    split
    · exact Nat.le_refl _
    · rw [List.take_set]; exact cnt_set_le _ _ _ _
  · right; rfl
theorem prevSt_set {l : List Sl} {j k : Nat} {s y : Sl} (hs : l[j]? = some s) (hy : y.st = s.st) : prevSt (l.set j y) k = prevSt l k := by
  cases k with
  | zero => rfl
  | succ i =>
    simp only [prevSt]
    rw [List.getElem?_set]
    by_cases hij : j = i
    · subst hij
      rw [if_pos rfl, if_pos (List.getElem?_eq_some_iff.1 hs).1, hs]; exact hy
    · rw [if_neg hij]
theorem del_good {l : Loc} {j : Nat} {st : Int} {s : Sl} (ho : okB l = true) (hs : l.sl[j]? = some s) (hst : s.st = st) : Good ⟨l.sl.set j ⟨st, 0, false⟩, l.sc, l.is⟩ := by
  have g := good_iff.1 ho
  refine ⟨g.iss, g.few, fun e => by simpa using g.none e, fun k s hs => ?_, fun k s' hs' => ?_, fun k s' hs' => ?_⟩
  · obtain ⟨h1, h2, h3, h4⟩ := g.fr k s hs
    exact ⟨h1, h2, by simpa using h3, h4⟩
  · have h5 := g.cnt k s' hs'
    have e : endOf (⟨l.sl.set j ⟨st, 0, false⟩, l.sc, l.is⟩ : Loc) k = endOf l k := by unfold endOf; simp
    rw [e]
    simp only
    rcases part_set (l := l.sl) (j := j) (y := ⟨st, 0, false⟩) (a := s'.fr) (b := endOf l k) with h | h
    · omega
    · cases h
  · simp only at hs'
    rw [List.getElem?_set] at hs'
    by_cases hij : j = k
    · subst hij
      rw [if_pos rfl, if_pos (List.getElem?_eq_some_iff.1 hs).1] at hs'
      cases hs'
      obtain ⟨h1, h2, h3⟩ := slotB_iff.1 (g.slot j s hs)
      exact slotB_iff.2 ⟨by simp only; rw [prevSt_set hs hst.symm, ← hst]; exact h1, by rw [← hst]; exact h2, by simp⟩
    · rw [if_neg hij] at hs'
      obtain ⟨h1, h2, h3⟩ := slotB_iff.1 (g.slot k s' hs')
      exact slotB_iff.2 ⟨by simp only; rw [prevSt_set hs hst.symm]; exact h1, h2, h3⟩
theorem del_ok {l : Loc} {i st : Int} (h : findV l i st = 0) : okB (delL l i st) = true := by
  obtain ⟨j, s, rfl, ho, h2, hx, hst, hlv⟩ := findV_zero h
  unfold delL; rw [if_pos h, Int.toNat_natCast]; exact good_iff.2 (del_good ho hx hst)
theorem open_facts {l : Loc} {c : Int} {base : Bool} (h : openE l c base = 0) : okB l = true ∧ (0 ≤ c ∧ c ≤ 64) ∧ (l.sc.length = 0 → base = true) ∧ l.sc.length < 64 := by
  unfold openE at h
  by_cases h1 : okB l = false ∨ capB c = false
  · rw [if_pos h1] at h; omega
  · rw [if_neg h1] at h
    have ho : okB l = true := by cases ho : okB l; exact absurd (Or.inl ho) h1; rfl
    have hc : capB c = true := by cases hc : capB c; exact absurd (Or.inr hc) h1; rfl
    by_cases h2 : base = false ∧ l.sc.length = 0
    · rw [if_pos h2] at h; omega
    · rw [if_neg h2] at h
      by_cases h3 : l.sc.length = 64
      · rw [if_pos h3] at h; omega
      · refine ⟨ho, capB_iff.1 hc, fun e => ?_, by have := (good_iff.1 ho).few; omega⟩
        cases base
        · exact absurd ⟨rfl, e⟩ h2
        · rfl
theorem open_good {l : Loc} {c : Int} {base : Bool} (h : openE l c base = 0) : Good ⟨l.sl, l.sc ++ [⟨l.sl.length, c, base⟩], l.is⟩ := by
  obtain ⟨ho, hc, hb, h64⟩ := open_facts h
  have g := good_iff.1 ho
  refine ⟨g.iss, by simp; omega, fun e => by simp at e, fun k s hs => ?_, fun k s hs => ?_, fun k s hs => ?_⟩
  · simp only at hs
    by_cases hk : k < l.sc.length
    · rw [List.getElem?_append_left hk] at hs
      obtain ⟨h1, h2, h3, h4⟩ := g.fr k s hs
      exact ⟨h1, by simp only; rw [prevFr_append (by omega)]; exact h2, h3, h4⟩
    · have hk : k = l.sc.length := by have := (List.getElem?_eq_some_iff.1 hs).1; simp at this; omega
      subst hk
      rw [List.getElem?_append_right (Nat.le_refl _)] at hs
      simp at hs
      subst hs
      refine ⟨fun e => ⟨by simp only; rw [g.none e]; rfl, hb e⟩, ?_, Int.le_refl _, hc⟩
      simp only
      rw [prevFr_append (Nat.le_refl _)]
      cases hl : l.sc.length with
      | zero => simp only [prevFr]; omega
      | succ j =>
        obtain ⟨s', hs'⟩ : ∃ s', l.sc[j]? = some s' := ⟨_, List.getElem?_eq_getElem (by omega)⟩
        rw [prevFr_succ hs']
        exact (g.fr j s' hs').2.2.1
  · simp only at hs
    by_cases hk : k < l.sc.length
    · rw [List.getElem?_append_left hk] at hs
      have e : endOf (⟨l.sl, l.sc ++ [⟨l.sl.length, c, base⟩], l.is⟩ : Loc) k = endOf l k := by
        by_cases hk2 : k + 1 < l.sc.length
        · have hx : l.sc[k + 1]? = some (l.sc[k + 1]'hk2) := List.getElem?_eq_getElem _
          exact (endOf_in (k := k) (s := l.sc[k + 1]'hk2) (by show (l.sc ++ [_])[k + 1]? = _; rw [List.getElem?_append_left hk2]; exact hx)).trans (endOf_in hx).symm
        · exact (endOf_in (k := k) (s := ⟨l.sl.length, c, base⟩) (by show (l.sc ++ [_])[k + 1]? = _; rw [List.getElem?_append_right (by omega), show k + 1 - l.sc.length = 0 by omega]; rfl)).trans (endOf_out (l := l) (by omega)).symm
      rw [e]; exact g.cnt k s hs
    · have hk : k = l.sc.length := by have := (List.getElem?_eq_some_iff.1 hs).1; simp at this; omega
      subst hk
      rw [List.getElem?_append_right (Nat.le_refl _)] at hs
      simp at hs
      subst hs
      rw [endOf_out (by simp)]
      simp only
      unfold part
      rw [show ((l.sl.length : Int) - l.sl.length).toNat = 0 by omega]
      simp [Go.Proofs.Ytapfbnhcndifhaa.cnt]; omega
  · exact g.slot k s hs
theorem open_ok {l : Loc} {c : Int} {base : Bool} (h : openE l c base = 0) : okB (openL l c base) = true := by
  unfold openL; rw [if_pos h]; exact good_iff.2 (open_good h)

/-- The handles without the scopes from k on. -/
def cutL (l : Loc) (k : Nat) (s : Sp) : Loc := ⟨l.sl.take s.fr.toNat, l.sc.take k, l.is⟩
theorem fr_mono {l : Loc} (h : ∀ k s, l.sc[k]? = some s → FrOk l k s) {j : Nat} {s : Sp} (hs : l.sc[j]? = some s) : ∀ (d : Nat) (t : Sp), l.sc[j + d]? = some t → s.fr ≤ t.fr
  | 0, t, ht => by rw [Nat.add_zero] at ht; rw [hs] at ht; cases ht; exact Int.le_refl _
  | d + 1, t, ht => by
    obtain ⟨t', ht'⟩ : ∃ t', l.sc[j + d]? = some t' := ⟨_, List.getElem?_eq_getElem (by have := (List.getElem?_eq_some_iff.1 ht).1; omega)⟩
    have h1 := fr_mono h hs d t' ht'
    have h2 := (h (j + d + 1) t ht).2.1
    rw [prevFr_succ ht'] at h2
    omega
theorem cut_good {l : Loc} {k : Nat} {s : Sp} (ho : okB l = true) (hs : l.sc[k]? = some s) : Good (cutL l k s) := by
  have g := good_iff.1 ho
  have h0 := fr_nonneg g.fr k s hs
  have hfr := (g.fr k s hs).2.2.1
  have hkl := (List.getElem?_eq_some_iff.1 hs).1
  have hlen : (l.sl.take s.fr.toNat).length = s.fr.toNat := by rw [List.length_take]; omega
  have hpart : ∀ a b : Int, b ≤ s.fr → 0 ≤ a → part (l.sl.take s.fr.toNat) a b = part l.sl a b := by
    intro a b hb ha
    rw [← part_append (a := l.sl.take s.fr.toNat) (b := l.sl.drop s.fr.toNat) (by rw [hlen]; omega) ha, List.take_append_drop]
  have hget : ∀ (j : Nat) (t : Sp), (l.sc.take k)[j]? = some t → j < k ∧ l.sc[j]? = some t := by
    intro j t ht
    rw [List.getElem?_take] at ht
    by_cases hj : j < k
    · rw [if_pos hj] at ht; exact ⟨hj, ht⟩
    · rw [if_neg hj] at ht; cases ht
  have hpf : ∀ j, j ≤ k → prevFr (l.sc.take k) j = prevFr l.sc j := by
    intro j hj
    cases j with
    | zero => rfl
    | succ i => simp only [prevFr]; rw [List.getElem?_take, if_pos (by omega)]
  unfold cutL
  refine ⟨g.iss, by have := g.few; simp; omega, fun e => ?_, fun j t ht => ?_, fun j t ht => ?_, fun j t ht => ?_⟩
  · simp only at e
    rw [List.length_take] at e
    simp only
    rw [hlen]
    have : k = 0 := by omega
    subst this
    have := ((g.fr 0 s hs).1 rfl).1
    omega
  · obtain ⟨hj, ht'⟩ := hget j t ht
    obtain ⟨h1, h2, h3, h4⟩ := g.fr j t ht'
    refine ⟨h1, by simp only; rw [hpf j (by omega)]; exact h2, ?_, h4⟩
    simp only
    rw [hlen]
    have := fr_mono g.fr ht' (k - j) s (by rw [Nat.add_sub_cancel' (by omega)]; exact hs)
    omega
  · obtain ⟨hj, ht'⟩ := hget j t ht
    have e : endOf (⟨l.sl.take s.fr.toNat, l.sc.take k, l.is⟩ : Loc) j = endOf l j := by
      by_cases hj2 : j + 1 < k
      · obtain ⟨t', ht2⟩ : ∃ t', l.sc[j + 1]? = some t' := ⟨_, List.getElem?_eq_getElem (by omega)⟩
        rw [endOf_in (l := l) ht2, endOf_in (l := ⟨l.sl.take s.fr.toNat, l.sc.take k, l.is⟩) (s := t') (by rw [List.getElem?_take, if_pos hj2]; exact ht2)]
      · have hjk : j + 1 = k := by omega
        rw [endOf_out (l := ⟨l.sl.take s.fr.toNat, l.sc.take k, l.is⟩) (by simp; omega), endOf_in (l := l) (s := s) (by rw [hjk]; exact hs)]
        simp only
        rw [hlen]; omega
    rw [e]
    simp only
    have hle : endOf l j ≤ s.fr := by
      obtain ⟨t', ht2⟩ : ∃ t', l.sc[j + 1]? = some t' := ⟨_, List.getElem?_eq_getElem (by omega)⟩
      rw [endOf_in ht2]
      exact fr_mono g.fr ht2 (k - (j + 1)) s (by rw [Nat.add_sub_cancel' (by omega)]; exact hs)
    rw [hpart _ _ hle (fr_nonneg g.fr j t ht')]
    exact g.cnt j t ht'
  · simp only at ht
    rw [List.getElem?_take] at ht
    by_cases hj : j < s.fr.toNat
    · rw [if_pos hj] at ht
      obtain ⟨h1, h2, h3⟩ := slotB_iff.1 (g.slot j t ht)
      refine slotB_iff.2 ⟨?_, h2, h3⟩
      simp only
      have : prevSt (l.sl.take s.fr.toNat) j = prevSt l.sl j := by
        rw [← prevSt_append (a := l.sl.take s.fr.toNat) (b := l.sl.drop s.fr.toNat) (by rw [hlen]; omega), List.take_append_drop]
      rw [this]; exact h1
    · rw [if_neg hj] at ht; cases ht
end Go.Proofs.Ytapfbnhcndifhaa
