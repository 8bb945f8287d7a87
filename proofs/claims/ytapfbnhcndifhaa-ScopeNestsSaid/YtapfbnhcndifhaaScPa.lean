/- Plain mathematics of layer 14: as many issued pairs are alive as there are live slots. -/
import Derived.Test.YtapfbnhcndifhaaScPy
set_option linter.unusedVariables false
namespace Go.Proofs.Ytapfbnhcndifhaa
open Go.RowKit

theorem st_lt {l : Loc} (h : Good l) {j : Nat} {s : Sl} (hs : l.sl[j]? = some s) : ∀ (d : Nat) (t : Sl), l.sl[j + d + 1]? = some t → s.st < t.st := by
  intro d
  induction d with
  | zero =>
    intro t ht
    have h5 := (slotB_iff.1 (h.slot (j + 0 + 1) t ht)).1
    rw [show j + 0 + 1 = j + 1 by omega, prevSt_succ hs] at h5
    exact h5
  | succ d ih =>
    intro t ht
    obtain ⟨u, hu⟩ : ∃ u, l.sl[j + d + 1]? = some u := ⟨_, List.getElem?_eq_getElem (by have := (List.getElem?_eq_some_iff.1 ht).1; omega)⟩
    have h5 := (slotB_iff.1 (h.slot (j + (d + 1) + 1) t ht)).1
    rw [show j + (d + 1) + 1 = (j + d + 1) + 1 by omega, prevSt_succ hu] at h5
    have := ih u hu
    omega
/-- How many of the first k pairs are alive. -/
def aliveV (l : Loc) : Nat → Nat
  | 0 => 0
  | k + 1 => aliveV l k + if findV l ((l.is[k]?).getD 0) ((k : Int) + 1) = 0 then 1 else 0
theorem alive_take {l : Loc} {rs : List Int} (h : Pl l rs) : ∀ k : Nat, k ≤ l.is.length → ∃ m : Nat, m ≤ l.sl.length ∧ (∀ (j : Nat) (s : Sl), j < m → l.sl[j]? = some s → s.st ≤ k) ∧ (∀ (j : Nat) (s : Sl), m ≤ j → l.sl[j]? = some s → (k : Int) < s.st) ∧ aliveV l k = cnt (l.sl.take m) := by
  have g := good_iff.1 h.ok
  intro k
  induction k with
  | zero => exact fun _ => ⟨0, by omega, fun j s hj => absurd hj (Nat.not_lt_zero _), fun j s _ hs => by have := g.st_ge j s hs; omega, rfl⟩
  | succ k ih =>
    intro hk
    obtain ⟨m, hm, h1, h2, h3⟩ := ih (by omega)
    by_cases he : ∃ s, l.sl[m]? = some s ∧ s.st = (k : Int) + 1
    · obtain ⟨s, hs, hst⟩ := he
      have hi := (slotB_iff.1 (g.slot m s hs)).2.1
      have hik : l.is[k]? = some (m : Int) := by
        have := (issB_iff.1 hi).2.2
        rw [hst, show ((k : Int) + 1 - 1).toNat = k by omega] at this
        exact this
      have hml := (List.getElem?_eq_some_iff.1 hs).1
      refine ⟨m + 1, by omega, fun j t hj ht => ?_, fun j t hj ht => ?_, ?_⟩
      · by_cases e : j = m
        · subst e; rw [hs] at ht; cases ht; omega
        · have := h1 j t (by omega) ht; omega
      · obtain ⟨d, rfl⟩ : ∃ d, j = m + d + 1 := ⟨j - m - 1, by omega⟩
        have := st_lt g hs d t ht
        omega
      · rw [aliveV, h3, cnt_take hs, hik]
        simp only [Option.getD_some]
        rw [hst] at hi
        cases hl : s.lv
        · rw [if_neg (by have := findV_dead h.ok hi hs hst hl; omega), if_neg (by decide)]
        · rw [if_pos (findV_live h.ok hi hs hst hl), if_pos rfl]
    · have hno : ∀ (j : Nat) (s : Sl), l.sl[j]? = some s → s.st ≠ (k : Int) + 1 := by
        intro j s hs e
        by_cases hj : j < m
        · have := h1 j s hj hs; omega
        · by_cases e2 : j = m
          · subst e2; exact he ⟨s, hs, e⟩
          · obtain ⟨u, hu⟩ : ∃ u, l.sl[m]? = some u := ⟨_, List.getElem?_eq_getElem (by have := (List.getElem?_eq_some_iff.1 hs).1; omega)⟩
            obtain ⟨d, rfl⟩ : ∃ d, j = m + d + 1 := ⟨j - m - 1, by omega⟩
            have h4 := st_lt g hu d s hs
            have h5 := h2 m u (Nat.le_refl _) hu
            omega
      refine ⟨m, hm, fun j s hj hs => by have := h1 j s hj hs; omega, fun j s hj hs => by have := h2 j s hj hs; have := hno j s hs; omega, ?_⟩
      rw [aliveV, h3, if_neg]
      · rfl
      · intro hf
        obtain ⟨j, s, _, _, _, hs, hst, _⟩ := findV_zero hf
        exact hno j s hs hst
theorem alive_all {l : Loc} {rs : List Int} (h : Pl l rs) : aliveV l l.is.length = cnt l.sl := by
  obtain ⟨m, hm, h1, h2, h3⟩ := alive_take h l.is.length (Nat.le_refl _)
  have g := good_iff.1 h.ok
  have : m = l.sl.length := by
    rcases Nat.lt_or_ge m l.sl.length with hlt | hge
    · have hs : l.sl[m]? = some l.sl[m] := List.getElem?_eq_getElem hlt
      have := h2 m _ (Nat.le_refl _) hs
      have := g.st_ge m _ hs
      omega
    · omega
  rw [h3, this, List.take_length]
/-- What Get answers to an issued pair. -/
theorem get_issued {l : Loc} {rs : List Int} (h : Pl l rs) {k : Nat} {i : Int} (hi : l.is[k]? = some i) : (findV l i ((k : Int) + 1) = 0 ∧ rs[k]? = some (getV l i ((k : Int) + 1))) ∨ findV l i ((k : Int) + 1) = 7 ∨ findV l i ((k : Int) + 1) = 8 := by
  have hk := (List.getElem?_eq_some_iff.1 hi).1
  have hb : issB l.is i ((k : Int) + 1) = true := issB_iff.2 ⟨by omega, by omega, by rw [show ((k : Int) + 1 - 1).toNat = k by omega]; exact hi⟩
  obtain ⟨j, rfl, _⟩ := iss_nat h.ok hb
  cases hs : l.sl[j]? with
  | none => exact .inr (.inl (findV_out h.ok hb (List.getElem?_eq_none_iff.1 hs)))
  | some s =>
    by_cases hst : s.st = (k : Int) + 1
    · cases hl : s.lv
      · exact .inr (.inr (findV_dead h.ok hb hs hst hl))
      · have hf := findV_live h.ok hb hs hst hl
        refine .inl ⟨hf, ?_⟩
        have h1 := h.rf j s hs hl
        rw [hst, show ((k : Int) + 1 - 1).toNat = k by omega] at h1
        rw [getV_yes hf hs]; exact h1
    · exact .inr (.inl (findV_st h.ok hb hs hst))
theorem get_forged {l : Loc} {rs : List Int} (h : Pl l rs) {i st : Int} (hn : (i, st) ∉ pairsFrom 0 l.is) : findV l i st = 6 := by
  refine findV_b h.ok (Bool.eq_false_iff.2 fun hb => hn ?_)
  obtain ⟨h1, h2, h3⟩ := issB_iff.1 hb
  have h4 : (pairsFrom 0 l.is)[(st - 1).toNat]? = some (i, st) := by
    rw [pairs_get, h3]
    simp only [Option.map_some, Nat.zero_add]
    rw [show (((st - 1).toNat : Nat) : Int) + 1 = st by omega]
  exact List.mem_of_getElem? h4
theorem pairs_apart {xs : List Int} {j k : Nat} {a b : Int × Int} (ha : (pairsFrom 0 xs)[j]? = some a) (hb : (pairsFrom 0 xs)[k]? = some b) (h : j < k) : a.2 ≠ b.2 := by
  rw [pairs_get] at ha hb
  cases hx : xs[j]? with
  | none => rw [hx] at ha; cases ha
  | some x =>
    cases hy : xs[k]? with
    | none => rw [hy] at hb; cases hb
    | some y =>
      rw [hx] at ha; rw [hy] at hb
      cases ha; cases hb
      simp only; omega
end Go.Proofs.Ytapfbnhcndifhaa
