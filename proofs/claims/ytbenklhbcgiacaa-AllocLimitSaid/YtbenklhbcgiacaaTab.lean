/- Plain mathematics: which changes keep a page table proper. -/
import Derived.Test.YtbenklhbcgiacaaPgW
import Derived.Test.YtbenklhbcgiacaaTkA
namespace Go.Proofs.Ytbenklhbcgiacaa
open Go.RowKit

theorem tableFrom_iff (pw np : Int) (ps : List Pg) : ∀ (l : List Pg) (i : Nat), tableFrom pw np ps i l = true ↔ ∀ j x, l[j]? = some x → pageOK pw np ps (i + j) x = true
  | [], i => by simp [tableFrom]
  | y :: r, i => by
    rw [tableFrom, Bool.and_eq_true, tableFrom_iff pw np ps r (i + 1)]
    constructor
    · rintro ⟨h1, h2⟩ j x hx
      cases j with
      | zero => simp at hx; subst hx; exact h1
      | succ j => rw [List.getElem?_cons_succ] at hx; have := h2 j x hx; rwa [show i + 1 + j = i + (j + 1) by omega] at this
    · intro h
      refine ⟨h 0 y rfl, fun j x hx => ?_⟩
      have := h (j + 1) x (by rw [List.getElem?_cons_succ]; exact hx)
      rwa [show i + (j + 1) = i + 1 + j by omega] at this
theorem tableOK_iff {pw np : Int} {ps : List Pg} : tableOK pw np ps = true ↔ ∀ i x, ps[i]? = some x → pageOK pw np ps i x = true := by
  unfold tableOK
  rw [tableFrom_iff]
  simp only [Nat.zero_add]
theorem allTails_iff {sp : Int} {ps : List Pg} {i m : Nat} : allTails sp ((ps.drop i).take m) = true ↔ ∀ t, i ≤ t → t < i + m → ∀ z, ps[t]? = some z → z.kind = 3 ∧ z.space = sp := by
  unfold allTails
  rw [List.all_eq_true]
  constructor
  · intro h t h1 h2 z hz
    have hm : z ∈ (ps.drop i).take m := by
      refine List.mem_of_getElem? (i := t - i) ?_
      rw [List.getElem?_take, if_pos (by omega), List.getElem?_drop, show i + (t - i) = t by omega]; exact hz
    exact of_decide_eq_true (h z hm)
  · intro h z hz
    obtain ⟨j, hj⟩ := List.getElem?_of_mem hz
    rw [List.getElem?_take] at hj
    split at hj
    · rename_i hjm
      rw [List.getElem?_drop] at hj
      exact decide_eq_true (h (i + j) (by omega) (by omega) z hj)
    · cases hj
theorem owned_iff (pw np : Int) (ps : List Pg) : ∀ (t : Nat) (b : Int), ownedAt pw np ps t b = true ↔ ∃ l, l < t ∧ (ps.getD l Pg.zero).kind = 2 ∧ (∀ m, l < m → m < t → ¬ (ps.getD m Pg.zero).kind = 2) ∧ b + (t - 1 - l : Int) < needV pw np (ps.getD l Pg.zero).used
  | 0, b => by
    rw [ownedAt]
    constructor
    · intro h; cases h
    · rintro ⟨l, h, -⟩; omega
  | t + 1, b => by
    rw [ownedAt]
    by_cases h2 : (ps.getD t Pg.zero).kind = 2
    · rw [if_pos h2]
      constructor
      · intro h
        have := of_decide_eq_true h
        exact ⟨t, by omega, h2, fun m a c => by omega, by omega⟩
      · rintro ⟨l, h3, h4, h5, h6⟩
        by_cases hl : l = t
        · subst hl; exact decide_eq_true (by omega)
        · exact absurd h2 (h5 t (by omega) (by omega))
    · rw [if_neg h2, owned_iff pw np ps t (b + 1)]
      constructor
      · rintro ⟨l, h3, h4, h5, h6⟩
        refine ⟨l, by omega, h4, fun m a c => ?_, by omega⟩
        by_cases hm : m = t
        · subst hm; exact h2
        · exact h5 m a (by omega)
      · rintro ⟨l, h3, h4, h5, h6⟩
        have hl : l ≠ t := fun e => h2 (e ▸ h4)
        exact ⟨l, by omega, h4, fun m a c => h5 m a (by omega), by omega⟩

/-- A page that is free or small made small. -/
theorem table_small {pw np : Int} {ps : List Pg} {j : Nat} {x y : Pg} (h : tableOK pw np ps = true) (hy : ps[j]? = some y) (hk : y.kind = 0 ∨ y.kind = 1) (hx : x.kind = 1) (hs : smallOK pw x = true) : tableOK pw np (ps.set j x) = true := by
  rw [tableOK_iff] at h ⊢
  have hjl := (List.getElem?_eq_some_iff.1 hy).1
  have hget : ∀ t, (ps.set j x)[t]? = if j = t then some x else ps[t]? := fun t => by
    rw [List.getElem?_set]
    by_cases e : j = t
    · subst e; rw [if_pos rfl, if_pos rfl, if_pos hjl]
    · rw [if_neg e, if_neg e]
  have hD : ∀ t, ¬ j = t → (ps.set j x).getD t Pg.zero = ps.getD t Pg.zero := fun t ht => by rw [List.getD_eq_getElem?_getD, List.getD_eq_getElem?_getD, hget, if_neg ht]
  have hDj : (ps.set j x).getD j Pg.zero = x := getD_at (by rw [hget, if_pos rfl])
  have hDy : ps.getD j Pg.zero = y := getD_at hy
  have hk2 : ∀ t, (((ps.set j x).getD t Pg.zero).kind = 2 ↔ (ps.getD t Pg.zero).kind = 2) := fun t => by
    by_cases ht : j = t
    · subst ht; rw [hDj, hDy]; constructor <;> intro c <;> omega
    · rw [hD t ht]
  intro i z hz
  rw [hget] at hz
  split at hz
  · cases hz
    unfold pageOK
    rw [if_neg (by omega), if_pos hx]
    exact hs
  · rename_i hji
    have hp := h i z hz
    unfold pageOK at hp ⊢
    split
    · rename_i k0; rw [if_pos k0] at hp; exact hp
    · rename_i k0
      rw [if_neg k0] at hp
      split
      · rename_i k1; rw [if_pos k1] at hp; exact hp
      · rename_i k1
        rw [if_neg k1] at hp
        split
        · rename_i k2
          rw [if_pos k2] at hp
          unfold largeOK at hp ⊢
          rw [List.length_set]
          rw [Bool.and_eq_true] at hp ⊢
          refine ⟨hp.1, ?_⟩
          rw [allTails_iff] at *
          intro t h1 h2 z' hz'
          rw [hget] at hz'
          split at hz'
          · rename_i e
            subst e
            have := hp.2 j h1 h2 y hy
            omega
          · exact hp.2 t h1 h2 z' hz'
        · rename_i k2
          rw [if_neg k2] at hp
          split
          · rename_i k3
            rw [if_pos k3] at hp
            unfold tailOK ownedB at hp ⊢
            rw [Bool.and_eq_true] at hp ⊢
            refine ⟨hp.1, ?_⟩
            obtain ⟨l, h1, h2, h3, h4⟩ := (owned_iff pw np ps i 1).1 hp.2
            have hlj : ¬ j = l := fun e => by subst e; rw [hDy] at h2; omega
            exact (owned_iff pw np _ i 1).2 ⟨l, h1, (hk2 l).2 h2, fun m a c hh => h3 m a c ((hk2 m).1 hh), by rw [hD l hlj]; exact h4⟩
          · rename_i k3
            rw [if_neg k3] at hp
            cases hp

/-- A run of free pages made a large one and its tails. -/
theorem table_large {pw np : Int} {ps : List Pg} {i k : Nat} {sp n : Int} (h : tableOK pw np ps = true) (hf : freeB ps i k = true) (hl : i + k ≤ ps.length) (h1 : 1 ≤ k) (hs : spaceB sp = true) (hn : needV pw np n = k) :
    tableOK pw np (put (ps.set i ⟨2, sp, n, 0⟩) (i + 1) (k - 1) ⟨3, sp, 0, 0⟩) = true := by
  rw [tableOK_iff] at h ⊢
  have hfree : ∀ t, i ≤ t → t < i + k → ∀ z, ps[t]? = some z → z.kind = 0 := fun t a c z hz => by
    have hz' : z ∈ (ps.drop i).take k := by
      refine List.mem_of_getElem? (i := t - i) ?_
      rw [List.getElem?_take, if_pos (by omega), List.getElem?_drop, show i + (t - i) = t by omega]; exact hz
    unfold freeB at hf
    exact of_decide_eq_true (List.all_eq_true.1 hf z hz')
  obtain ⟨qs, hqs⟩ : ∃ qs, put (ps.set i ⟨2, sp, n, 0⟩) (i + 1) (k - 1) ⟨3, sp, 0, 0⟩ = qs := ⟨_, rfl⟩
  rw [hqs]
  have hql : qs.length = ps.length := by rw [← hqs, put_len (by rw [List.length_set]; omega), List.length_set]
  have hget : ∀ t, qs[t]? = if t = i then some ⟨2, sp, n, 0⟩ else if i ≤ t ∧ t < i + k then some ⟨3, sp, 0, 0⟩ else ps[t]? := fun t => by
    rw [← hqs]
    split
    · rename_i e
      subst e
      rw [put_get (by rw [List.length_set]; omega) (Or.inr (by omega)), List.getElem?_set, if_pos rfl, if_pos (by omega)]
    · rename_i e
      split
      · rename_i hr
        rw [put_in (by rw [List.length_set]; omega) (by omega) (by omega)]
      · rw [put_get (by rw [List.length_set]; omega) (by omega), List.getElem?_set, if_neg (by omega)]
  have hin : ∀ t, i ≤ t → t < i + k → ∃ z, ps[t]? = some z := fun t a c => ⟨_, List.getElem?_eq_getElem (show t < ps.length by omega)⟩
  have hD : ∀ t, ¬ (i ≤ t ∧ t < i + k) → qs.getD t Pg.zero = ps.getD t Pg.zero := fun t ht => by rw [List.getD_eq_getElem?_getD, List.getD_eq_getElem?_getD, hget, if_neg (by omega), if_neg ht]
  have hDi : qs.getD i Pg.zero = ⟨2, sp, n, 0⟩ := getD_at (by rw [hget, if_pos rfl])
  have hDt : ∀ t, i < t → t < i + k → qs.getD t Pg.zero = ⟨3, sp, 0, 0⟩ := fun t a c => getD_at (by rw [hget, if_neg (by omega), if_pos ⟨by omega, c⟩])
  have hD0 : ∀ t, i ≤ t → t < i + k → (ps.getD t Pg.zero).kind = 0 := fun t a c => by
    obtain ⟨z, hz⟩ := hin t a c
    rw [getD_at hz]; exact hfree t a c z hz
  intro t z hz
  rw [hget] at hz
  split at hz
  · rename_i e
    subst e
    cases hz
    unfold pageOK
    rw [if_neg (show ¬ (2 : Int) = 0 by decide), if_neg (show ¬ (2 : Int) = 1 by decide), if_pos rfl]
    unfold largeOK
    simp only
    rw [hs, hn, hql, decide_eq_true (show (1 : Int) ≤ k by omega), decide_eq_true (show (t : Int) + k ≤ ps.length by omega), show pinsB 0 = true from rfl, Bool.true_and, Bool.true_and, Bool.true_and, Bool.true_and, allTails_iff]
    intro u a c z hz
    rw [hget, if_neg (by omega), if_pos (by omega)] at hz
    cases hz
    exact ⟨rfl, rfl⟩
  · rename_i e
    split at hz
    · rename_i hr
      cases hz
      unfold pageOK
      rw [if_neg (show ¬ (3 : Int) = 0 by decide), if_neg (show ¬ (3 : Int) = 1 by decide), if_neg (show ¬ (3 : Int) = 2 by decide), if_pos rfl]
      unfold tailOK ownedB
      rw [show decide ((0 : Int) = 0 ∧ (0 : Int) = 0) = true from rfl, Bool.true_and, owned_iff]
      refine ⟨i, by omega, by rw [hDi], fun m a c => ?_, ?_⟩
      · rw [hDt m a (by omega)]; simp
      · rw [hDi]; simp only; rw [hn]; omega
    · rename_i hr
      have hp := h t z hz
      unfold pageOK at hp ⊢
      split
      · rename_i k0; rw [if_pos k0] at hp; exact hp
      · rename_i k0
        rw [if_neg k0] at hp
        split
        · rename_i k1; rw [if_pos k1] at hp; exact hp
        · rename_i k1
          rw [if_neg k1] at hp
          split
          · rename_i k2
            rw [if_pos k2] at hp
            unfold largeOK at hp ⊢
            rw [hql]
            rw [Bool.and_eq_true] at hp ⊢
            refine ⟨hp.1, ?_⟩
            rw [allTails_iff] at *
            intro u a c z' hz'
            by_cases hu : i ≤ u ∧ u < i + k
            · obtain ⟨y, hy⟩ := hin u hu.1 hu.2
              have h3 := (hp.2 u a c y hy).1
              have h0 := hfree u hu.1 hu.2 y hy
              omega
            · rw [hget, if_neg (by omega), if_neg hu] at hz'
              exact hp.2 u a c z' hz'
          · rename_i k2
            rw [if_neg k2] at hp
            split
            · rename_i k3
              rw [if_pos k3] at hp
              unfold tailOK ownedB at hp ⊢
              rw [Bool.and_eq_true] at hp ⊢
              refine ⟨hp.1, ?_⟩
              obtain ⟨l, h2, h3, h4, h5⟩ := (owned_iff pw np ps t 1).1 hp.2
              have hlo : ¬ (i ≤ l ∧ l < i + k) := fun c => by have := hD0 l c.1 c.2; omega
              have htl : t < ps.length := (List.getElem?_eq_some_iff.1 hz).1
              -- the owner's tails reach up to page t, so no free page lies between
              have hlz : ps[l]? = some (ps[l]'(by omega)) := List.getElem?_eq_getElem _
              have hpl := h l _ hlz
              rw [getD_at hlz] at h3 h5
              unfold pageOK at hpl
              rw [if_neg (by omega), if_neg (by omega), if_pos h3] at hpl
              unfold largeOK at hpl
              rw [Bool.and_eq_true, allTails_iff] at hpl
              have hnot : ∀ m, l < m → m < t → ¬ (i ≤ m ∧ m < i + k) := fun m a c hc => by
                obtain ⟨y, hy⟩ := hin m hc.1 hc.2
                have q3 := (hpl.2 m (by omega) (by omega) y hy).1
                have q0 := hfree m hc.1 hc.2 y hy
                omega
              refine (owned_iff pw np qs t 1).2 ⟨l, h2, by rw [hD l hlo, getD_at hlz]; exact h3, fun m a c => by rw [hD m (hnot m a c)]; exact h4 m a c, by rw [hD l hlo, getD_at hlz]; exact h5⟩
            · rename_i k3
              rw [if_neg k3] at hp
              cases hp
end Go.Proofs.Ytbenklhbcgiacaa
