/- Plain mathematics of SlotsLife: what a history of acts keeps. -/
import Derived.Test.YtggaaobpaodigaaSlT
set_option linter.unusedVariables false
namespace Go.Proofs.Ytggaaobpaodigaa
open Go.RowKit

theorem nextV_free : ∀ (t : List En) (e : En), t[nextV t]? = some e → e.lv = false ∧ e.gn < 4294967295
  | [], e, h => by simp at h
  | x :: r, e, h => by
    unfold nextV at h
    split at h
    · rename_i hx; cases h; exact hx
    · rw [List.getElem?_cons_succ] at h; exact nextV_free r e h
theorem newE_or {t : List En} (h : okT t = true) : newE t = 0 ∨ newE t = 18 := by
  by_cases h2 : nextV t = 64
  · exact .inr (newE_b h h2)
  · exact .inl (newE_c h h2)
theorem newE_ne {t : List En} (h : newE t = 0) : okT t = true ∧ nextV t ≠ 64 := by
  unfold newE at h
  split at h
  · omega
  · rename_i h1
    split at h
    · omega
    · exact ⟨by cases ho : okT t; exact absurd ho h1; rfl, by assumption⟩
theorem okT_set {t : List En} (h : okT t = true) (j : Nat) {x : En} (hx : enB x = true) : okT (t.set j x) = true := by
  obtain ⟨h1, h2⟩ := okT_iff.1 h
  refine okT_iff.2 ⟨by rw [List.length_set]; exact h1, fun k e he => ?_⟩
  rw [List.getElem?_set] at he
  by_cases hk : j = k
  · rw [if_pos hk] at he
    split at he
    · cases he; exact hx
    · cases he
  · rw [if_neg hk] at he; exact h2 k e he
theorem okT_put {t : List En} (h : okT t = true) (h64 : nextV t ≠ 64) (r : Int) : okT (putV t r) = true := by
  unfold putV
  cases he : t[nextV t]? with
  | some e =>
    have h1 := nextV_free t e he
    have h2 := (enB_iff.1 ((okT_iff.1 h).2 _ e he)).1
    exact okT_set h _ (enB_iff.2 ⟨by simp only; omega, by simp only; omega, fun h => by cases h⟩)
  | none =>
    have h1 := nextV_le t
    have h2 := List.getElem?_eq_none_iff.1 he
    refine okT_iff.2 ⟨?_, fun k e hk => ?_⟩
    · have := (okT_iff.1 h).1
      simp only [List.length_append, List.length_cons, List.length_nil]; omega
    · simp only at hk
      by_cases hl : k < t.length
      · rw [List.getElem?_append_left hl] at hk; exact (okT_iff.1 h).2 k e hk
      · rw [List.getElem?_append_right (by omega)] at hk
        cases hd : k - t.length with
        | zero => rw [hd] at hk; cases hk; exact enB_iff.2 ⟨by simp only; omega, by simp only; omega, fun h => by cases h⟩
        | succ j => rw [hd] at hk; simp at hk

/-- A history: the table, the pairs that were issued, what they refer to, which are deleted. -/
structure Lf (t : List En) (is : List (Int × Int)) (rs : List Int) (gn : List Bool) : Prop where
  ok : okT t = true
  wf : WfT t
  lr : rs.length = is.length
  lg : gn.length = is.length
  st : ∀ (m : Nat) (i g : Int), is[m]? = some (i, g) → ∃ (j : Nat) (e : En), i = j ∧ t[j]? = some e ∧ 1 ≤ g ∧ g ≤ e.gn ∧ (gn[m]? = some false → e.gn = g ∧ e.lv = true ∧ rs[m]? = some e.rf) ∧ (gn[m]? = some true → g < e.gn ∨ e.lv = false)
  ne : ∀ (a b : Nat) (x : Int × Int), is[a]? = some x → is[b]? = some x → a = b
theorem Lf.zero : Lf [] [] [] [] := ⟨by decide, wf_nil, rfl, rfl, fun m i g h => by simp at h, fun a b x h => by simp at h⟩
theorem Lf.dead {t : List En} {is : List (Int × Int)} {rs : List Int} {gn : List Bool} (h : Lf t is rs gn) {m : Nat} {i g : Int} (hp : is[m]? = some (i, g)) (hg : gn[m]? = some true) : findE t i g = 8 := by
  obtain ⟨j, e, rfl, he, h1, h2, -, h4⟩ := h.st m i g hp
  rw [findE_d h.ok he, if_neg (by omega), if_pos (h4 hg)]
theorem Lf.live {t : List En} {is : List (Int × Int)} {rs : List Int} {gn : List Bool} (h : Lf t is rs gn) {m : Nat} {i g : Int} (hp : is[m]? = some (i, g)) (hg : gn[m]? = some false) : findE t i g = 0 ∧ rs[m]? = some (getT t i g) ∧ ∃ (j : Nat) (e : En), i = j ∧ t[j]? = some e ∧ e.gn = g ∧ e.lv = true := by
  obtain ⟨j, e, rfl, he, h1, h2, h3, -⟩ := h.st m i g hp
  obtain ⟨h5, h6, h7⟩ := h3 hg
  have h0 : findE t j g = 0 := by rw [findE_d h.ok he, if_neg (by omega), if_neg (by rw [h6]; simp; omega)]
  refine ⟨h0, ?_, j, e, rfl, he, h5, h6⟩
  unfold getT
  rw [if_pos h0, Int.toNat_natCast, tf_rf he h6, h7]; rfl
theorem Lf.new {t : List En} {is : List (Int × Int)} {rs : List Int} {gn : List Bool} (h : Lf t is rs gn) {r : Int} (h0 : newE t = 0) (hr : (Lit.int .u64 r).wf = true) : Lf (newT t r) (is ++ [((newN t), (newG t))]) (rs ++ [r]) (gn ++ [false]) := by
  obtain ⟨ho, h64⟩ := newE_ne h0
  obtain ⟨e1, e2, e3⟩ := new_yes (r := r) h0
  rw [e1, e2, e3]
  have hst : ∀ (m : Nat) (i g : Int), is[m]? = some (i, g) → ¬ (i = (nextV t : Int) ∧ g = genV t) ∧ ∃ (j : Nat) (e : En), i = j ∧ (putV t r)[j]? = some e ∧ 1 ≤ g ∧ g ≤ e.gn ∧ (gn[m]? = some false → e.gn = g ∧ e.lv = true ∧ rs[m]? = some e.rf) ∧ (gn[m]? = some true → g < e.gn ∨ e.lv = false) := by
    intro m i g hm
    obtain ⟨j, e, rfl, he, h1, h2, h3, h4⟩ := h.st m i g hm
    have hj := (List.getElem?_eq_some_iff.1 he).1
    unfold putV genV
    cases hk : t[nextV t]? with
    | some e0 =>
      have hf := nextV_free t e0 hk
      simp only
      by_cases hjk : j = nextV t
      · subst hjk
        rw [he] at hk; cases hk
        refine ⟨fun hh => by omega, nextV t, ⟨e.gn + 1, r, true⟩, rfl, by rw [List.getElem?_set, if_pos rfl, if_pos hj], h1, by simp only; omega, fun hg => ?_, fun _ => .inl (by simp only; omega)⟩
        have := (h3 hg).2.1
        rw [hf.1] at this; cases this
      · exact ⟨fun hh => hjk (by omega), j, e, rfl, by rw [List.getElem?_set, if_neg (fun e => hjk e.symm)]; exact he, h1, h2, h3, h4⟩
    | none =>
      simp only
      have hk2 := List.getElem?_eq_none_iff.1 hk
      exact ⟨fun hh => by omega, j, e, rfl, by rw [List.getElem?_append_left hj]; exact he, h1, h2, h3, h4⟩
  have hnew : ∃ e, (putV t r)[nextV t]? = some e ∧ e.gn = genV t ∧ e.lv = true ∧ e.rf = r ∧ 1 ≤ genV t := by
    unfold putV genV
    cases hk : t[nextV t]? with
    | some e0 =>
      have h2 := (enB_iff.1 ((okT_iff.1 ho).2 _ e0 hk)).1
      exact ⟨_, by simp only; rw [List.getElem?_set, if_pos rfl, if_pos (List.getElem?_eq_some_iff.1 hk).1], rfl, rfl, rfl, by simp only; omega⟩
    | none =>
      have h1 := nextV_le t
      have h2 := List.getElem?_eq_none_iff.1 hk
      have h3 : nextV t = t.length := by omega
      exact ⟨⟨1, r, true⟩, by simp only; rw [h3, List.getElem?_append_right (Nat.le_refl _), Nat.sub_self]; rfl, rfl, rfl, rfl, by simp only; omega⟩
  refine ⟨okT_put ho h64 r, wf_put h.wf hr, by simp [h.lr], by simp [h.lg], fun m i g hm => ?_, fun a b x ha hb => ?_⟩
  · by_cases hl : m < is.length
    · rw [List.getElem?_append_left hl] at hm
      obtain ⟨-, j, e, h1, h2, h3, h4, h5, h6⟩ := hst m i g hm
      rw [List.getElem?_append_left (by rw [h.lg]; exact hl), List.getElem?_append_left (by rw [h.lr]; exact hl)]
      exact ⟨j, e, h1, h2, h3, h4, h5, h6⟩
    · rw [List.getElem?_append_right (by omega)] at hm
      have hd : m - is.length = 0 := by
        cases hd : m - is.length with
        | zero => rfl
        | succ j => rw [hd] at hm; simp at hm
      rw [hd] at hm
      simp only [List.getElem?_cons_zero, Option.some.injEq, Prod.mk.injEq] at hm
      obtain ⟨rfl, rfl⟩ := hm
      obtain ⟨e, k1, k2, k3, k4, k5⟩ := hnew
      have e5 : (rs ++ [r])[m]? = some r := by
        rw [List.getElem?_append_right (by rw [h.lr]; omega), h.lr, hd]; rfl
      have e6 : (gn ++ [false])[m]? = some false := by
        rw [List.getElem?_append_right (by rw [h.lg]; omega), h.lg, hd]; rfl
      exact ⟨nextV t, e, rfl, k1, k5, by omega, fun _ => ⟨k2, k3, by rw [e5, k4]⟩, fun hh => by rw [e6] at hh; cases hh⟩
  · have key : ∀ (a b : Nat), (is ++ [((nextV t : Int), genV t)])[a]? = some x → (is ++ [((nextV t : Int), genV t)])[b]? = some x → a < is.length → ¬ b < is.length → False := by
      intro a b ha hb hla hlb
      rw [List.getElem?_append_left hla] at ha
      rw [List.getElem?_append_right (by omega)] at hb
      have hd : b - is.length = 0 := by
        cases hd : b - is.length with
        | zero => rfl
        | succ j => rw [hd] at hb; simp at hb
      rw [hd] at hb
      simp only [List.getElem?_cons_zero, Option.some.injEq] at hb
      subst hb
      exact (hst a _ _ ha).1 ⟨rfl, rfl⟩
    by_cases hla : a < is.length
    · by_cases hlb : b < is.length
      · rw [List.getElem?_append_left hla] at ha
        rw [List.getElem?_append_left hlb] at hb
        exact h.ne a b x ha hb
      · exact (key a b ha hb hla hlb).elim
    · by_cases hlb : b < is.length
      · exact (key b a hb ha hlb hla).elim
      · have h1 := (List.getElem?_eq_some_iff.1 ha).1
        have h2 := (List.getElem?_eq_some_iff.1 hb).1
        simp at h1 h2; omega
theorem Lf.del {t : List En} {is : List (Int × Int)} {rs : List Int} {gn : List Bool} (h : Lf t is rs gn) {m : Nat} {i g : Int} (hp : is[m]? = some (i, g)) (hg : gn[m]? = some false) : Lf (delT t i g) is rs (gn.set m true) := by
  obtain ⟨h0, -, j, e, rfl, he, hge, hl⟩ := h.live hp hg
  have hj := (List.getElem?_eq_some_iff.1 he).1
  have hm := (List.getElem?_eq_some_iff.1 hg).1
  have heb := (okT_iff.1 h.ok).2 j e he
  have ed : delT t j g = t.set j ⟨g, 0, false⟩ := by unfold delT; rw [if_pos h0, Int.toNat_natCast]
  rw [ed]
  refine ⟨okT_set h.ok _ (enB_iff.2 ⟨by have := (enB_iff.1 heb).1; simp only; omega, by have := (enB_iff.1 heb).2.1; simp only; omega, fun _ => rfl⟩), wf_sets h.wf _ (show (Lit.int .u64 0).wf = true by decide), h.lr, by rw [List.length_set]; exact h.lg, fun a i' g' ha => ?_, h.ne⟩
  obtain ⟨j', e', rfl, he', h1, h2, h3, h4⟩ := h.st a i' g' ha
  by_cases hjj : j = j'
  · subst hjj
    rw [he] at he'; cases he'
    refine ⟨j, ⟨g, 0, false⟩, rfl, by rw [List.getElem?_set, if_pos rfl, if_pos hj], h1, by simp only; omega, fun hh => ?_, fun _ => .inr rfl⟩
    rw [List.getElem?_set] at hh
    by_cases hma : m = a
    · rw [if_pos hma] at hh
      split at hh
      · cases hh
      · cases hh
    · rw [if_neg hma] at hh
      have h5 := (h3 hh).1
      exact absurd (h.ne m a _ hp (by rw [ha]; congr 2; omega)) hma
  · have hma : m ≠ a := fun e1 => by
      subst e1
      rw [hp] at ha
      simp only [Option.some.injEq, Prod.mk.injEq] at ha
      omega
    rw [List.getElem?_set, if_neg hma]
    exact ⟨j', e', rfl, by rw [List.getElem?_set, if_neg hjj]; exact he', h1, h2, h3, h4⟩
theorem Lf.set {t : List En} {is : List (Int × Int)} {rs : List Int} {gn : List Bool} (h : Lf t is rs gn) {m : Nat} {i g r : Int} (hp : is[m]? = some (i, g)) (hg : gn[m]? = some false) (hr : (Lit.int .u64 r).wf = true) : Lf (setT t i g r) is (rs.set m r) gn := by
  obtain ⟨h0, -, j, e, rfl, he, hge, hl⟩ := h.live hp hg
  have hj := (List.getElem?_eq_some_iff.1 he).1
  have hm := (List.getElem?_eq_some_iff.1 hp).1
  have heb := (okT_iff.1 h.ok).2 j e he
  have ed : setT t j g r = t.set j ⟨g, r, true⟩ := by unfold setT; rw [if_pos h0, Int.toNat_natCast]
  rw [ed]
  refine ⟨okT_set h.ok _ (enB_iff.2 ⟨by have := (enB_iff.1 heb).1; simp only; omega, by have := (enB_iff.1 heb).2.1; simp only; omega, fun hh => by cases hh⟩), wf_sets h.wf _ hr, by rw [List.length_set]; exact h.lr, h.lg, fun a i' g' ha => ?_, h.ne⟩
  obtain ⟨j', e', rfl, he', h1, h2, h3, h4⟩ := h.st a i' g' ha
  by_cases hjj : j = j'
  · subst hjj
    rw [he] at he'; cases he'
    refine ⟨j, ⟨g, r, true⟩, rfl, by rw [List.getElem?_set, if_pos rfl, if_pos hj], h1, by simp only; omega, fun hh => ?_, fun hh => ?_⟩
    · have h5 := (h3 hh).1
      have hma : m = a := h.ne m a _ hp (by rw [ha]; congr 2; omega)
      subst hma
      exact ⟨by simp only; omega, rfl, by rw [List.getElem?_set, if_pos rfl, if_pos (by rw [h.lr]; exact hm)]⟩
    · rcases h4 hh with h5 | h5
      · exact .inl (by simp only; omega)
      · rw [hl] at h5; cases h5
  · have hma : m ≠ a := fun e1 => by
      subst e1
      rw [hp] at ha
      simp only [Option.some.injEq, Prod.mk.injEq] at ha
      omega
    rw [List.getElem?_set, if_neg hma]
    exact ⟨j', e', rfl, by rw [List.getElem?_set, if_neg hjj]; exact he', h1, h2, h3, h4⟩
end Go.Proofs.Ytggaaobpaodigaa
