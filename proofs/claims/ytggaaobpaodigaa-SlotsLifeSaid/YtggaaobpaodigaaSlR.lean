/- Contract of the reference of layer 15: Move. -/
import Derived.Test.YtggaaobpaodigaaSlQ
set_option linter.unusedVariables false
set_option linter.unusedSimpArgs false
namespace Go.Proofs.Ytggaaobpaodigaa
open Go.RowKit

theorem flat_setE1 {sl : List En} {k : Nat} {s : En} (x : Int) (hs : sl[k]? = some s) : (sl.flatMap enC).set (k * 3 + 1) (.int .u64 x) = (sl.set k ⟨s.gn, x, s.lv⟩).flatMap enC := by
  have hk := (List.getElem?_eq_some_iff.1 hs).1
  rw [← flat_setS enC enC_len ⟨s.gn, x, s.lv⟩ rfl sl k hk]
  have h0 := flat_at enC 3 enC_len sl k s 0 (by decide) hs
  have h2 := flat_at enC 3 enC_len sl k s 2 (by decide) hs
  apply List.ext_getElem?
  intro i
  simp only [List.getElem?_set, List.length_set]
  have hl : (sl.flatMap enC).length = sl.length * 3 := flat_len enC 3 enC_len sl
  have hk3 : k * 3 + 2 < (sl.flatMap enC).length := by rw [hl]; omega
  by_cases e2 : k * 3 + 2 = i
  · subst e2
    rw [if_neg (by omega), if_pos rfl, if_pos hk3, h2]; rfl
  · rw [if_neg e2]
    by_cases e1 : k * 3 + 1 = i
    · rw [if_pos e1, if_pos e1]
    · rw [if_neg e1, if_neg e1]
      by_cases e0 : k * 3 = i
      · subst e0
        rw [if_pos rfl, if_pos (by omega)]
        rw [Nat.add_zero] at h0; rw [h0]; rfl
      · rw [if_neg e0]
theorem own_setRfE {w : World} {base g n cap T : Nat} {qs : List En} (h : w.ownsRow base T 3 (.slice (some ⟨g, 0, none⟩) n cap) n (qs.flatMap enC)) {k : Nat} {s : En} (hs : qs[k]? = some s) (x : Int) :
    (w.setCell ⟨g, k * 3 + 1, none⟩ (.int .u64 x)).ownsRow base T 3 (.slice (some ⟨g, 0, none⟩) n cap) n ((qs.set k ⟨s.gn, x, s.lv⟩).flatMap enC) := by
  rw [← flat_setE1 x hs]; exact (h.stored _ _).1

/-- The table of which the first i entries are done. -/
def mvA (t : List En) (xs : List Int) (i : Nat) : List En := (mvT t xs).take i ++ t.drop i
theorem mvT_len (t : List En) (xs : List Int) : (mvT t xs).length = t.length := by unfold mvT; rw [tabOf_len, gs_len]
theorem mvA_len (t : List En) (xs : List Int) (i : Nat) : (mvA t xs i).length = t.length := by
  unfold mvA; rw [List.length_append, List.length_take, List.length_drop, mvT_len]; omega
theorem mvA_zero (t : List En) (xs : List Int) : mvA t xs 0 = t := by unfold mvA; simp
theorem mvA_end (t : List En) (xs : List Int) {i : Nat} (h : t.length = i) : mvA t xs i = mvT t xs := by
  unfold mvA; rw [List.take_of_length_le (by rw [mvT_len]; omega), List.drop_of_length_le (by omega), List.append_nil]
theorem mvA_at {t : List En} {xs : List Int} {i : Nat} {e : En} (h : t[i]? = some e) : (mvA t xs i)[i]? = some e := by
  have hl := (List.getElem?_eq_some_iff.1 h).1
  unfold mvA
  rw [List.getElem?_append_right (by rw [List.length_take]; omega), List.length_take, mvT_len, List.getElem?_drop]
  rw [show i + (i - min i t.length) = i by omega]; exact h
theorem mvA_step {t : List En} {xs : List Int} {i : Nat} {e y : En} (h : t[i]? = some e) (hy : (mvT t xs)[i]? = some y) : (mvA t xs i).set i y = mvA t xs (i + 1) := by
  have hl := (List.getElem?_eq_some_iff.1 h).1
  apply List.ext_getElem?
  intro j
  rw [List.getElem?_set]
  have hlen : ((mvT t xs).take i).length = i := by rw [List.length_take, mvT_len]; omega
  have hlen2 : ((mvT t xs).take (i + 1)).length = i + 1 := by rw [List.length_take, mvT_len]; omega
  by_cases hj : i = j
  · subst hj
    rw [if_pos rfl, if_pos (by rw [mvA_len]; exact hl)]
    unfold mvA
    rw [List.getElem?_append_left (by omega), List.getElem?_take, if_pos (by omega), hy]
  · rw [if_neg hj]
    unfold mvA
    by_cases h1 : j < i
    · rw [List.getElem?_append_left (by omega), List.getElem?_append_left (by omega), List.getElem?_take, List.getElem?_take, if_pos h1, if_pos (by omega)]
    · rw [List.getElem?_append_right (by omega), List.getElem?_append_right (by omega), hlen, hlen2, List.getElem?_drop, List.getElem?_drop]
      congr 1; omega
theorem mvT_live {t : List En} {xs : List Int} {i : Nat} {e : En} {x : Int} (h : t[i]? = some e) (hl : e.lv = true) (hx : xs[rankV t i]? = some x) : (mvT t xs)[i]? = some ⟨e.gn, x, e.lv⟩ := by
  unfold mvT
  rw [tabOf_get, gs_get, h]
  simp only [Option.map_some]
  unfold mvTo
  rw [h]
  simp only
  rw [if_pos hl, if_pos (rank_lt h hl), List.getD, hx, hl]; rfl
theorem mvT_dead {t : List En} {xs : List Int} {i : Nat} {e : En} (ho : okT t = true) (h : t[i]? = some e) (hl : e.lv = false) : (mvT t xs)[i]? = some e := by
  unfold mvT
  rw [tabOf_get, gs_get, h]
  simp only [Option.map_some]
  unfold mvTo
  rw [h]
  simp only
  rw [if_neg (by rw [hl]; decide)]
  have := (enB_iff.1 ((okT_iff.1 ho).2 i e h)).2.2 hl
  obtain ⟨g, r, l⟩ := e
  simp only at this hl
  subst this hl; rfl
theorem mvA_dead {t : List En} {xs : List Int} {i : Nat} {e : En} (ho : okT t = true) (h : t[i]? = some e) (hl : e.lv = false) : mvA t xs i = mvA t xs (i + 1) := by
  rw [← mvA_step h (mvT_dead ho h hl)]
  apply List.ext_getElem?
  intro j
  rw [List.getElem?_set]
  by_cases hj : i = j
  · subst hj
    rw [if_pos rfl, if_pos (by rw [mvA_len]; exact (List.getElem?_eq_some_iff.1 h).1)]; exact mvA_at h
  · rw [if_neg hj]

end Go.Proofs.Ytggaaobpaodigaa
