/- Plain mathematics of ScopeNests: what a scope that is opened leaves as it was. -/
import Derived.Test.YtapfbnhcndifhaaScPa
set_option linter.unusedVariables false
namespace Go.Proofs.Ytapfbnhcndifhaa
open Go.RowKit

/-- What l is behind Push and any number of New. -/
structure Nst (l x : Loc) (c : Int) : Prop where
  ok : okB x = true
  sc : x.sc = l.sc ++ [⟨l.sl.length, c, false⟩]
  sl : ∃ e, x.sl = l.sl ++ e
  is : ∃ e, x.is = l.is ++ e
theorem nst_open {l : Loc} {c : Int} (h : openE l c false = 0) : Nst l (openL l c false) c := by
  have e : openL l c false = ⟨l.sl, l.sc ++ [⟨l.sl.length, c, false⟩], l.is⟩ := by unfold openL; rw [if_pos h]
  exact ⟨open_ok h, by rw [e], ⟨[], by rw [e]; simp⟩, ⟨[], by rw [e]; simp⟩⟩
theorem open_any_err {l : Loc} {c : Int} (h : okB l = true) (hc : capB c = true) : openE l c false = 0 ∨ openE l c false = 9 ∨ openE l c false = 17 := by
  unfold openE
  rw [if_neg (by rw [h, hc]; decide)]
  split
  · exact .inr (.inl rfl)
  · split
    · exact .inr (.inr rfl)
    · exact .inl rfl
theorem nst_new {l x : Loc} {c ref : Int} (h : Nst l x c) (hr : roomV x ref = 0) : Nst l (newL x ref) c := by
  have e : newL x ref = ⟨x.sl ++ [⟨x.is.length + 1, ref, true⟩], x.sc, x.is ++ [(x.sl.length : Int)]⟩ := by unfold newL; rw [if_pos hr]
  obtain ⟨a, ha⟩ := h.sl
  obtain ⟨b, hb⟩ := h.is
  refine ⟨new_ok hr, by rw [e]; exact h.sc, ?_, ?_⟩
  · rw [e]; simp only; rw [ha, List.append_assoc]; exact ⟨_, rfl⟩
  · rw [e]; simp only; rw [hb, List.append_assoc]; exact ⟨_, rfl⟩
/-- What Pop answers then. -/
theorem nst_pop {l x : Loc} {c : Int} (h : Nst l x c) : popE x = 0 ∧ ∃ e, popL x = ⟨l.sl, l.sc, l.is ++ e⟩ ∧ okB ⟨l.sl, l.sc, l.is ++ e⟩ = true := by
  have hs : x.sc[x.sc.length - 1]? = some ⟨l.sl.length, c, false⟩ := by rw [h.sc]; simp
  have h0 : popE x = 0 := by rw [popE_some h.ok hs]; rfl
  obtain ⟨a, ha⟩ := h.sl
  obtain ⟨b, hb⟩ := h.is
  have e : popL x = ⟨l.sl, l.sc, l.is ++ b⟩ := by
    rw [popL_yes h0 hs]
    unfold cutL
    rw [h.sc, ha, hb]
    simp
  refine ⟨h0, b, e, ?_⟩
  rw [← e, popL_yes h0 hs]
  exact good_iff.2 (cut_good h.ok hs)
theorem nst_find {l : Loc} {e : List Int} {i st : Int} (h : okB l = true) (h2 : okB ⟨l.sl, l.sc, l.is ++ e⟩ = true) (hi : issB l.is i st = true) : findV ⟨l.sl, l.sc, l.is ++ e⟩ i st = findV l i st ∧ getV ⟨l.sl, l.sc, l.is ++ e⟩ i st = getV l i st := by
  have h3 : issB (l.is ++ e) i st = true := issB_append hi
  have e1 : findV ⟨l.sl, l.sc, l.is ++ e⟩ i st = findV l i st := by
    unfold findV
    rw [h, h2, hi, h3]
  refine ⟨e1, ?_⟩
  unfold getV
  rw [e1]
/-- The pair of a handle that was issued. -/
theorem iss_pair {l : Loc} {k : Nat} {i : Int} (hi : l.is[k]? = some i) : issB l.is i ((k : Int) + 1) = true := by
  have hk := (List.getElem?_eq_some_iff.1 hi).1
  exact issB_iff.2 ⟨by omega, by omega, by rw [show ((k : Int) + 1 - 1).toNat = k by omega]; exact hi⟩
end Go.Proofs.Ytapfbnhcndifhaa
