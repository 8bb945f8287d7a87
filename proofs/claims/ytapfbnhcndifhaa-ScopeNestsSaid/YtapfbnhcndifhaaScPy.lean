/- Plain mathematics of layer 14: what a history of acts keeps. -/
import Derived.Test.YtapfbnhcndifhaaScPl
import Derived.Test.YtapfbnhcndifhaaScS
set_option linter.unusedVariables false
namespace Go.Proofs.Ytapfbnhcndifhaa
open Go.RowKit

/-- Handles that a history made: valid, and every live slot has what its stamp was issued for. -/
structure Pl (l : Loc) (rs : List Int) : Prop where
  ok : okB l = true
  len : rs.length = l.is.length
  rf : ∀ (k : Nat) (s : Sl), l.sl[k]? = some s → s.lv = true → rs[(s.st - 1).toNat]? = some s.rf
/-- The pairs that were issued. -/
def pairsFrom : Nat → List Int → List (Int × Int)
  | _, [] => []
  | n, x :: xs => (x, (n : Int) + 1) :: pairsFrom (n + 1) xs
def prC (p : Int × Int) : List Value := [.int .i64 p.1, .int .i64 p.2]
theorem prC_len (p : Int × Int) : (prC p).length = 2 := rfl
theorem pairs_len : ∀ (xs : List Int) (n : Nat), (pairsFrom n xs).length = xs.length
  | [], _ => rfl
  | x :: xs, n => by rw [pairsFrom, List.length_cons, List.length_cons, pairs_len xs]
theorem pairs_snoc : ∀ (xs : List Int) (n : Nat) (y : Int), pairsFrom n (xs ++ [y]) = pairsFrom n xs ++ [(y, ((n + xs.length : Nat) : Int) + 1)]
  | [], n, y => by simp [pairsFrom]
  | x :: xs, n, y => by
    rw [List.cons_append, pairsFrom, pairsFrom, pairs_snoc xs (n + 1) y, List.cons_append, List.length_cons, show n + 1 + xs.length = n + (xs.length + 1) by omega]
theorem pairs_get : ∀ (xs : List Int) (n k : Nat), (pairsFrom n xs)[k]? = (xs[k]?).map fun x => (x, ((n + k : Nat) : Int) + 1)
  | [], n, k => by simp [pairsFrom]
  | x :: xs, n, 0 => by simp [pairsFrom]
  | x :: xs, n, k + 1 => by
    rw [pairsFrom, List.getElem?_cons_succ, List.getElem?_cons_succ, pairs_get xs (n + 1) k, show n + 1 + k = n + (k + 1) by omega]
theorem pl_zero : Pl loc0 [] := ⟨by decide +kernel, rfl, fun k s h => by simp [loc0] at h⟩
theorem pl_st {l : Loc} {rs : List Int} (h : Pl l rs) {k : Nat} {s : Sl} (hs : l.sl[k]? = some s) : (k : Int) + 1 ≤ s.st ∧ s.st ≤ l.is.length := (good_iff.1 h.ok).st_ge k s hs
theorem pl_new {l : Loc} {rs : List Int} {ref : Int} (h : Pl l rs) (hr : roomV l ref = 0) : Pl (newL l ref) (rs ++ [ref]) := by
  have e : newL l ref = ⟨l.sl ++ [⟨l.is.length + 1, ref, true⟩], l.sc, l.is ++ [(l.sl.length : Int)]⟩ := by unfold newL; rw [if_pos hr]
  refine ⟨new_ok hr, by rw [e]; simp [h.len], fun k s hs hl => ?_⟩
  rw [e] at hs
  simp only at hs
  by_cases hk : k < l.sl.length
  · rw [List.getElem?_append_left hk] at hs
    have h1 := pl_st h hs
    rw [List.getElem?_append_left (by rw [h.len]; omega)]
    exact h.rf k s hs hl
  · rw [List.getElem?_append_right (by omega)] at hs
    obtain ⟨h0, rfl⟩ : k - l.sl.length = 0 ∧ s = ⟨l.is.length + 1, ref, true⟩ := by
      cases hd : k - l.sl.length with
      | zero => rw [hd] at hs; exact ⟨rfl, (Option.some.inj hs).symm⟩
      | succ m => rw [hd] at hs; simp at hs
    simp only
    rw [show ((l.is.length : Int) + 1 - 1).toNat = rs.length by rw [h.len]; omega]
    simp
theorem pl_del {l : Loc} {rs : List Int} {i st : Int} (h : Pl l rs) (hf : findV l i st = 0) : Pl (delL l i st) rs := by
  have e : delL l i st = ⟨l.sl.set i.toNat ⟨st, 0, false⟩, l.sc, l.is⟩ := by unfold delL; rw [if_pos hf]
  refine ⟨del_ok hf, by rw [e]; exact h.len, fun k s hs hl => ?_⟩
  rw [e] at hs
  simp only at hs
  rw [List.getElem?_set] at hs
  by_cases hk : i.toNat = k
  · rw [if_pos hk] at hs
    split at hs
    · cases hs; cases hl
    · cases hs
  · rw [if_neg hk] at hs
    exact h.rf k s hs hl
theorem pl_open {l : Loc} {rs : List Int} {c : Int} {b : Bool} (h : Pl l rs) (he : openE l c b = 0) : Pl (openL l c b) rs := by
  have e : openL l c b = ⟨l.sl, l.sc ++ [⟨l.sl.length, c, b⟩], l.is⟩ := by unfold openL; rw [if_pos he]
  exact ⟨open_ok he, by rw [e]; exact h.len, fun k s hs hl => by rw [e] at hs; exact h.rf k s hs hl⟩
theorem pl_cut {l : Loc} {rs : List Int} {k : Nat} {s : Sp} (h : Pl l rs) (hs : l.sc[k]? = some s) : Pl (cutL l k s) rs :=
  ⟨good_iff.2 (cut_good h.ok hs), h.len, fun j t ht hl => by
    unfold cutL at ht
    simp only [List.getElem?_take] at ht
    split at ht
    · exact h.rf j t ht hl
    · cases ht⟩
theorem pl_pop {l : Loc} {rs : List Int} (h : Pl l rs) (he : popE l = 0) : Pl (popL l) rs := by
  cases hs : l.sc[l.sc.length - 1]? with
  | none =>
    unfold popE at he
    rw [h.ok, if_neg (by decide), hs] at he
    cases he
  | some s => rw [popL_yes he hs]; exact pl_cut h hs
theorem findB_get {sc : List Sp} : ∀ (n : Nat) {k : Nat} {s : Sp}, findB sc n = some (k, s) → sc[k]? = some s
  | 0, k, s, h => by cases h
  | n + 1, k, s, h => by
    rw [findB] at h
    cases hx : sc[n]? with
    | none => rw [hx] at h; exact findB_get n h
    | some t =>
      rw [hx] at h
      simp only at h
      split at h
      · cases h; exact hx
      · exact findB_get n h
theorem pl_leave {l : Loc} {rs : List Int} (h : Pl l rs) (he : leaveE l = 0) : Pl (leaveL l) rs := by
  cases hf : findB l.sc l.sc.length with
  | none => rw [(leave_none h.ok hf).1] at he; cases he
  | some x =>
    obtain ⟨k, s⟩ := x
    rw [(leave_some h.ok hf).2]
    exact pl_cut h (findB_get _ hf)
theorem pl_is {l : Loc} {rs : List Int} (h : Pl l rs) : l.is.length ≤ 4096 := (issAll_iff.1 (good_iff.1 h.ok).iss).1
end Go.Proofs.Ytapfbnhcndifhaa
