/- Plain mathematics of configurations and page tables. -/
import Derived.Test.YtoidfmhkcnpjoaaKit
namespace Go.Proofs.Ytoidfmhkcnpjoaa
open Go.RowKit

/-! Configurations. -/
def confB (pw np : Int) : Bool := decide (16 ≤ pw ∧ pw ≤ 64 ∧ pw % 4 = 0 ∧ 8 ≤ np ∧ np ≤ 64)
theorem conf_parts {pw np : Int} (h : confB pw np = true) : 16 ≤ pw ∧ pw ≤ 64 ∧ pw % 4 = 0 ∧ 8 ≤ np ∧ np ≤ 64 := by
  unfold confB at h; exact of_decide_eq_true h
theorem conf_mk {pw np : Int} (h : 16 ≤ pw ∧ pw ≤ 64 ∧ pw % 4 = 0 ∧ 8 ≤ np ∧ np ≤ 64) : confB pw np = true := by
  unfold confB; exact decide_eq_true h
theorem conf_no {pw np : Int} (h : ¬ (16 ≤ pw ∧ pw ≤ 64 ∧ pw % 4 = 0 ∧ 8 ≤ np ∧ np ≤ 64)) : confB pw np = false := by
  unfold confB; exact decide_eq_false h
def limitV (pw np : Int) : Int := if confB pw np then np / 4 else 0
def smallV (pw np : Int) : Int := if confB pw np then pw / 4 else 0
/-- The pages of an object of so many words in a valid configuration. -/
def needP (pw n : Int) : Int := if n ≤ pw / 4 then 0 else if n ≤ pw then 1 else if n ≤ 2 * pw then 2 else if n ≤ 3 * pw then 3 else if n ≤ 4 * pw then 4 else -1
def needV (pw np n : Int) : Int := if confB pw np = true ∧ 1 ≤ n then needP pw n else -1
theorem need_ok {pw np n : Int} (h : confB pw np = true) (h1 : 1 ≤ n) : needV pw np n = needP pw n := by unfold needV; rw [if_pos ⟨h, h1⟩]
theorem need_no {pw np n : Int} (h : confB pw np = false ∨ n < 1) : needV pw np n = -1 := by
  unfold needV
  rw [if_neg]
  rintro ⟨a, b⟩
  rcases h with h | h
  · rw [a] at h; cases h
  · omega
def inPg (pw np p o : Int) : Bool := decide (0 ≤ p ∧ p < np ∧ 0 ≤ o ∧ o < pw)
def addrV (pw np p o : Int) : Int := if confB pw np then (if inPg pw np p o then 4096 + p * pw + o else 0) else 0
def addrE (pw np p o : Int) : Int := if confB pw np then (if inPg pw np p o then 0 else 2) else 1
def inAr (pw np a : Int) : Bool := decide (4096 ≤ a ∧ a < 4096 + np * pw)
def ofI (pw np a : Int) : Int := if confB pw np then (if inAr pw np a then (a - 4096) / pw else 0) else 0
def ofK (pw np a : Int) : Int := if confB pw np then (if inAr pw np a then (a - 4096) % pw else 0) else 0
def ofE (pw np a : Int) : Int := if confB pw np then (if inAr pw np a then 0 else 2) else 1
theorem limit_ok {pw np : Int} (h : confB pw np = true) : limitV pw np = np / 4 := by unfold limitV; rw [if_pos h]
theorem limit_no {pw np : Int} (h : confB pw np = false) : limitV pw np = 0 := by unfold limitV; rw [if_neg (by simp [h])]
theorem small_ok {pw np : Int} (h : confB pw np = true) : smallV pw np = pw / 4 := by unfold smallV; rw [if_pos h]
theorem small_no {pw np : Int} (h : confB pw np = false) : smallV pw np = 0 := by unfold smallV; rw [if_neg (by simp [h])]
theorem addr_ok {pw np p o : Int} (h : confB pw np = true) (h1 : inPg pw np p o = true) : addrV pw np p o = 4096 + p * pw + o ∧ addrE pw np p o = 0 := by
  unfold addrV addrE; rw [if_pos h, if_pos h, if_pos h1, if_pos h1]; exact ⟨rfl, rfl⟩
theorem addr_out {pw np p o : Int} (h : confB pw np = true) (h1 : inPg pw np p o = false) : addrV pw np p o = 0 ∧ addrE pw np p o = 2 := by
  unfold addrV addrE; rw [if_pos h, if_pos h, if_neg (by simp [h1]), if_neg (by simp [h1])]; exact ⟨rfl, rfl⟩
theorem addr_no {pw np p o : Int} (h : confB pw np = false) : addrV pw np p o = 0 ∧ addrE pw np p o = 1 := by
  unfold addrV addrE; rw [if_neg (by simp [h]), if_neg (by simp [h])]; exact ⟨rfl, rfl⟩
theorem of_ok {pw np a : Int} (h : confB pw np = true) (h1 : inAr pw np a = true) : ofI pw np a = (a - 4096) / pw ∧ ofK pw np a = (a - 4096) % pw ∧ ofE pw np a = 0 := by
  unfold ofI ofK ofE; rw [if_pos h, if_pos h, if_pos h, if_pos h1, if_pos h1, if_pos h1]; exact ⟨rfl, rfl, rfl⟩
theorem of_out {pw np a : Int} (h : confB pw np = true) (h1 : inAr pw np a = false) : ofI pw np a = 0 ∧ ofK pw np a = 0 ∧ ofE pw np a = 2 := by
  unfold ofI ofK ofE; rw [if_pos h, if_pos h, if_pos h, if_neg (by simp [h1]), if_neg (by simp [h1]), if_neg (by simp [h1])]; exact ⟨rfl, rfl, rfl⟩
theorem of_no {pw np a : Int} (h : confB pw np = false) : ofI pw np a = 0 ∧ ofK pw np a = 0 ∧ ofE pw np a = 1 := by
  unfold ofI ofK ofE; rw [if_neg (by simp [h]), if_neg (by simp [h]), if_neg (by simp [h])]; exact ⟨rfl, rfl, rfl⟩
theorem conf_prod {pw np : Int} (h : confB pw np = true) : 128 ≤ np * pw ∧ np * pw ≤ 4096 := by
  obtain ⟨h1, h2, _, h4, h5⟩ := conf_parts h
  exact ⟨Int.le_trans (show (128 : Int) ≤ 8 * 16 from by decide) (Int.mul_le_mul h4 h1 (by decide) (by omega)), Int.le_trans (Int.mul_le_mul h5 h2 (by omega) (by omega)) (by decide)⟩
theorem page_prod {pw np p : Int} (h : confB pw np = true) (h0 : 0 ≤ p) (h1 : p < np) : 0 ≤ p * pw ∧ p * pw + pw ≤ np * pw := by
  obtain ⟨h2, _⟩ := conf_parts h
  have e : p * pw + pw = (p + 1) * pw := by rw [Int.add_mul, Int.one_mul]
  exact ⟨Int.mul_nonneg h0 (by omega), by rw [e]; exact Int.mul_le_mul_of_nonneg_right (by omega) (by omega)⟩
/-- The page and offset of an address, and back. -/
theorem of_addr {pw np p o : Int} (h : confB pw np = true) (h1 : inPg pw np p o = true) : inAr pw np (4096 + p * pw + o) = true ∧ (4096 + p * pw + o - 4096) / pw = p ∧ (4096 + p * pw + o - 4096) % pw = o := by
  unfold inPg at h1
  obtain ⟨a, b, c, d⟩ := of_decide_eq_true h1
  obtain ⟨e, f⟩ := page_prod h a b
  have g := conf_parts h
  have e1 : 4096 + p * pw + o - 4096 = o + p * pw := by omega
  refine ⟨decide_eq_true (by omega), ?_, ?_⟩
  · rw [e1, Int.add_mul_ediv_right _ _ (by omega), Int.ediv_eq_zero_of_lt c d]; omega
  · rw [e1, Int.add_mul_emod_self_right, Int.emod_eq_of_lt c d]
end Go.Proofs.Ytoidfmhkcnpjoaa
