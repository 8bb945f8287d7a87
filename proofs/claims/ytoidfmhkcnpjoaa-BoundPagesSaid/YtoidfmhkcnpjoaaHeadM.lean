/- Plain mathematics of headers and forwarding words. -/
import Derived.Test.YtoidfmhkcnpjoaaBitsM
namespace Go.Proofs.Ytoidfmhkcnpjoaa
open Go.RowKit

/-- Which headers are valid. -/
def validB (k n m : Int) : Bool := decide (0 ≤ k ∧ k ≤ 3 ∧ 0 ≤ n ∧ n ≤ 255 ∧ (k = 1 → n ≤ 32 ∧ m < 2 ^ n.toNat) ∧ (¬ k = 1 → m = 0))
theorem valid_parts {k n m : Int} (h : validB k n m = true) : 0 ≤ k ∧ k ≤ 3 ∧ 0 ≤ n ∧ n ≤ 255 ∧ (k = 1 → n ≤ 32 ∧ m < 2 ^ n.toNat) ∧ (¬ k = 1 → m = 0) := by
  unfold validB at h; exact of_decide_eq_true h
theorem valid_mk {k n m : Int} (h : 0 ≤ k ∧ k ≤ 3 ∧ 0 ≤ n ∧ n ≤ 255 ∧ (k = 1 → n ≤ 32 ∧ m < 2 ^ n.toNat) ∧ (¬ k = 1 → m = 0)) : validB k n m = true := by
  unfold validB; exact decide_eq_true h
theorem valid_no {k n m : Int} (h : ¬ (0 ≤ k ∧ k ≤ 3 ∧ 0 ≤ n ∧ n ≤ 255 ∧ (k = 1 → n ≤ 32 ∧ m < 2 ^ n.toNat) ∧ (¬ k = 1 → m = 0))) : validB k n m = false := by
  unfold validB; exact decide_eq_false h
theorem pow_le32 (n : Int) (h : n ≤ 32) : (2 : Int) ^ n.toNat ≤ 4294967296 := by
  have : (2 : Nat) ^ n.toNat ≤ 2 ^ 32 := Nat.pow_le_pow_right (by decide) (by omega)
  rw [← ipow_cast]; omega
theorem valid_map {k n m : Int} (h : validB k n m = true) : m < 4294967296 := by
  obtain ⟨h1, h2, h3, h4, h5, h6⟩ := valid_parts h
  by_cases c : k = 1
  · obtain ⟨h7, h8⟩ := h5 c; have := pow_le32 n h7; omega
  · have := h6 c; omega

/-- The word of a header. -/
def wordV (k n m : Int) : Int := 1 + 4 * k + 16 * n + 65536 * m
def encV (k n m : Int) : Int := if validB k n m then wordV k n m else 0
def encE (k n m : Int) : Int := if validB k n m then 0 else 1
theorem enc_ok {k n m : Int} (h : validB k n m = true) : encV k n m = wordV k n m ∧ encE k n m = 0 := by
  unfold encV encE; rw [if_pos h, if_pos h]; exact ⟨rfl, rfl⟩
theorem enc_no {k n m : Int} (h : validB k n m = false) : encV k n m = 0 ∧ encE k n m = 1 := by
  unfold encV encE; rw [if_neg (by simp [h]), if_neg (by simp [h])]; exact ⟨rfl, rfl⟩
theorem word_bd {k n m : Int} (h : validB k n m = true) (hm : 0 ≤ m) : 0 ≤ wordV k n m ∧ wordV k n m < 281474976710656 := by
  have := valid_map h
  obtain ⟨h1, h2, h3, h4, h5, h6⟩ := valid_parts h
  unfold wordV; omega

/-- The fields of a word. -/
def dK (x : Nat) : Nat := x / 4 % 4
def dN (x : Nat) : Nat := x / 16 % 4096
def dM (x : Nat) : Nat := x / 65536 % 4294967296
def okD (x : Nat) : Bool := decide (x % 4 = 1) && decide (x < 281474976710656) && validB (dK x) (dN x) (dM x)
def decK (x : Nat) : Int := if okD x then dK x else 0
def decN (x : Nat) : Int := if okD x then dN x else 0
def decM (x : Nat) : Int := if okD x then dM x else 0
theorem dec_ok {x : Nat} (h : okD x = true) : decK x = dK x ∧ decN x = dN x ∧ decM x = dM x := by
  unfold decK decN decM; rw [if_pos h, if_pos h, if_pos h]; exact ⟨rfl, rfl, rfl⟩
theorem dec_no {x : Nat} (h : okD x = false) : decK x = 0 ∧ decN x = 0 ∧ decM x = 0 := by
  unfold decK decN decM; rw [if_neg (by simp [h]), if_neg (by simp [h]), if_neg (by simp [h])]; exact ⟨rfl, rfl, rfl⟩
theorem okD_parts {x : Nat} (h : okD x = true) : x % 4 = 1 ∧ x < 281474976710656 ∧ validB (dK x) (dN x) (dM x) = true := by
  unfold okD at h; simp only [Bool.and_eq_true, decide_eq_true_eq] at h; exact ⟨h.1.1, h.1.2, h.2⟩
theorem okD_mk {x : Nat} (h1 : x % 4 = 1) (h2 : x < 281474976710656) (h3 : validB (dK x) (dN x) (dM x) = true) : okD x = true := by
  unfold okD; simp only [Bool.and_eq_true, decide_eq_true_eq]; exact ⟨⟨h1, h2⟩, h3⟩
theorem okD_no {x : Nat} (h : ¬ x % 4 = 1 ∨ ¬ x < 281474976710656 ∨ validB (dK x) (dN x) (dM x) = false) : okD x = false := by
  rw [← Bool.not_eq_true]; intro c; obtain ⟨h1, h2, h3⟩ := okD_parts c
  rcases h with h | h | h
  · exact h h1
  · exact h h2
  · rw [h3] at h; cases h
/-- A word that is decoded is the one of its header. -/
theorem dec_word {x : Nat} (h : okD x = true) : wordV (dK x) (dN x) (dM x) = x := by
  obtain ⟨h1, h2, h3⟩ := okD_parts h
  obtain ⟨_, _, _, h4, _, _⟩ := valid_parts h3
  unfold wordV dK dN dM at *; omega
/-- A header is decoded from its word. -/
theorem word_dec {k n m : Int} (h : validB k n m = true) (hm : 0 ≤ m) {x : Nat} (hx : wordV k n m = x) : okD x = true ∧ (dK x : Int) = k ∧ (dN x : Int) = n ∧ (dM x : Int) = m := by
  have hm2 := valid_map h
  obtain ⟨h1, h2, h3, h4, h5, h6⟩ := valid_parts h
  have e1 : (dK x : Int) = k := by unfold wordV at hx; unfold dK; omega
  have e2 : (dN x : Int) = n := by unfold wordV at hx; unfold dN; omega
  have e3 : (dM x : Int) = m := by unfold wordV at hx; unfold dM; omega
  refine ⟨okD_mk ?_ ?_ ?_, e1, e2, e3⟩
  · unfold wordV at hx; omega
  · unfold wordV at hx; omega
  · rw [e1, e2, e3]; exact h
theorem word_iff {x : Nat} : okD x = true ↔ validB (dK x) (dN x) (dM x) = true ∧ wordV (dK x) (dN x) (dM x) = x :=
  ⟨fun h => ⟨(okD_parts h).2.2, dec_word h⟩, fun h => (word_dec h.1 (Int.natCast_nonneg _) h.2).1⟩

/-- Forwarding words. -/
def fwdV (a : Int) : Int := if a < 4294967296 then 4 * a + 2 else 0
def fwdE (a : Int) : Int := if a < 4294967296 then 0 else 1
theorem fwd_ok {a : Int} (h : a < 4294967296) : fwdV a = 4 * a + 2 ∧ fwdE a = 0 := by
  unfold fwdV fwdE; rw [if_pos h, if_pos h]; exact ⟨rfl, rfl⟩
theorem fwd_no {a : Int} (h : ¬ a < 4294967296) : fwdV a = 0 ∧ fwdE a = 1 := by
  unfold fwdV fwdE; rw [if_neg h, if_neg h]; exact ⟨rfl, rfl⟩
def okT (x : Nat) : Bool := decide (x % 4 = 2) && decide (x < 17179869184)
def tgtV (x : Nat) : Int := if okT x then ((x / 4 : Nat) : Int) else 0
theorem okT_parts {x : Nat} (h : okT x = true) : x % 4 = 2 ∧ x < 17179869184 := by
  unfold okT at h; simp only [Bool.and_eq_true, decide_eq_true_eq] at h; exact h
theorem okT_mk {x : Nat} (h1 : x % 4 = 2) (h2 : x < 17179869184) : okT x = true := by
  unfold okT; simp only [Bool.and_eq_true, decide_eq_true_eq]; exact ⟨h1, h2⟩
theorem okT_no {x : Nat} (h : ¬ x % 4 = 2 ∨ ¬ x < 17179869184) : okT x = false := by
  rw [← Bool.not_eq_true]; intro c; obtain ⟨h1, h2⟩ := okT_parts c; omega
theorem tgt_ok {x : Nat} (h : okT x = true) : tgtV x = ((x / 4 : Nat) : Int) := by unfold tgtV; rw [if_pos h]
theorem tgt_no {x : Nat} (h : okT x = false) : tgtV x = 0 := by unfold tgtV; rw [if_neg (by simp [h])]
theorem apart (x : Nat) : ¬ (okD x = true ∧ okT x = true) := by
  rintro ⟨h, k⟩; have := (okD_parts h).1; have := (okT_parts k).1; omega

/-- Sizes and pointer fields. -/
def sizeV (k n m : Int) : Int := if validB k n m then n + 1 else 0
theorem size_ok {k n m : Int} (h : validB k n m = true) : sizeV k n m = n + 1 := by unfold sizeV; rw [if_pos h]
theorem size_no {k n m : Int} (h : validB k n m = false) : sizeV k n m = 0 := by unfold sizeV; rw [if_neg (by simp [h])]
def ptrB (k n m i : Int) : Bool := validB k n m && decide (0 ≤ i) && decide (i < n) && (decide (k = 2) || (decide (k = 1) && m.toNat.testBit i.toNat))
theorem ptr_no {k n m i : Int} (h : validB k n m = false ∨ i < 0 ∨ n ≤ i) : ptrB k n m i = false := by
  unfold ptrB
  rcases h with h | h | h
  · simp [h]
  · have : decide (0 ≤ i) = false := decide_eq_false (by omega)
    simp [this]
  · have : decide (i < n) = false := decide_eq_false (by omega)
    simp [this]
theorem ptr_ok {k n m i : Int} (h : validB k n m = true) (h1 : 0 ≤ i) (h2 : i < n) : ptrB k n m i = (decide (k = 2) || (decide (k = 1) && m.toNat.testBit i.toNat)) := by
  unfold ptrB; simp [h, h1, h2]
/-- The pointer fields below place j. -/
def ptrsTo (k n m : Int) (j : Nat) : List Int := ((List.range j).map Int.ofNat).filter (fun i => ptrB k n m i)
def ptrsV (k n m : Int) : List Int := if validB k n m then ptrsTo k n m n.toNat else []
theorem ptrsTo_succ (k n m : Int) (j : Nat) : ptrsTo k n m (j + 1) = if ptrB k n m j then ptrsTo k n m j ++ [(j : Int)] else ptrsTo k n m j := by
  unfold ptrsTo
  rw [List.range_succ, List.map_append, List.filter_append]
  by_cases h : ptrB k n m j = true
  · rw [if_pos h]
    have : ([j].map Int.ofNat).filter (fun i => ptrB k n m i) = [(j : Int)] := by simp [h]
    rw [this]
  · rw [if_neg h]
    have : ([j].map Int.ofNat).filter (fun i => ptrB k n m i) = [] := by simp [h]
    rw [this, List.append_nil]
theorem ptrsTo_len (k n m : Int) (j : Nat) : (ptrsTo k n m j).length ≤ j := by
  unfold ptrsTo; refine Nat.le_trans (List.length_filter_le _ _) ?_; simp
theorem ptrsTo_mem {k n m : Int} {j : Nat} {x : Int} (h : x ∈ ptrsTo k n m j) : ptrB k n m x = true := (List.mem_filter.1 h).2
theorem ptrsV_mem {k n m : Int} {x : Int} (h : x ∈ ptrsV k n m) : ptrB k n m x = true := by
  unfold ptrsV at h
  by_cases c : validB k n m = true
  · rw [if_pos c] at h; exact ptrsTo_mem h
  · rw [if_neg c] at h; cases h
theorem ptrs_ok {k n m : Int} (h : validB k n m = true) : ptrsV k n m = ptrsTo k n m n.toNat := by unfold ptrsV; rw [if_pos h]
theorem ptrs_no {k n m : Int} (h : validB k n m = false) : ptrsV k n m = [] := by unfold ptrsV; rw [if_neg (by simp [h])]
theorem ptr_bd {k n m i : Int} (h : ptrB k n m i = true) : 0 ≤ i ∧ i < 256 := by
  unfold ptrB at h; simp only [Bool.and_eq_true, decide_eq_true_eq] at h
  obtain ⟨⟨⟨h1, h2⟩, h3⟩, _⟩ := h
  obtain ⟨_, _, _, h4, _⟩ := valid_parts h1
  omega

/-- What a number is with a bit more. -/
theorem bit32_spell (m : Nat) (i : Nat) (hm : m < 4294967296) : bits .and .u32 ((m : Int) / 2 ^ i) 1 = (((m.testBit i).toNat : Nat) : Int) := by
  rw [shr_cast]
  have hl : m >>> i < 4294967296 := by rw [Nat.shiftRight_eq_div_pow]; exact Nat.lt_of_le_of_lt (Nat.div_le_self _ _) hm
  have := u32_and_nat (m >>> i) 1 hl (by omega)
  rw [show ((1 : Nat) : Int) = 1 from rfl] at this
  rw [this, Nat.and_one_is_mod, Nat.toNat_testBit, Nat.shiftRight_eq_div_pow]
theorem bit_test (m i : Nat) (hm : m < 4294967296) : (bits .and .u32 ((m : Int) / 2 ^ min i 32) 1 == 1) = m.testBit i := by
  have e : m.testBit i = m.testBit (min i 32) := by
    by_cases h : i ≤ 32
    · rw [show min i 32 = i from by omega]
    · have h1 : (2 : Nat) ^ 32 ≤ 2 ^ i := Nat.pow_le_pow_right (by decide) (by omega)
      rw [show min i 32 = 32 from by omega, Nat.testBit_lt_two_pow (Nat.lt_of_lt_of_le hm (by simpa using h1)), Nat.testBit_lt_two_pow (by omega)]
  rw [bit32_spell m _ hm, e]
  cases m.testBit (min i 32) <;> rfl
end Go.Proofs.Ytoidfmhkcnpjoaa
