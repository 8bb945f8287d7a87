/- Plain mathematics of words of 64 bits: masks, fields, packing. -/
import Derived.WalkKit
import Derived.Laws.ShiftsVarLaws
import Derived.Laws.BitsAll
namespace Go.Proofs.YtpfbofcofhcfpaaDoor
open Go.RowKit

def onesV (n : Int) : Int := 2 ^ min n.toNat 64 - 1
def onesN (n : Int) : Nat := 2 ^ min n.toNat 64 - 1

theorem pow_le64 (k : Nat) (h : k ≤ 64) : (2 : Nat) ^ k ≤ 18446744073709551616 := by
  have : (2 : Nat) ^ k ≤ 2 ^ 64 := Nat.pow_le_pow_right (by decide) h
  simpa using this
theorem pow_lt64 (k : Nat) (h : k < 64) : (2 : Nat) ^ k ≤ 9223372036854775808 := by
  have : (2 : Nat) ^ k ≤ 2 ^ 63 := Nat.pow_le_pow_right (by decide) (by omega)
  simpa using this
theorem pow_pos2 (k : Nat) : 1 ≤ (2 : Nat) ^ k := Nat.one_le_two_pow
theorem ipow_cast (k : Nat) : ((2 ^ k : Nat) : Int) = (2 : Int) ^ k := by rw [Int.natCast_pow]; rfl
theorem ipow_le64 (k : Nat) (h : k ≤ 64) : (2 : Int) ^ k ≤ 18446744073709551616 := by
  have := pow_le64 k h; rw [← ipow_cast]; omega
theorem ipow_lt64 (k : Nat) (h : k < 64) : (2 : Int) ^ k ≤ 9223372036854775808 := by
  have := pow_lt64 k h; rw [← ipow_cast]; omega
theorem ipow_pos2 (k : Nat) : 1 ≤ (2 : Int) ^ k := by
  have := pow_pos2 k; rw [← ipow_cast]; omega

theorem onesV_cast (n : Int) : onesV n = ((onesN n : Nat) : Int) := by
  unfold onesV onesN
  have := pow_pos2 (min n.toNat 64)
  rw [Int.natCast_sub this]
  simp
theorem onesV_lo (n : Int) : 0 ≤ onesV n := by unfold onesV; have := ipow_pos2 (min n.toNat 64); omega
theorem onesV_hi (n : Int) : onesV n < 18446744073709551616 := by unfold onesV; have := ipow_le64 (min n.toNat 64) (by omega); omega
theorem onesV_neg (n : Int) (h : n < 0) : onesV n = 0 := by
  unfold onesV
  have : n.toNat = 0 := by omega
  simp [this]
theorem onesV_wrap (n : Int) : IntKind.u64.wrap (IntKind.u64.wrap (2 ^ min n.toNat 64) - 1) = onesV n := by
  unfold onesV
  have h1 := ipow_le64 (min n.toNat 64) (by omega)
  have h2 := ipow_pos2 (min n.toNat 64)
  rw [IntKind.wrap_u64, IntKind.wrap_u64]
  omega

theorem onesN_lt (n : Int) : onesN n < 18446744073709551616 := by
  unfold onesN; have := pow_le64 (min n.toNat 64) (by omega); have := pow_pos2 (min n.toNat 64); omega
theorem shr_cast (x k : Nat) : (x : Int) / 2 ^ k = ((x >>> k : Nat) : Int) := by
  rw [Nat.shiftRight_eq_div_pow, ← ipow_cast, Int.natCast_ediv]
theorem shr_lt (x k : Nat) (hx : x < 18446744073709551616) : x >>> k < 18446744073709551616 := by
  rw [Nat.shiftRight_eq_div_pow]; exact Nat.lt_of_le_of_lt (Nat.div_le_self _ _) hx
theorem get_spell (x k : Nat) (n : Int) (hx : x < 18446744073709551616) : bits .and .u64 ((x : Int) / 2 ^ k) (onesV n) = ((x >>> k &&& onesN n : Nat) : Int) := by
  rw [shr_cast, onesV_cast]
  exact u64_and_nat _ _ (shr_lt _ _ hx) (onesN_lt _)

def inW (a n : Int) : Bool := decide (0 ≤ a) && decide (0 ≤ n) && decide (n ≤ 64 - a)
theorem inW_true {a n : Int} (h : inW a n = true) : 0 ≤ a ∧ 0 ≤ n ∧ n ≤ 64 - a := by
  simp [inW] at h; omega

def setN (x : Nat) (a n : Int) (v : Nat) : Nat := (x &&& (18446744073709551615 - onesN n <<< a.toNat)) ||| (v <<< a.toNat)

theorem and_ones (v : Nat) (n : Int) : v &&& onesN n = v % 2 ^ min n.toNat 64 := by
  unfold onesN; exact Nat.and_two_pow_sub_one_eq_mod v _
theorem le_ones_iff (v : Nat) (n : Int) : (v : Int) ≤ onesV n ↔ v &&& onesN n = v := by
  rw [and_ones, onesV_cast]
  have hp := pow_pos2 (min n.toNat 64)
  have e : ((v : Int) ≤ ((onesN n : Nat) : Int)) ↔ v < 2 ^ min n.toNat 64 := by
    unfold onesN; omega
  rw [e]
  constructor
  · intro h; exact Nat.mod_eq_of_lt h
  · intro h; rw [← h]; exact Nat.mod_lt _ (by omega)
theorem and_spell (v : Nat) (n : Int) (hv : v < 18446744073709551616) : bits .and .u64 (v : Int) (onesV n) = ((v &&& onesN n : Nat) : Int) := by
  rw [onesV_cast]; exact u64_and_nat _ _ hv (onesN_lt _)
theorem and_test_fits {v : Nat} {n : Int} (hv : v < 18446744073709551616) (h : (v : Int) ≤ onesV n) : (bits .and .u64 (v : Int) (onesV n) != (v : Int)) = false := by
  rw [and_spell v n hv, (le_ones_iff v n).1 h]; simp
theorem and_test_not {v : Nat} {n : Int} (hv : v < 18446744073709551616) (h : ¬ (v : Int) ≤ onesV n) : (bits .and .u64 (v : Int) (onesV n) != (v : Int)) = true := by
  rw [and_spell v n hv, bne_iff_ne]
  intro e
  exact h ((le_ones_iff v n).2 (by omega))
theorem fits_lt {v : Nat} {a n : Int} (h : inW a n = true) (hv : (v : Int) ≤ onesV n) : v <<< a.toNat + 2 ^ a.toNat ≤ 2 ^ 64 := by
  obtain ⟨h1, h2, h3⟩ := inW_true h
  rw [Nat.shiftLeft_eq]
  have e : min n.toNat 64 = n.toNat := by omega
  have hp := pow_pos2 n.toNat
  have hlt : v + 1 ≤ 2 ^ n.toNat := by
    rw [onesV_cast] at hv; unfold onesN at hv; rw [e] at hv; omega
  calc v * 2 ^ a.toNat + 2 ^ a.toNat = (v + 1) * 2 ^ a.toNat := by rw [Nat.add_mul]; omega
    _ ≤ 2 ^ n.toNat * 2 ^ a.toNat := Nat.mul_le_mul_right _ hlt
    _ = 2 ^ (n.toNat + a.toNat) := (Nat.pow_add _ _ _).symm
    _ ≤ 2 ^ 64 := Nat.pow_le_pow_right (by decide) (by omega)
theorem shl_wrap {v : Nat} {a n : Int} (h : inW a n = true) (hv : (v : Int) ≤ onesV n) : IntKind.u64.wrap ((v : Int) * 2 ^ a.toNat) = ((v <<< a.toNat : Nat) : Int) := by
  have := fits_lt h hv
  have hp := pow_pos2 a.toNat
  rw [IntKind.wrap_u64, ← ipow_cast, ← Int.natCast_mul, ← Nat.shiftLeft_eq]
  generalize v <<< a.toNat = s at *
  generalize 2 ^ a.toNat = q at *
  omega
theorem set_spell (x : Nat) (a n : Int) (v : Nat) (hx : x < 18446744073709551616) (h : inW a n = true) (hv : (v : Int) ≤ onesV n) :
    bits .or .u64 (bits .andNot .u64 (x : Int) (IntKind.u64.wrap (onesV n * 2 ^ a.toNat))) (IntKind.u64.wrap ((v : Int) * 2 ^ a.toNat)) = ((setN x a n v : Nat) : Int) := by
  have f1 := fits_lt h hv
  have f2 := fits_lt (v := onesN n) h (by rw [onesV_cast]; exact Int.le_refl _)
  have hp := pow_pos2 a.toNat
  rw [shl_wrap h hv, onesV_cast, shl_wrap h (by rw [onesV_cast]; exact Int.le_refl _), u64_andNot_nat _ _ hx (by omega)]
  unfold setN
  exact u64_or_nat _ _ (Nat.lt_of_le_of_lt Nat.and_le_left hx) (by omega)

def fitL : Int → List Int → Bool
  | _, [] => true
  | left, x :: r => if x < 1 ∨ left < x then false else fitL (left - x) r

theorem fitL_no {left x : Int} {ws : List Int} {k : Nat} (hx : ws[k]? = some x) (h : x < 1 ∨ left < x) : fitL left (ws.drop k) = false := by
  obtain ⟨hk, rfl⟩ := List.getElem?_eq_some_iff.1 hx
  rw [List.drop_eq_getElem_cons hk, fitL, if_pos h]
theorem fitL_yes {left x : Int} {ws : List Int} {k : Nat} (hx : ws[k]? = some x) (h1 : ¬ x < 1) (h2 : ¬ left < x) : fitL left (ws.drop k) = fitL (left - x) (ws.drop (k + 1)) := by
  obtain ⟨hk, rfl⟩ := List.getElem?_eq_some_iff.1 hx
  rw [List.drop_eq_getElem_cons hk, fitL, if_neg (by omega)]
theorem fitL_end {left : Int} {ws : List Int} {k : Nat} (hk : ws.length ≤ k) : fitL left (ws.drop k) = true := by
  rw [List.drop_eq_nil_of_le hk, fitL]

theorem fitL_cons {left x : Int} {r : List Int} (h : fitL left (x :: r) = true) : 1 ≤ x ∧ x ≤ left ∧ fitL (left - x) r = true := by
  rw [fitL] at h
  by_cases c : x < 1 ∨ left < x
  · rw [if_pos c] at h; cases h
  · rw [if_neg c] at h; exact ⟨by omega, by omega, h⟩
def sumW : List Int → Nat
  | [] => 0
  | x :: r => x.toNat + sumW r
theorem fitL_sum : ∀ (ws : List Int) (left : Int), 0 ≤ left → fitL left ws = true → (sumW ws : Int) ≤ left
  | [], _, h, _ => by simp [sumW]; exact h
  | x :: r, left, h, hf => by
    obtain ⟨h1, h2, h3⟩ := fitL_cons hf
    have := fitL_sum r (left - x) (by omega) h3
    rw [sumW]; omega
theorem fitL_mem : ∀ (ws : List Int) (left : Int), 0 ≤ left → fitL left ws = true → ∀ x ∈ ws, 1 ≤ x ∧ x ≤ left
  | [], _, _, _, x, hx => by cases hx
  | y :: r, left, h, hf, x, hx => by
    obtain ⟨h1, h2, h3⟩ := fitL_cons hf
    rcases List.mem_cons.1 hx with rfl | hx
    · exact ⟨h1, h2⟩
    · have := fitL_mem r (left - y) (by omega) h3 x hx
      omega
theorem sumW_drop : ∀ (k : Nat) (ws : List Int), sumW (ws.drop k) ≤ sumW ws
  | 0, ws => by simp
  | _ + 1, [] => by simp
  | k + 1, x :: r => by
    have := sumW_drop k r
    rw [List.drop_succ_cons, sumW]; omega

def okF (fs : List (Int × Nat)) : Bool := fs.all fun f => decide ((f.2 : Int) ≤ onesV f.1)
def packR : List (Int × Nat) → Nat
  | [] => 0
  | f :: r => packR r <<< f.1.toNat ||| f.2
def packB (fs : List (Int × Nat)) : Int × Int := if fitL 64 (fs.map (·.1)) = true then (if okF fs = true then ((packR fs : Nat), 0) else (0, 2)) else (0, 1)

theorem lt_pow_of_ones {v : Nat} {x : Int} (h1 : x ≤ 64) (h : (v : Int) ≤ onesV x) : v < 2 ^ x.toNat := by
  have e : min x.toNat 64 = x.toNat := by omega
  have hp := pow_pos2 x.toNat
  rw [onesV_cast] at h; unfold onesN at h; rw [e] at h; omega
theorem join_lt {a b s t : Nat} (ha : a < 2 ^ s) (hb : b < 2 ^ t) : a <<< t ||| b < 2 ^ (s + t) := by
  rw [← Nat.shiftLeft_add_eq_or_of_lt hb, Nat.shiftLeft_eq, Nat.pow_add]
  calc a * 2 ^ t + b < a * 2 ^ t + 2 ^ t := by omega
    _ = (a + 1) * 2 ^ t := by rw [Nat.add_mul]; omega
    _ ≤ 2 ^ s * 2 ^ t := Nat.mul_le_mul_right _ ha
theorem packR_lt : ∀ (fs : List (Int × Nat)), okF fs = true → (∀ x ∈ fs.map (·.1), 1 ≤ x ∧ x ≤ 64) → packR fs < 2 ^ sumW (fs.map (·.1))
  | [], _, _ => by simp [packR, sumW]
  | f :: r, hok, hw => by
    simp only [okF, List.all_cons, Bool.and_eq_true, decide_eq_true_eq] at hok
    have h1 := packR_lt r hok.2 (fun x hx => hw x (List.mem_cons_of_mem _ hx))
    have h2 := lt_pow_of_ones (hw f.1 (by simp)).2 hok.1
    have := join_lt h1 h2
    rw [packR, List.map_cons, sumW, Nat.add_comm]
    exact this
theorem fits_all {fs : List (Int × Nat)} (hf : fitL 64 (fs.map (·.1)) = true) (k : Nat) : (∀ x ∈ (fs.drop k).map (·.1), 1 ≤ x ∧ x ≤ 64) ∧ sumW ((fs.drop k).map (·.1)) ≤ 64 := by
  refine ⟨fun x hx => fitL_mem _ _ (by omega) hf x ?_, ?_⟩
  · rw [List.map_drop] at hx; exact List.mem_of_mem_drop hx
  · rw [List.map_drop]
    have h1 := sumW_drop k (fs.map (·.1))
    have h2 := fitL_sum _ _ (by omega) hf
    omega
/-- One round of Pack: the field at place i goes below what lies behind it. -/
theorem pack_step {fs : List (Int × Nat)} {i : Nat} {x : Int × Nat} (hx : fs[i]? = some x) (hf : fitL 64 (fs.map (·.1)) = true) (hok : okF (fs.drop (i + 1)) = true) (hv : (x.2 : Int) ≤ onesV x.1) :
    1 ≤ x.1 ∧ x.1 ≤ 64 ∧ okF (fs.drop i) = true ∧ bits .or .u64 (IntKind.u64.wrap ((packR (fs.drop (i + 1)) : Nat) * 2 ^ x.1.toNat)) (x.2 : Int) = ((packR (fs.drop i) : Nat) : Int) := by
  obtain ⟨hi, rfl⟩ := List.getElem?_eq_some_iff.1 hx
  have e : fs.drop i = fs[i] :: fs.drop (i + 1) := List.drop_eq_getElem_cons hi
  obtain ⟨w1, w2⟩ := fits_all hf (i + 1)
  obtain ⟨w3, w4⟩ := fits_all hf i
  rw [e] at w3 w4
  have hb := w3 fs[i].1 (by rw [List.map_cons]; exact List.mem_cons_self)
  have hl := packR_lt _ hok w1
  have h2 := lt_pow_of_ones hb.2 hv
  have hj := join_lt hl h2
  rw [List.map_cons, sumW] at w4
  have h64 : (2 : Nat) ^ (sumW ((fs.drop (i + 1)).map (·.1)) + fs[i].1.toNat) ≤ 18446744073709551616 := pow_le64 _ (by omega)
  refine ⟨hb.1, hb.2, ?_, ?_⟩
  · rw [e]; simp only [okF, List.all_cons, Bool.and_eq_true, decide_eq_true_eq]; exact ⟨hv, hok⟩
  · have hs : packR (fs.drop (i + 1)) <<< fs[i].1.toNat ≤ packR (fs.drop (i + 1)) <<< fs[i].1.toNat ||| fs[i].2 := Nat.left_le_or
    have hr : fs[i].2 ≤ packR (fs.drop (i + 1)) <<< fs[i].1.toNat ||| fs[i].2 := Nat.right_le_or
    rw [IntKind.wrap_u64, ← ipow_cast, ← Int.natCast_mul, ← Nat.shiftLeft_eq, e, packR]
    generalize packR (fs.drop (i + 1)) <<< fs[i].1.toNat = s at *
    have e2 : (s : Int) % 18446744073709551616 = (s : Int) := by omega
    rw [e2]
    exact u64_or_nat _ _ (by omega) (by omega)
theorem pack_bad {fs : List (Int × Nat)} {i : Nat} {x : Int × Nat} (hx : fs[i]? = some x) (hv : ¬ (x.2 : Int) ≤ onesV x.1) : okF fs = false := by
  rw [← Bool.not_eq_true]
  intro h
  have := List.all_eq_true.1 h x (List.mem_of_getElem? hx)
  simp at this; exact hv this

theorem onesN_bit (n : Int) (i : Nat) : (onesN n).testBit i = decide (i < min n.toNat 64) := by
  unfold onesN; rw [Nat.testBit_two_pow_sub_one]
theorem setN_lt {x v : Nat} {a n : Int} (hx : x < 18446744073709551616) (h : inW a n = true) (hv : (v : Int) ≤ onesV n) : setN x a n v < 18446744073709551616 := by
  have f1 := fits_lt h hv
  have hp := pow_pos2 a.toNat
  exact Nat.or_lt_two_pow (n := 64) (Nat.lt_of_le_of_lt Nat.and_le_left hx) (by omega)
theorem setN_bit {x v : Nat} {a n : Int} (h : inW a n = true) (i : Nat) :
    (setN x a n v).testBit i = ((x.testBit i && (decide (i < 64) && !(decide (a.toNat ≤ i) && decide (i - a.toNat < n.toNat)))) || (decide (a.toNat ≤ i) && v.testBit (i - a.toNat))) := by
  obtain ⟨h1, h2, h3⟩ := inW_true h
  have f2 := fits_lt (v := onesN n) h (by rw [onesV_cast]; exact Int.le_refl _)
  have hp := pow_pos2 a.toNat
  have e : min n.toNat 64 = n.toNat := by omega
  have e64 : (18446744073709551615 : Nat) - onesN n <<< a.toNat = 2 ^ 64 - (onesN n <<< a.toNat + 1) := by omega
  unfold setN
  rw [Nat.testBit_or, Nat.testBit_and, e64, Nat.testBit_two_pow_sub_succ (by omega), Nat.testBit_shiftLeft, Nat.testBit_shiftLeft, onesN_bit, e]
theorem set_get {x v : Nat} {a n : Int} (h : inW a n = true) (hv : (v : Int) ≤ onesV n) : setN x a n v >>> a.toNat &&& onesN n = v := by
  obtain ⟨h1, h2, h3⟩ := inW_true h
  have e : min n.toNat 64 = n.toNat := by omega
  have hlt := lt_pow_of_ones (by omega) hv
  refine Nat.eq_of_testBit_eq fun j => ?_
  rw [Nat.testBit_and, Nat.testBit_shiftRight, setN_bit h, onesN_bit, e]
  have ej : a.toNat + j - a.toNat = j := by omega
  rw [ej]
  by_cases hj : j < n.toNat
  · simp [hj]
  · have : v.testBit j = false := Nat.testBit_lt_two_pow (Nat.lt_of_lt_of_le hlt (Nat.pow_le_pow_right (by decide) (by omega)))
    simp [hj, this]
theorem set_keep {x v : Nat} {a n : Int} (h : inW a n = true) (hv : (v : Int) ≤ onesV n) (i : Nat) (hi : i < 64) (ho : ¬ (a.toNat ≤ i ∧ i < a.toNat + n.toNat)) : (setN x a n v).testBit i = x.testBit i := by
  obtain ⟨h1, h2, h3⟩ := inW_true h
  have hlt := lt_pow_of_ones (by omega) hv
  rw [setN_bit h]
  by_cases hj : a.toNat ≤ i
  · have h4 : ¬ i - a.toNat < n.toNat := by omega
    have : v.testBit (i - a.toNat) = false := Nat.testBit_lt_two_pow (Nat.lt_of_lt_of_le hlt (Nat.pow_le_pow_right (by decide) (by omega)))
    simp [h4, this, hi]
  · simp [hj, hi]
theorem bit_spell (x i : Nat) (hx : x < 18446744073709551616) : bits .and .u64 ((x : Int) / 2 ^ i) 1 = (((x.testBit i).toNat : Nat) : Int) := by
  rw [shr_cast]
  have := u64_and_nat (x >>> i) 1 (shr_lt _ _ hx) (by omega)
  rw [show ((1 : Nat) : Int) = 1 from rfl] at this
  rw [this, Nat.and_one_is_mod, Nat.toNat_testBit, Nat.shiftRight_eq_div_pow]

end Go.Proofs.YtpfbofcofhcfpaaDoor
