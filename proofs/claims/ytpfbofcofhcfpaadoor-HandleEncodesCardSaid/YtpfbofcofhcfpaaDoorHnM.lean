/- Plain mathematics of words of handles (layer 16). -/
import Derived.Test.YtpfbofcofhcfpaaDoorBitsP
import Derived.Test.YtpfbofcofhcfpaaDoorRow
namespace Go.Proofs.YtpfbofcofhcfpaaDoor
open Go.RowKit

/-- Which handles are valid. -/
def validH (t i s : Int) : Bool := decide (1 ≤ t ∧ t ≤ 3 ∧ 0 ≤ i ∧ i ≤ 65535 ∧ 1 ≤ s ∧ s ≤ 4294967295)
theorem vh_parts {t i s : Int} (h : validH t i s = true) : 1 ≤ t ∧ t ≤ 3 ∧ 0 ≤ i ∧ i ≤ 65535 ∧ 1 ≤ s ∧ s ≤ 4294967295 := by
  unfold validH at h; exact of_decide_eq_true h
theorem vh_mk {t i s : Int} (h : 1 ≤ t ∧ t ≤ 3 ∧ 0 ≤ i ∧ i ≤ 65535 ∧ 1 ≤ s ∧ s ≤ 4294967295) : validH t i s = true := by
  unfold validH; exact decide_eq_true h
theorem vh_no {t i s : Int} (h : ¬ (1 ≤ t ∧ t ≤ 3 ∧ 0 ≤ i ∧ i ≤ 65535 ∧ 1 ≤ s ∧ s ≤ 4294967295)) : validH t i s = false := by
  unfold validH; exact decide_eq_false h

/-- The word of a handle. -/
def wordH (t i s : Int) : Int := t + 4 * i + 262144 * s
def hencV (t i s : Int) : Int := if validH t i s then wordH t i s else 0
def hencE (t i s : Int) : Int := if validH t i s then 0 else 1
theorem henc_ok {t i s : Int} (h : validH t i s = true) : hencV t i s = wordH t i s ∧ hencE t i s = 0 := by
  unfold hencV hencE; rw [if_pos h, if_pos h]; exact ⟨rfl, rfl⟩
theorem henc_no {t i s : Int} (h : validH t i s = false) : hencV t i s = 0 ∧ hencE t i s = 1 := by
  unfold hencV hencE; rw [if_neg (by simp [h]), if_neg (by simp [h])]; exact ⟨rfl, rfl⟩
theorem wordH_bd {t i s : Int} (h : validH t i s = true) : 262144 < wordH t i s ∧ wordH t i s < 1125899906842624 := by
  obtain ⟨h1, h2, h3, h4, h5, h6⟩ := vh_parts h
  unfold wordH; omega

/-- The parts of a word. -/
def hT (x : Nat) : Nat := x % 4
def hI (x : Nat) : Nat := x / 4 % 65536
def hS (x : Nat) : Nat := x / 262144
def okH (x : Nat) : Bool := validH (hT x) (hI x) (hS x)
def hdT (x : Nat) : Int := if okH x then hT x else 0
def hdI (x : Nat) : Int := if okH x then hI x else 0
def hdS (x : Nat) : Int := if okH x then hS x else 0
def hdE (x : Nat) : Int := if x = 0 then 5 else if okH x then 0 else 6
theorem hd_ok {x : Nat} (h : okH x = true) : hdT x = hT x ∧ hdI x = hI x ∧ hdS x = hS x ∧ hdE x = 0 := by
  unfold hdT hdI hdS hdE
  have h0 : x ≠ 0 := by rintro rfl; revert h; decide
  rw [if_pos h, if_pos h, if_pos h, if_neg h0, if_pos h]; exact ⟨rfl, rfl, rfl, rfl⟩
theorem hd_zero : hdT 0 = 0 ∧ hdI 0 = 0 ∧ hdS 0 = 0 ∧ hdE 0 = 5 := by decide
theorem hd_no {x : Nat} (h0 : x ≠ 0) (h : okH x = false) : hdT x = 0 ∧ hdI x = 0 ∧ hdS x = 0 ∧ hdE x = 6 := by
  unfold hdT hdI hdS hdE
  rw [if_neg (by simp [h]), if_neg (by simp [h]), if_neg (by simp [h]), if_neg h0, if_neg (by simp [h])]; exact ⟨rfl, rfl, rfl, rfl⟩
/-- A word that is decoded is the one of its handle. -/
theorem hd_word {x : Nat} : wordH (hT x) (hI x) (hS x) = x := by unfold wordH hT hI hS; omega
theorem okH_lt {x : Nat} (h : okH x = true) : x < 1125899906842624 := by
  obtain ⟨_, _, _, _, _, h6⟩ := vh_parts h; unfold hS at h6; omega
/-- A handle is decoded from its word. -/
theorem wordH_dec {t i s : Int} (h : validH t i s = true) {x : Nat} (hx : wordH t i s = x) : okH x = true ∧ (hT x : Int) = t ∧ (hI x : Int) = i ∧ (hS x : Int) = s := by
  obtain ⟨h1, h2, h3, h4, h5, h6⟩ := vh_parts h
  have e1 : (hT x : Int) = t := by unfold wordH at hx; unfold hT; omega
  have e2 : (hI x : Int) = i := by unfold wordH at hx; unfold hI; omega
  have e3 : (hS x : Int) = s := by unfold wordH at hx; unfold hS; omega
  exact ⟨by unfold okH; rw [e1, e2, e3]; exact h, e1, e2, e3⟩
theorem okH_small {x : Nat} (h : x < 262144) : okH x = false := by
  unfold okH; apply vh_no; intro c; unfold hS at c; omega

/-- What Pack and Unpack say of the three widths. -/
theorem packR_consH {f : Int × Nat} {r : List (Int × Nat)} (h : f.2 < 2 ^ f.1.toNat) : packR (f :: r) = packR r * 2 ^ f.1.toNat + f.2 := by
  rw [packR, ← Nat.shiftLeft_add_eq_or_of_lt h, Nat.shiftLeft_eq]
theorem pack_hand {t i s : Nat} (h : validH t i s = true) : packB [(2, t), (16, i), (32, s)] = (wordH t i s, 0) := by
  obtain ⟨h1, h2, h3, h4, h5, h6⟩ := vh_parts h
  rw [packB_ok (by simp [fitL]) (by simp [okF, onesV]; omega)]
  rw [packR_consH (by simp; omega), packR_consH (by simp; omega), packR_consH (by simp; omega)]
  simp only [packR, wordH]
  simp
  omega
theorem frow3 (w : World) (T : TypeId) (a b c : Int) (x y z : Nat) : FRow (w.alloc (.cells #[.int .i64 a, .int .u64 x, .int .i64 b, .int .u64 y, .int .i64 c, .int .u64 z] T)) (some ⟨w.heap.size, 0, none⟩) [(a, x), (b, y), (c, z)] := by
  intro i f hf
  refine ⟨w.heap.size, 0, rfl, ?_⟩
  match i with
  | 0 => simp at hf; subst hf; simp
  | 1 => simp at hf; subst hf; simp
  | 2 => simp at hf; subst hf; simp
  | n + 3 => simp at hf
theorem irow3 (w : World) (T : TypeId) (kd : IntKind) (a b c : Int) : IRow (w.alloc (.cells #[.int kd a, .int kd b, .int kd c] T)) kd (some ⟨w.heap.size, 0, none⟩) [a, b, c] := by
  intro i x hx
  refine ⟨w.heap.size, 0, rfl, ?_⟩
  match i with
  | 0 => simp at hx; subst hx; simp
  | 1 => simp at hx; subst hx; simp
  | 2 => simp at hx; subst hx; simp
  | n + 3 => simp at hx

/-- The package's table of widths. -/
structure Wid (w : World) : Prop where
  g0 : w.cell? ⟨0, 0, none⟩ = some (.int .i64 2)
  g1 : w.cell? ⟨0, 1, none⟩ = some (.int .i64 16)
  g2 : w.cell? ⟨0, 2, none⟩ = some (.int .i64 32)
theorem Wid.keep {w w' : World} (h : Wid w) (hb : Below w.heap.size w w') : Wid w' := ⟨cell_keep hb h.g0, cell_keep hb h.g1, cell_keep hb h.g2⟩
theorem Wid.pos {w : World} (h : Wid w) : 0 < w.heap.size := cell_lt h.g0
theorem Wid.ne {w : World} (h : Wid w) : ¬ 0 = w.heap.size := Nat.ne_of_lt (cell_lt h.g0)
theorem Wid.alloc {w : World} (h : Wid w) (o : Obj) : Wid (w.alloc o) := h.keep below_box
theorem Wid.drewN {w : World} (h : Wid w) (n : Nat) : Wid (w.drewN n) := ⟨h.g0, h.g1, h.g2⟩
end Go.Proofs.YtpfbofcofhcfpaaDoor
