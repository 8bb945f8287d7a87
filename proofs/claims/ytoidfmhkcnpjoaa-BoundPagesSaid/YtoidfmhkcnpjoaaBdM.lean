/- Plain answers of layer 13: Pages, Sure; the least and the greatest of five numbers as the model's built-ins have them. -/
import Derived.Test.YtoidfmhkcnpjoaaAlcM
namespace Go.Proofs.Ytoidfmhkcnpjoaa
open Go.RowKit

/-- The numbers of a Live. -/
structure Lv where
  o : Int
  wd : Int
  s : Int
  la : Int
  pi : Int
abbrev Lv.val (l : Lv) : Value := .agg #[.int .i64 l.o, .int .i64 l.wd, .int .i64 l.s, .int .i64 l.la, .int .i64 l.pi]
def inR (a : Int) : Prop := 0 ≤ a ∧ a ≤ 2147483647
instance (a : Int) : Decidable (inR a) := by unfold inR; infer_instance
def liveB (l : Lv) : Bool := decide (inR l.o ∧ inR l.wd ∧ inR l.s ∧ inR l.la ∧ inR l.pi)
theorem live_mk {l : Lv} (h : inR l.o ∧ inR l.wd ∧ inR l.s ∧ inR l.la ∧ inR l.pi) : liveB l = true := decide_eq_true h
theorem live_no {l : Lv} (h : ¬ (inR l.o ∧ inR l.wd ∧ inR l.s ∧ inR l.la ∧ inR l.pi)) : liveB l = false := decide_eq_false h
theorem live_parts {l : Lv} (h : liveB l = true) : inR l.o ∧ inR l.wd ∧ inR l.s ∧ inR l.la ∧ inR l.pi := of_decide_eq_true h
def copyV (pw s : Int) : Int := (4 * s + 3 * pw - 1).tdiv (3 * pw)
def pagesV (pw np : Int) (l : Lv) : Int := if confB pw np = true ∧ liveB l = true then l.pi + l.la + copyV pw l.s else 0
theorem pages_ok {pw np : Int} {l : Lv} (h : confB pw np = true) (h1 : liveB l = true) : pagesV pw np l = l.pi + l.la + copyV pw l.s := by unfold pagesV; rw [if_pos ⟨h, h1⟩]
theorem pages_no {pw np : Int} {l : Lv} (h : confB pw np = false ∨ liveB l = false) : pagesV pw np l = 0 := by
  unfold pagesV
  rw [if_neg]
  rintro ⟨h1, h2⟩
  rcases h with h | h
  · rw [h] at h1; cases h1
  · rw [h] at h2; cases h2
theorem copy_bound {pw s : Int} (h1 : 16 ≤ pw) (h2 : pw ≤ 64) (h : inR s) : 0 ≤ copyV pw s ∧ copyV pw s ≤ 8589934780 := by
  unfold copyV
  obtain ⟨h3, h4⟩ := h
  rw [Int.tdiv_eq_ediv_of_nonneg (by omega)]
  constructor
  · exact Int.ediv_nonneg (by omega) (by omega)
  · exact Int.le_trans (Int.ediv_le_self _ (by omega)) (by omega)
theorem pages_bound (pw np : Int) (l : Lv) : 0 ≤ pagesV pw np l ∧ pagesV pw np l ≤ 12884902074 := by
  by_cases h : confB pw np = true ∧ liveB l = true
  · rw [pages_ok h.1 h.2]
    obtain ⟨a1, a2, -, -, -⟩ := conf_parts h.1
    obtain ⟨-, -, b3, b4, b5⟩ := live_parts h.2
    have := copy_bound a1 a2 b3
    unfold inR at b4 b5
    omega
  · have : pagesV pw np l = 0 := by unfold pagesV; rw [if_neg h]
    omega
/-- Where objects can be asked for: whether there is room for k pages above p. -/
def roomB (np lim p k : Int) : Bool := decide (p + max 1 k ≤ lim ∧ (p + 1) * (max 1 k - 1) < np - p)
def sureB (pw np : Int) (l : Lv) (k n m : Int) : Bool := asksB pw np k n m && (liveB l && roomB np (limitV pw np) (pagesV pw np l) (needV pw np (sizeV k n m)))
theorem room_small {pw np p : Int} (h : confB pw np = true) (h0 : 0 ≤ p) : roomB np (limitV pw np) p 0 = decide (p + 1 ≤ limitV pw np) := by
  obtain ⟨-, -, -, h4, h5⟩ := conf_parts h
  rw [limit_ok h]
  unfold roomB
  have e : max (1 : Int) 0 = 1 := rfl
  rw [e]
  refine decide_eq_decide.2 ⟨fun h => h.1, fun h => ⟨h, ?_⟩⟩
  have : (p + 1) * (1 - 1) = 0 := by simp
  omega
theorem room_large {np lim p k : Int} (h : 1 ≤ k) : roomB np lim p k = decide (p + k ≤ lim ∧ (p + 1) * (k - 1) < np - p) := by
  unfold roomB
  rw [Int.max_eq_right h]
theorem asks_conf {pw np k n m : Int} (h : asksB pw np k n m = true) : confB pw np = true := by
  cases hc : confB pw np
  · unfold asksB at h
    rw [need_no (Or.inl hc)] at h
    simp at h
  · rfl
theorem need_range (pw np n : Int) : -1 ≤ needV pw np n ∧ needV pw np n ≤ 4 := by
  unfold needV
  split
  · unfold needP
    repeat' split
    all_goals omega
  · omega

def mn2 (x y : Int) : Int := if y < x then y else x
def mx2 (x y : Int) : Int := if y > x then y else x
def mn5 (a b c d e : Int) : Int := mn2 (mn2 (mn2 (mn2 a b) c) d) e
def mx5 (a b c d e : Int) : Int := mx2 (mx2 (mx2 (mx2 a b) c) d) e
theorem run_mn5 {P : Program} (w : World) (ts : Array TypeId) (t : TypeId) (a b c d e : Int) :
    (Builtin.min_ ts t #[.int .i64 a, .int .i64 b, .int .i64 c, .int .i64 d, .int .i64 e]).run P w = .ok (.int .i64 (mn5 a b c d e)) w := by
  simp [Builtin.min_, Builtin.min2, mn5, mn2]
  try rfl
theorem run_mx5 {P : Program} (w : World) (ts : Array TypeId) (t : TypeId) (a b c d e : Int) :
    (Builtin.max_ ts t #[.int .i64 a, .int .i64 b, .int .i64 c, .int .i64 d, .int .i64 e]).run P w = .ok (.int .i64 (mx5 a b c d e)) w := by
  simp [Builtin.max_, Builtin.max2, mx5, mx2]
  try rfl
theorem mn2_ge {z x y : Int} : z ≤ mn2 x y ↔ z ≤ x ∧ z ≤ y := by unfold mn2; split <;> omega
theorem mx2_le {z x y : Int} : mx2 x y ≤ z ↔ x ≤ z ∧ y ≤ z := by unfold mx2; split <;> omega
theorem live_low (l : Lv) : liveB l = (decide (0 ≤ mn5 l.o l.wd l.s l.la l.pi) && decide (mx5 l.o l.wd l.s l.la l.pi ≤ 2147483647)) := by
  rw [← Bool.decide_and]
  unfold liveB mn5 mx5 inR
  refine decide_eq_decide.2 ?_
  simp only [mn2_ge, mx2_le]
  omega
end Go.Proofs.Ytoidfmhkcnpjoaa
