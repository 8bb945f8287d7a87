/- Contracts of package bits (Ones, fit, Pack, Unpack), for every seat that calls it: over Kit and BitsM. -/
import Derived.Test.YtoidfmhkcnpjoaaKit
import Derived.Test.YtoidfmhkcnpjoaaBitsM
namespace Go.Proofs.Ytoidfmhkcnpjoaa
open Go.RowKit

theorem ret_u64 {a b : Int} (h : a = b) : Ending.returned (.int .u64 a) = .returned (.int .u64 b) := by rw [h]

set_option maxHeartbeats 400000 in
theorem ones_any (n : Int) (w : World) :
    Calls Try.prog 29 #[.int .i64 n] w fun e w' => e = .returned (.int .u64 (onesV n)) ∧ w = w' := by
  by_cases h : n < 0
  · have e := onesV_neg n h
    have e := Lib.hid e
    go_enter Try.func29, Try.ntmps29
    go_wp2
    go_ret
    exact ⟨ret_u64 (by rw [e.out]), rfl⟩
  · have e := onesV_wrap n
    have e := Lib.hid e
    go_enter Try.func29, Try.ntmps29
    go_wp2
    go_ret
    exact ⟨ret_u64 (by rw [← e.out]), rfl⟩

def Clos (F : FuncId) (cp : Value) (ws : List Int) (w : World) : Prop :=
  ∀ (i : Nat) (x : Int), ws[i]? = some x → Calls Try.prog F #[.int .i64 i, cp] w fun e w' => e = .returned (.int .i64 x) ∧ w = w'

/-- Slice value (p, len) reads as the fields fs. -/
def FRow (w : World) (p : Option Addr) (fs : List (Int × Nat)) : Prop :=
  ∀ (i : Nat) (x : Int × Nat), fs[i]? = some x → ∃ b off, p = some ⟨b, off, none⟩ ∧ w.cell? ⟨b, off + i * 2, none⟩ = some (.int .i64 x.1) ∧ w.cell? ⟨b, off + i * 2 + 1, none⟩ = some (.int .u64 x.2)
theorem FRow.keep {w w' : World} {p : Option Addr} {fs : List (Int × Nat)} (h : FRow w p fs) (hb : Below w.heap.size w w') : FRow w' p fs := by
  intro i x hx
  obtain ⟨b, off, hp, h1, h2⟩ := h i x hx
  exact ⟨b, off, hp, cell_keep hb h1, cell_keep hb h2⟩

theorem packB_bad {fs : List (Int × Nat)} (h1 : fitL 64 (fs.map (·.1)) = true) (h : okF fs = false) : packB fs = (0, 2) := by
  unfold packB; rw [if_pos h1, if_neg (by simp [h])]
theorem packB_ok {fs : List (Int × Nat)} (h1 : fitL 64 (fs.map (·.1)) = true) (h : okF fs = true) : packB fs = (((packR fs : Nat) : Int), 0) := by
  unfold packB; rw [if_pos h1, if_pos h]
theorem packB_no {fs : List (Int × Nat)} (h1 : ¬ fitL 64 (fs.map (·.1)) = true) : packB fs = (0, 1) := by
  unfold packB; rw [if_neg h1]
theorem ret_u64i {a b c d : Int} (h : (a, c) = (b, d)) : Ending.returned (.tuple #[.int .u64 a, .int .i64 c]) = .returned (.tuple #[.int .u64 b, .int .i64 d]) := by
  injection h with h1 h2; rw [h1, h2]

theorem drop_all {α : Type} {fs : List α} {k : Nat} (h : fs.length ≤ k) : fs.drop k = [] := List.drop_eq_nil_of_le h

theorem sumW_snoc (l : List Int) (x : Int) : sumW (l ++ [x]) = sumW l + x.toNat := by
  induction l with
  | nil => simp [sumW]
  | cons g l ih => rw [List.cons_append, sumW, ih, sumW]; omega
def shrN (x s : Nat) : Nat := x >>> s
/-- The numbers of the fields of x with widths ws. -/
def uvals : Nat → List Int → List Int
  | _, [] => []
  | x, a :: r => ((x &&& onesN a : Nat) : Int) :: uvals (x >>> a.toNat) r
theorem uvals_snoc (ws : List Int) (a : Int) : ∀ x, uvals x (ws ++ [a]) = uvals x ws ++ [(((x >>> sumW ws) &&& onesN a : Nat) : Int)] := by
  induction ws with
  | nil => intro x; simp [uvals, sumW]
  | cons b r ih => intro x; rw [List.cons_append, uvals, ih, uvals, sumW, Nat.shiftRight_add]; rfl
theorem uvals_len (ws : List Int) : ∀ x, (uvals x ws).length = ws.length := by
  induction ws with
  | nil => intro x; rfl
  | cons b r ih => intro x; rw [uvals, List.length_cons, ih, List.length_cons]
def unpE (x : Nat) (ws : List Int) : Int := if fitL 64 ws = true then (if x >>> sumW ws = 0 then 0 else 2) else 1
def unpV (x : Nat) (ws : List Int) : List Int := if fitL 64 ws = true then (if x >>> sumW ws = 0 then uvals x ws else []) else []

theorem unp_no {x : Nat} {ws : List Int} (h : ¬ fitL 64 ws = true) : Hid (unpE x ws = 1) ∧ Hid (unpV x ws = []) := by
  unfold unpE unpV; rw [if_neg h, if_neg h]; exact ⟨rfl, rfl⟩
theorem unp_bad {x : Nat} {ws : List Int} (h : fitL 64 ws = true) (hx : ¬ x >>> sumW ws = 0) : Hid (unpE x ws = 2) ∧ Hid (unpV x ws = []) := by
  unfold unpE unpV; rw [if_pos h, if_pos h, if_neg hx, if_neg hx]; exact ⟨rfl, rfl⟩
theorem unp_ok {x : Nat} {ws : List Int} (h : fitL 64 ws = true) (hx : x >>> sumW ws = 0) : Hid (unpE x ws = 0) ∧ Hid (unpV x ws = uvals x ws) := by
  unfold unpE unpV; rw [if_pos h, if_pos h, if_pos hx, if_pos hx]; exact ⟨rfl, rfl⟩

theorem unpV_len (x : Nat) (ws : List Int) : (unpV x ws).length ≤ ws.length := by
  unfold unpV
  by_cases h : fitL 64 ws = true
  · rw [if_pos h]
    by_cases hz : x >>> sumW ws = 0
    · rw [if_pos hz, uvals_len]; exact Nat.le_refl _
    · rw [if_neg hz]; exact Nat.zero_le _
  · rw [if_neg h]; exact Nat.zero_le _

/-- What the row holds behind k rounds. -/
def urow (x : Nat) (ws : List Int) (k : Nat) : List Int := uvals x (ws.take k) ++ List.replicate (ws.length - k) 0
theorem urow_len (x : Nat) (ws : List Int) (k : Nat) (hk : k ≤ ws.length) : (urow x ws k).length = ws.length := by
  unfold urow; rw [List.length_append, uvals_len, List.length_take, List.length_replicate]; omega
theorem urow_set {x : Nat} {ws : List Int} {k : Nat} {a : Int} (h : ws[k]? = some a) : (urow x ws k).set k (((x >>> sumW (ws.take k)) &&& onesN a : Nat) : Int) = urow x ws (k + 1) := by
  have hk := (List.getElem?_eq_some_iff.1 h).1
  unfold urow
  have e1 : ws.length - k = (ws.length - (k + 1)) + 1 := by omega
  have e2 : (uvals x (ws.take k)).length = k := by rw [uvals_len, List.length_take]; omega
  rw [take_snoc' h, uvals_snoc, e1, List.replicate_succ, List.set_append_right _ _ (by omega), e2, Nat.sub_self, List.set_cons_zero, List.append_assoc]; rfl
theorem urow_get {x : Nat} {ws : List Int} {k : Nat} (h : k < ws.length) : ∃ u, (ivals .u64 (urow x ws k))[k]? = some (.int .u64 u) := by
  have hl := urow_len x ws k (by omega)
  exact ⟨(urow x ws k)[k]'(by omega), by rw [ivals, List.getElem?_map, List.getElem?_eq_getElem (by omega)]; rfl⟩
theorem shr_step {x s : Nat} {a : Int} : ((shrN x s : Nat) : Int) / 2 ^ a.toNat = ((shrN x (s + a.toNat) : Nat) : Int) := by
  unfold shrN; rw [shr_cast, Nat.shiftRight_add]
theorem sumT_snoc {ws : List Int} {k : Nat} {a : Int} (h : ws[k]? = some a) : sumW (ws.take (k + 1)) = sumW (ws.take k) + a.toNat := by
  rw [take_snoc' h, sumW_snoc]

theorem row_step {x k n g base : Nat} {e : TypeId} {ws : List Int} {a : Int} {wr : World} (h : wr.ownsRow base e 1 (.slice (some ⟨g, 0, none⟩) n n) n (ivals .u64 (urow x ws k))) (ha : ws[k]? = some a) (hx : x < 18446744073709551616) :
    (wr.setCell ⟨g, k, none⟩ (.int .u64 (bits .and .u64 ((shrN x (sumW (ws.take k)) : Nat) : Int) (onesV a)))).ownsRow base e 1 (.slice (some ⟨g, 0, none⟩) n n) n (ivals .u64 (urow x ws (k + 1))) := by
  have h1 := (h.stored k (.int .u64 (bits .and .u64 ((shrN x (sumW (ws.take k)) : Nat) : Int) (onesV a)))).1
  have e1 : (ivals .u64 (urow x ws k)).set k (.int .u64 (bits .and .u64 ((shrN x (sumW (ws.take k)) : Nat) : Int) (onesV a))) = ivals .u64 (urow x ws (k + 1)) := by
    rw [and_spell (shrN x (sumW (ws.take k))) a (shr_lt _ _ hx), ivals_set, ← urow_set ha]; rfl
  rw [e1] at h1
  exact h1

end Go.Proofs.Ytoidfmhkcnpjoaa
