/- Contracts of the references of layer 4 on page tables: Runs, First. -/
import Derived.Test.YtoidfmhkcnpjoaaPageV
import Derived.IntWalk
namespace Go.Proofs.Ytoidfmhkcnpjoaa
open Go.RowKit

def rvals (rs : List (Int × Int)) : List Value := rs.flatMap fun r => [.int .i64 r.1, .int .i64 r.2]
theorem rvals_len (rs : List (Int × Int)) : (rvals rs).length = rs.length * 2 := flat_len _ 2 (fun _ => rfl) rs
theorem rvals_at (rs : List (Int × Int)) (k : Nat) (x : Int × Int) (h : rs[k]? = some x) : (rvals rs)[k * 2]? = some (.int .i64 x.1) ∧ (rvals rs)[k * 2 + 1]? = some (.int .i64 x.2) :=
  ⟨flat_at _ 2 (fun _ => rfl) rs k x 0 (by omega) h, flat_at _ 2 (fun _ => rfl) rs k x 1 (by omega) h⟩
theorem rvals_snoc (rs : List (Int × Int)) (x : Int × Int) : rvals rs ++ [.int .i64 x.1, .int .i64 x.2] = rvals (rs ++ [x]) := by simp [rvals]
theorem rvals_bump (pre : List (Int × Int)) (r : Int × Int) : (rvals (pre ++ [r])).set (pre.length * 2 + 1) (.int .i64 (r.2 + 1)) = rvals (pre ++ [(r.1, r.2 + 1)]) := by
  rw [← rvals_snoc, ← rvals_snoc, List.set_append_right _ _ (by rw [rvals_len]; omega), rvals_len, Nat.add_sub_cancel_left]; rfl
/-- A slice of runs. -/
def RRow (w : World) (p : Option Addr) (n cap : Nat) (rs : List (Int × Int)) : Prop := VRow w 2 p n cap (rvals rs)
theorem RRow.len {w : World} {p : Option Addr} {n cap : Nat} {rs : List (Int × Int)} (h : RRow w p n cap rs) : rs.length = n := by
  have := VRow.len h; rw [rvals_len] at this; omega
theorem RRow.keep {w w' : World} {p : Option Addr} {n cap : Nat} {rs : List (Int × Int)} (h : RRow w p n cap rs) (hb : Below w.heap.size w w') : RRow w' p n cap rs := VRow.keep h hb
theorem RRow.i63 {w : World} {p : Option Addr} {n cap : Nat} {rs : List (Int × Int)} (h : RRow w p n cap rs) : (cap : Int) ≤ 9223372036854775807 ∧ (n : Int) ≤ 9223372036854775807 := VRow.i63 h
theorem RRow.at_ {w : World} {p : Option Addr} {n cap : Nat} {rs : List (Int × Int)} (h : RRow w p n cap rs) {k : Nat} (hk : k < n) : ∃ x b off, rs[k]? = some x ∧ p = some ⟨b, off, none⟩ ∧ w.cell? ⟨b, off + k * 2, none⟩ = some (.int .i64 x.1) ∧ w.cell? ⟨b, off + k * 2 + 1, none⟩ = some (.int .i64 x.2) := by
  obtain ⟨b, off, hp, hc⟩ := VRow.at_ h hk (by omega)
  have hx : rs[k]? = some (rs[k]'(by rw [h.len]; exact hk)) := List.getElem?_eq_getElem _
  obtain ⟨h0, h1⟩ := rvals_at rs k _ hx
  exact ⟨_, b, off, hx, hp, hc 0 _ h0, hc 1 _ h1⟩
/-- A call returned a slice of runs. -/
def RetR (rs : List (Int × Int)) (e : Ending) (w' : World) : Prop := ∃ q m c, e = .returned (.slice q m c) ∧ RRow w' q m c rs

theorem runStep_no {out : List (Int × Int)} {k : Int} {x : Pg} (h : ¬ x.kind = 0) : runStep out k x = out := by unfold runStep; rw [if_neg h]
theorem runStep_nil {k : Int} {x : Pg} (h : x.kind = 0) : runStep [] k x = [(k, 1)] := by unfold runStep; rw [if_pos h]; rfl
theorem runStep_bump {pre : List (Int × Int)} {r : Int × Int} {k : Int} {x : Pg} (h : x.kind = 0) (he : r.1 + r.2 = k) : runStep (pre ++ [r]) k x = pre ++ [(r.1, r.2 + 1)] := by
  unfold runStep; rw [if_pos h]; simp [he]
theorem runStep_new {pre : List (Int × Int)} {r : Int × Int} {k : Int} {x : Pg} (h : x.kind = 0) (he : ¬ r.1 + r.2 = k) : runStep (pre ++ [r]) k x = pre ++ [r] ++ [(k, 1)] := by
  unfold runStep; rw [if_pos h]; simp [he]
theorem runsTo_step {ps : List Pg} {k : Nat} {x : Pg} (h : ps[k]? = some x) : runsTo ps (k + 1) = runStep (runsTo ps k) k x := by
  rw [runsTo, h]
theorem runs_cases (out : List (Int × Int)) : out = [] ∨ ∃ pre r, out = pre ++ [r] := by
  rcases List.eq_nil_or_concat out with h | ⟨pre, r, h⟩
  · exact Or.inl h
  · exact Or.inr ⟨pre, r, by rw [h, List.concat_eq_append]⟩
theorem runs_bd (ps : List Pg) : ∀ (k : Nat) (r : Int × Int), r ∈ runsTo ps k → 0 ≤ r.1 ∧ 1 ≤ r.2 ∧ r.1 + r.2 ≤ k
  | 0, r, h => by simp [runsTo] at h
  | k + 1, r, h => by
    have ih := runs_bd ps k
    cases hx : ps[k]? with
    | none =>
      rw [runsTo, hx] at h
      have := ih r h; omega
    | some x =>
      rw [runsTo_step hx] at h
      by_cases h0 : x.kind = 0
      · rcases runs_cases (runsTo ps k) with e | ⟨pre, q, e⟩
        · rw [e, runStep_nil h0] at h
          simp at h; subst h; simp
        · rw [e] at h ih
          have hq := ih q (by simp)
          by_cases he : q.1 + q.2 = k
          · rw [runStep_bump h0 he] at h
            rcases List.mem_append.1 h with h | h
            · have := ih r (List.mem_append_left _ h); omega
            · simp at h; subst h; simp; omega
          · rw [runStep_new h0 he] at h
            rcases List.mem_append.1 h with h | h
            · have := ih r h; omega
            · simp at h; subst h; simp
      · rw [runStep_no h0] at h
        have := ih r h; omega
theorem runs_len (ps : List Pg) : ∀ k : Nat, (runsTo ps k).length ≤ k
  | 0 => Nat.le_refl _
  | k + 1 => by
    have ih := runs_len ps k
    cases hx : ps[k]? with
    | none => rw [runsTo, hx]; exact Nat.le_succ_of_le ih
    | some x =>
      rw [runsTo_step hx]
      by_cases h0 : x.kind = 0
      · rcases runs_cases (runsTo ps k) with e | ⟨pre, q, e⟩
        · rw [e, runStep_nil h0]; simp
        · rw [e] at ih ⊢
          by_cases he : q.1 + q.2 = k
          · rw [runStep_bump h0 he]; simp at ih ⊢; omega
          · rw [runStep_new h0 he]; simp at ih ⊢; omega
      · rw [runStep_no h0]; omega

theorem own_drewN {w : World} {base s n : Nat} {e : TypeId} {v : Value} {xs : List Value} (h : w.ownsRow base e s v n xs) (d : Nat) : (w.drewN d).ownsRow base e s v n xs := own_below h (below_drewN (Below.refl _ _) _)
end Go.Proofs.Ytoidfmhkcnpjoaa
