/- A map from indexes to references, held by what it says at each index. -/
import Derived.Test.YtggaaobpaodigaaSlM
import Derived.Maps.OwnSet
set_option linter.unusedVariables false
namespace Go.Proofs.Ytggaaobpaodigaa
open Go.RowKit Go.Maps

theorem keyed : Keyed Try.prog 3 := int_keyed Try.underlying3
theorem zero64 (w : World) : (zeroValue 29).run Try.prog w = .ok (.int .u64 0) w := by kernel_rfl
theorem wf_nat {i : Nat} (h : i ≤ 1000) : (Lit.int .i64 (i : Int)).wf = true := WalkArith.wf_i64 (by omega)
theorem key_nat {i : Nat} (h : i ≤ 1000) : keyOf Try.prog 3 (.int .i64 (i : Int)) = some (.int .i64 (i : Int)) := keyOf_int_mk Try.underlying3 (wf_nat h)
/-- What a map says at each index. -/
structure MI (D : DataW Unit) (f : Nat → Option Int) : Prop where
  hs : ∀ i : Nat, has D (.int .i64 (i : Int)) = (f i).isSome
  at_ : ∀ (i : Nat) (r : Int), f i = some r → ∀ z, D.atKey (.int .i64 (i : Int)) z = .lit (.int .u64 r)
  key : ∀ kl, has D kl = true → ∃ i : Nat, kl = .int .i64 (i : Int)
/-- Block B is a map of at most n entries that says f. -/
def MR (w : World) (B n : Nat) (f : Nat → Option Int) : Prop := ∃ D : DataW Unit, w.ownsMap Try.prog 3 (plainElem Try.prog 29) B n D ∧ MI D f
theorem MR.mono {w : World} {B n m : Nat} {f : Nat → Option Int} (h : MR w B n f) (hm : n ≤ m) : MR w B m f := by
  obtain ⟨D, h1, h2⟩ := h; exact ⟨D, h1.mono hm, h2⟩
theorem MR.lt {w : World} {B n : Nat} {f : Nat → Option Int} (h : MR w B n f) : B < w.heap.size := by obtain ⟨D, h1, h2⟩ := h; exact h1.lt
theorem MR.grown {w w' : World} {B n : Nat} {f : Nat → Option Int} {row : Option Nat} (h : MR w B n f) (hg : w.grownBy w' row) (hne : some B ≠ row) : MR w' B n f := by
  obtain ⟨D, h1, h2⟩ := h; exact ⟨D, h1.kept hg hne, h2⟩
theorem MR.keep {w w' : World} {B n : Nat} {f : Nat → Option Int} (h : MR w B n f) (hb : Below w.heap.size w w') : MR w' B n f := by
  obtain ⟨D, h1, h2⟩ := h
  have hl := h1.lt
  obtain ⟨es, clock, hh, F, hs, hD⟩ := h1
  exact ⟨D, ⟨es, clock, (hb.block _ hl).trans hh, F, hs, hD⟩, h2⟩
theorem MR.cell {w : World} {B n : Nat} {f : Nat → Option Int} (h : MR w B n f) (a : Addr) (x : Value) (hne : B ≠ a.block) : MR (w.setCell a x) B n f := by
  obtain ⟨D, h1, h2⟩ := h; exact ⟨D, h1.setCell hne x, h2⟩
theorem MR.drew {w : World} {B n : Nat} {f : Nat → Option Int} (h : MR w B n f) : MR w.drew B n f := h
/-- No block is a map and cells at once. -/
theorem MR.apart {w : World} {B n : Nat} {f : Nat → Option Int} (h : MR w B n f) {a : Addr} {v : Value} (hc : w.cell? a = some v) : B ≠ a.block := by
  intro e
  obtain ⟨D, ⟨es, clock, hb, _⟩, _⟩ := h
  subst e
  simp [World.cell?, hb] at hc
theorem mi_empty : MI (.map []) (fun _ => none) := ⟨fun i => rfl, fun i r h => (by cases h), fun kl h => by cases h⟩
theorem MR.made (w : World) : MR (w.alloc (.map #[] 0)) w.heap.size 0 (fun _ => none) := ⟨.map [], World.ownsMap_made _ _ _ _, mi_empty⟩
theorem lit_ne {i j : Nat} (h : i ≠ j) : (Lit.int .i64 (i : Int)) ≠ .int .i64 (j : Int) := by
  intro e; injection e with _ e; omega
theorem keyLit {i : Nat} (h : i ≤ 1000) : WideAt.IsKeyLit (.int .i64 (i : Int)) := keyed.key (key_nat h)
theorem MI.put {D : DataW Unit} {f : Nat → Option Int} (h : MI D f) (hm : IsMap D) {i : Nat} (hi : i ≤ 1000) (r : Int) : MI (D.put (.int .i64 (i : Int)) (.lit (.int .u64 r))) (upd f i (some r)) := by
  refine ⟨fun j => ?_, fun j x hx z => ?_, fun kl hk => ?_⟩
  · by_cases e : j = i
    · subst e; rw [has_put_same hm (keyLit hi), upd_same]; rfl
    · rw [has_put_other (lit_ne e), h.hs, upd_other _ _ e]
  · by_cases e : j = i
    · subst e; rw [upd_same] at hx; cases hx; exact atKey_put_same hm (keyLit hi) _ _
    · rw [upd_other _ _ e] at hx; rw [atKey_put_other (lit_ne e)]; exact h.at_ j x hx z
  · by_cases e : kl = .int .i64 (i : Int)
    · exact ⟨i, e⟩
    · rw [has_put_other e] at hk; exact h.key kl hk
theorem MI.del {D : DataW Unit} {f : Nat → Option Int} (h : MI D f) (i : Nat) : MI (D.del (.int .i64 (i : Int))) (upd f i none) := by
  refine ⟨fun j => ?_, fun j x hx z => ?_, fun kl hk => ?_⟩
  · by_cases e : j = i
    · subst e; rw [has_del_same, upd_same]; rfl
    · rw [has_del_other (lit_ne e), h.hs, upd_other _ _ e]
  · by_cases e : j = i
    · subst e; rw [upd_same] at hx; cases hx
    · rw [upd_other _ _ e] at hx; rw [atKey_del_other (lit_ne e)]; exact h.at_ j x hx z
  · by_cases e : kl = .int .i64 (i : Int)
    · exact ⟨i, e⟩
    · rw [has_del_other e] at hk; exact h.key kl hk

section
variable {w : World} {ops : Array Oper} {rest : List Oper} {o : Oper} {a : Go.Act} {Q : Exit → Go.Act → World → Prop} {B n : Nat} {f : Nat → Option Int}
/-- 'm[k] = v'. -/
theorem wpList_put_mr (hg : o.guard = none) (m x v : Operand) (hop : o.op = Op.mapUpdate 45 m x v) (hm : a.eval m = .map (some B)) (hown : MR w B n f) (hn : n < 1000) (i : Nat) (hi : i ≤ 1000) (r : Int) (hwf : (Lit.int .u64 r).wf = true)
    (hx : a.eval x = .int .i64 (i : Int)) (hv : a.eval v = .int .u64 r) (hK : ∀ w', MR w' B (n + 1) (upd f i (some r)) → w.grownBy w' (some B) → wpList Try.prog ops Q rest (a.put o.dst undef) w') : wpList Try.prog ops Q (o :: rest) a w := by
  obtain ⟨D, h1, h2⟩ := hown
  exact wpList_mapUpdate_own w hg m x v 45 hop 3 29 keyed Try.underlying45 _ B n D hm h1 (by unfold maxLen; omega) _ _ _ hx hv (key_nat hi) _ [] (plainElem_int Try.underlying29 hwf)
    fun w' r1 r2 => hK w' ⟨_, r1, h2.put h1.isMap hi r⟩ r2
/-- 'v, ok := m[k]'. -/
theorem wpList_look_mr (hg : o.guard = none) (m x : Operand) (hop : o.op = Op.lookup 45 m x true) (hm : a.eval m = .map (some B)) (hown : MR w B n f) (i : Nat) (hi : i ≤ 1000)
    (hx : a.eval x = .int .i64 (i : Int)) (hK : wpList Try.prog ops Q rest (a.put o.dst (.tuple #[.int .u64 ((f i).getD 0), .bool (f i).isSome])) w) : wpList Try.prog ops Q (o :: rest) a w := by
  obtain ⟨D, h1, h2⟩ := hown
  refine wpList_lookup_own_ok_int w hg m x 45 hop 3 29 .u64 keyed Try.underlying45 Try.underlying29 (zero64 w) B n D hm h1 _ _ hx (key_nat hi) ?_
  intro c hat hwc
  have e : c = (f i).getD 0 := by
    cases hf : f i with
    | none =>
      have h3 := h2.hs i
      rw [hf] at h3
      rw [atKey_of_not_has h3] at hat
      injection hat with hat; injection hat with _ hat
      exact hat.symm
    | some r =>
      rw [h2.at_ i r hf] at hat
      injection hat with hat; injection hat with _ hat
      exact hat.symm
  rw [e, h2.hs i]
  exact hK
/-- 'm[k]'. -/
theorem wpList_get_mr (hg : o.guard = none) (m x : Operand) (hop : o.op = Op.lookup 45 m x false) (hm : a.eval m = .map (some B)) (hown : MR w B n f) (i : Nat) (hi : i ≤ 1000)
    (hx : a.eval x = .int .i64 (i : Int)) (hK : wpList Try.prog ops Q rest (a.put o.dst (.int .u64 ((f i).getD 0))) w) : wpList Try.prog ops Q (o :: rest) a w := by
  obtain ⟨D, h1, h2⟩ := hown
  refine wpList_lookup_own_int w hg m x 45 hop 3 29 .u64 keyed Try.underlying45 Try.underlying29 (zero64 w) B n D hm h1 _ _ hx (key_nat hi) ?_
  intro c hat hwc
  have e : c = (f i).getD 0 := by
    cases hf : f i with
    | none =>
      have h3 := h2.hs i
      rw [hf] at h3
      rw [atKey_of_not_has h3] at hat
      injection hat with hat; injection hat with _ hat
      exact hat.symm
    | some r =>
      rw [h2.at_ i r hf] at hat
      injection hat with hat; injection hat with _ hat
      exact hat.symm
  rw [e]
  exact hK
/-- 'delete(m, k)'. -/
theorem wpList_drop_mr (hg : o.guard = none) (m x : Operand) (hop : o.op = Op.call { callee := Callee.builtin Builtin.delete, args := #[m, x], argTypes := #[45, 3] }) (hm : a.eval m = .map (some B)) (hown : MR w B n f) (i : Nat) (hi : i ≤ 1000)
    (hx : a.eval x = .int .i64 (i : Int)) (hK : ∀ w', MR w' B n (upd f i none) → w.grownBy w' (some B) → wpList Try.prog ops Q rest (a.put o.dst (.tuple #[])) w') : wpList Try.prog ops Q (o :: rest) a w := by
  obtain ⟨D, h1, h2⟩ := hown
  refine wpList_delete_own w hg m x 45 3 hop 29 keyed Try.underlying45 _ B n D hm h1 _ _ hx (key_nat hi) ?_
  intro w' r1 r2
  exact hK w' ⟨_, r1.mono (by first | exact Nat.le_refl _ | omega), h2.del i⟩ r2.grown
end
end Go.Proofs.Ytggaaobpaodigaa
