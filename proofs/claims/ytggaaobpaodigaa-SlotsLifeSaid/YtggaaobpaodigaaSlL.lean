/- Contract of package slots: parts.live; how many entries the map has. -/
import Derived.Test.YtggaaobpaodigaaSlS
import Derived.Test.YtggaaobpaodigaaSlC
import Derived.Maps.RangeWalk
set_option linter.unusedVariables false
set_option linter.unusedSimpArgs false
namespace Go.Proofs.Ytggaaobpaodigaa
open Go.RowKit Go.Maps

theorem live_nodup (t : List En) : (liveI t).Nodup := (liveFrom_sorted t 0).imp fun h => by omega
theorem live_sort (t : List En) : (liveI t).mergeSort leI = liveI t := List.mergeSort_of_pairwise ((liveFrom_sorted t 0).imp fun h => by simp only [leI, decide_eq_true_eq]; omega)
theorem tf_live {t : List En} {i : Nat} : (tf t i).isSome = true ↔ ∃ e, t[i]? = some e ∧ e.lv = true := by
  unfold tf
  cases h : t[i]? with
  | none => simp
  | some e => simp only [rfO]; cases hl : e.lv <;> simp [hl]
theorem live_perm {w : World} {B n : Nat} {D : DataW Unit} {t : List En} (h : w.ownsMap Try.prog 3 (plainElem Try.prog 29) B n D) (hm : MI D (tf t)) : (liveI t).Perm (intKeys D) := by
  obtain ⟨es, hD, hpw, _⟩ := h.entries keyed
  obtain ⟨es', hD', hko⟩ := h.keysOf
  obtain rfl : es = es' := by rw [hD] at hD'; simpa using hD'
  subst hD
  refine perm_intKeys hpw (fun p hp => by obtain ⟨v, hv⟩ := hko p hp; obtain ⟨x, _, hx, _⟩ := Maps.keyOf_i64 Try.underlying3 hv; exact ⟨x, hx⟩) (live_nodup t) fun x => ?_
  unfold liveI
  rw [liveFrom_mem]
  constructor
  · rintro ⟨k, e, he, hl, rfl⟩
    rw [Nat.zero_add, hm.hs k]
    exact tf_live.2 ⟨e, he, hl⟩
  · intro hx
    obtain ⟨i, hi⟩ := hm.key _ hx
    injection hi with _ hi
    subst hi
    rw [hm.hs i] at hx
    obtain ⟨e, he, hl⟩ := tf_live.1 hx
    exact ⟨i, e, he, hl, by simp⟩
theorem live_size {w : World} {B n : Nat} {D : DataW Unit} {t : List En} (h : w.ownsMap Try.prog 3 (plainElem Try.prog 29) B n D) (hm : MI D (tf t)) : Maps.size D = (refsOf t).length := by
  have h1 := (live_perm h hm).length_eq
  rw [live_len] at h1
  obtain ⟨es, hD, _⟩ := h.entries keyed
  subst hD
  rw [h1]
  simp [intKeys, Maps.size]
/-- 'len(m)'. -/
theorem wpList_len_mr {w : World} {ops : Array Oper} {rest : List Oper} {o : Oper} {a : Go.Act} {Q : Exit → Go.Act → World → Prop} {B n : Nat} {t : List En} (hg : o.guard = none) (m : Operand) (hop : o.op = Op.call { callee := Callee.builtin Builtin.len, args := #[m], argTypes := #[45] }) (hm : a.eval m = .map (some B)) (hown : MR w B n (tf t))
    (hK : wpList Try.prog ops Q rest (a.put o.dst (.int .i64 (refsOf t).length)) w) : wpList Try.prog ops Q (o :: rest) a w := by
  obtain ⟨D, h1, h2⟩ := hown
  refine wpList_len_own w hg m 45 hop 3 29 Try.underlying45 _ B n D hm h1 ?_
  rw [live_size h1 h2]
  exact hK

end Go.Proofs.Ytggaaobpaodigaa
