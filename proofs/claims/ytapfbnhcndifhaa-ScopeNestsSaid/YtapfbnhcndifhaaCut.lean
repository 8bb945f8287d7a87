/- Cuts of slices whose elements have several cells. -/
import Derived.Test.YtapfbnhcndifhaaRow
namespace Go.Proofs.Ytapfbnhcndifhaa
open Go.RowKit

/-- The address of a cut at element l: at the capacity's end it stays. -/
def cutS (s : Nat) (p : Option Addr) (cap l : Nat) : Option Addr := if cap = l then p else p.map (·.add (l * s))
theorem cutS_some {s b off cap l : Nat} (h : cap ≠ l) : cutS s (some ⟨b, off, none⟩) cap l = some ⟨b, off + l * s, none⟩ := by
  unfold cutS; rw [if_neg h]; simp [add_none]
theorem VRow.cut {w : World} {s : Nat} {p : Option Addr} {n cap : Nat} {vs : List Value} (h : VRow w s p n cap vs) {l m : Nat} (hl : l + m ≤ n) : VRow w s (cutS s p cap l) m (cap - l) ((vs.drop (l * s)).take (m * s)) := by
  have hle : l * s + m * s ≤ n * s := by rw [← Nat.add_mul]; exact Nat.mul_le_mul_right _ hl
  refine ⟨by rw [List.length_take, List.length_drop, h.len]; omega, by have := h.le; omega, by have := h.max; omega, fun i x hx => ?_⟩
  rw [List.getElem?_take] at hx
  split at hx
  · rename_i him
    rw [List.getElem?_drop] at hx
    obtain ⟨b, off, rfl, hc⟩ := h.row _ x hx
    have hm0 : 0 < m := by
      rcases Nat.eq_zero_or_pos m with h0 | h0
      · subst h0; simp at him
      · exact h0
    refine ⟨b, off + l * s, cutS_some (by have := h.le; omega), ?_⟩
    rw [Nat.add_assoc]; exact hc
  · cases hx
section
variable {P : Program} {w : World} {ops : Array Oper} {rest : List Oper} {o : Oper} {a : Act} {Q : Exit → Act → World → Prop}
/-- 's[l:h]'. -/
theorem wpList_cutS (hgd : o.guard = none) (x l h : Operand) (t : TypeId) (ho : o.op = .slice t x (some l) (some h) none) (e : TypeId) (ht : P.underlying t = some (.slice e)) (s : Nat) (hsz : (P.info? e).map (·.size) = some s)
    (p : Option Addr) (n cap : Nat) (hx : a.eval x = .slice p n cap) (kl kh : IntKind) (L H : Int) (hl : a.eval l = .int kl L) (hh : a.eval h = .int kh H) (i m : Nat) (hL : L = i) (hH : H = (i : Int) + m) (hfit : i + m ≤ cap)
    (hK : wpList P ops Q rest (a.put o.dst (.slice (cutS s p cap i) m (cap - i))) w) : wpList P ops Q (o :: rest) a w := by
  refine wpList_plain hgd fun K hK' => ?_
  have hte : P.underlying t = some (.slice (P.elem t)) := by simp [Program.elem, ht]
  have he : P.elem t = e := by have := hte.symm.trans ht; injection this with h1; injection h1
  obtain ⟨ii, hi, hs⟩ := Option.map_eq_some_iff.1 hsz
  subst hL
  have hrun : (Instr.sliceAt t (.slice p n cap) (some (.int kl (i : Int))) (some (.int kh H)) none).run P w = .ok (.slice (cutS s p cap i) m (cap - i)) w := by
    have e2 : H.toNat - i = m := by omega
    rw [run_sliceAt_slice w t _ _ _ _ hte, run_slice_lh w t p n cap hte kl kh _ _ (by omega) (by omega) (by omega)]
    simp [sizeOf, typeInfo, he, hi, hs, Result.andThen, sliced, cutS, e2]
  unfold Oper.wp
  simp [execOp, ho, hx, hl, hh, hrun, Result.andThen]
  exact hK' _ _ hK
end
end Go.Proofs.Ytapfbnhcndifhaa
