/- A step law: 'append(s, x...)' in a region that draws, s a row of the call's own, x any slice that reads. -/
import Derived.Test.YtggaaobpaodigaaRow
import Derived.Below
import Derived.Maps.AppendAt
import Derived.Lib.AppendZeros
namespace Go.Proofs.Ytggaaobpaodigaa
open Go.RowKit
theorem step_append_vrow {P : Program} {w : World} {ops : Array Oper} {o : Oper} {a : Act} {K : Act → World → Prop} {Q : Exit → Act → World → Prop} {E : Prop} (hgd : o.guard = none) (s x : Operand) (t : TypeId)
    (ho : o.op = .call { callee := .builtin .append, args := #[s, x], argTypes := #[t, t] })
    (base : Nat) (e : TypeId) (i : TypeInfo) (z : Value) (size bytes : Nat) (ht : P.underlying t = some (.slice e)) (hi : P.info? e = some i) (hz : i.zero = some z)
    (hsize : i.size = size) (hby : i.bytes = bytes) (hzs : z.cells.size = size) (hsz : 0 < size)
    (v : Value) (n : Nat) (xs : List Value) (hs : a.eval s = v) (hown : w.ownsRow base e size v n xs)
    (p : Option Addr) (m c : Nat) (ys : List Value) (hx : a.eval x = .slice p m c) (hr : VRow w size p m c ys) (h1 : ∀ u ∈ ys, u.oneCell' = true)
    (h63 : n + m ≤ maxLen) (hbytes : (n + m) * bytes ≤ 140737488355328) (hbase : base ≤ w.heap.size)
    (h : ∀ q cap w', w'.ownsRow base e size (.slice q (n + m) cap) (n + m) (xs ++ ys) → w.grownBy w' v.ownBlock → ((Value.slice q (n + m) cap).ownBlock = v.ownBlock ∨ (Value.slice q (n + m) cap).ownBlock = some w.heap.size) → K (a.put o.dst (.slice q (n + m) cap)) w') :
    if Region.wanted o (yielded ops a.tmps) = true then Oper.wp P o a w K Q else E := by
  have hw : Region.wanted o (yielded ops a.tmps) = true := by simp [Region.wanted, hgd]
  rw [if_pos hw]
  have form : ∀ {w' : World} {v' : Value} {k : Nat} {zs : List Value}, w'.ownsRow base e size v' k zs → ∃ q c, v' = .slice q k c := by
    intro w' v' k zs h
    rcases h.2 with ⟨rfl, rfl⟩ | ⟨g, c, _, rfl, _⟩
    · exact ⟨none, 0, rfl⟩
    · exact ⟨_, c, rfl⟩
  cases p with
  | none =>
    have hm : ys = [] := by
      rcases ys with _ | ⟨y, r⟩
      · rfl
      · obtain ⟨b, off, hp, _⟩ := hr.row 0 y rfl; cases hp
    subst hm
    have hm0 : m = 0 := by
      have := hr.len
      simp only [List.length_nil] at this
      rcases Nat.eq_zero_or_pos m with h0 | h0
      · exact h0
      · have := Nat.mul_pos h0 hsz; omega
    subst hm0
    have hrun : (Builtin.append_ #[t, t] o.type #[v, .slice none 0 c]).run P w = .ok v w := by
      rcases hown.2 with ⟨rfl, rfl⟩ | ⟨g, cap, cur, rfl, _, _, hnc, _⟩
      · simp [Builtin.append_, run_underlying ht, sizeOf, typeInfo, hi, Builtin.lenOf, Builtin.firstCells]
      · simp [Builtin.append_, run_underlying ht, sizeOf, typeInfo, hi, Builtin.lenOf, Builtin.firstCells, hnc, storeCells]
    obtain ⟨q, cap, rfl⟩ := form hown
    exact Lib.wp_append_run w s x t t ho _ _ hs hx _ w hrun (h q cap w (by simpa using hown) ⟨rfl, rfl, rfl, Nat.le_refl _, fun _ _ _ => rfl⟩ (Or.inl rfl))
  | some ad =>
    obtain ⟨v', w', hrun, h2, h3, _, h5⟩ := run_append_own_at (P := P) w base t o.type e i z size bytes ht hi hz hsize hby hzs hsz v n xs hown ad m c ys hr.len (fun j u hu => by
      obtain ⟨b, off, hp, hc⟩ := hr.row j u hu
      injection hp with hp; subst hp
      rw [add_none]; exact hc) h1 h63 hbytes hbase
    obtain ⟨q, cap, rfl⟩ := form h2
    exact Lib.wp_append_run w s x t t ho _ _ hs hx _ w' hrun (h q cap w' h2 h3 h5)
theorem blk_a (w : World) (A B : Obj) : (((w.alloc A).alloc B).drew).heap[w.heap.size]? = some A := (Below.heap_alloc (w.alloc A) B _ (by simp)).trans (heap_alloc_new w A)
theorem blk_b (w : World) (A B : Obj) : (((w.alloc A).alloc B).drew).heap[w.heap.size + 1]? = some B := by
  have h := heap_alloc_new (w.alloc A) B
  rw [World.size_alloc] at h
  exact h
/-- An element that was laid into a block of its own. -/
theorem block_vrow {w : World} {B s : Nat} {cs : Array Value} {t : TypeId} {fr : Nat × Nat} (hb : w.heap[B]? = some (.cells cs t fr)) (hs : cs.size = s) : VRow w s (some ⟨B, 0, none⟩) 1 1 cs.toList :=
  ⟨by simp [hs], Nat.le_refl _, by decide, fun i v hv => ⟨B, 0, rfl, by rw [Nat.zero_add, cell_of_row w B i cs t fr hb]; simpa using hv⟩⟩
end Go.Proofs.Ytggaaobpaodigaa
