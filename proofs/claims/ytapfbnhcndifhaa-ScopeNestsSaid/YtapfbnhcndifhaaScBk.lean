/- slices.Backward over scopes: a contract of the iterator. -/
import Derived.RangeFuncNested
import Derived.RangeFuncBound
import Derived.RangeFuncCalls
import Derived.RangeFuncLeaves
import Derived.Shelf.Abstract
import Derived.Shelf.RegionOpen
import Derived.OwnWalkIn
import Derived.TacticsInMore
import Derived.LoopNIn
import Derived.LoopIn
import Derived.Test.YtapfbnhcndifhaaScV
set_option linter.unusedVariables false
set_option linter.unusedSimpArgs false
namespace Go.Proofs.Ytapfbnhcndifhaa
open Go.RowKit Go.Shelf
attribute [local go_sem] Oper.semAt_some

/-- What is handed to a round: the index and the scope. -/
def encB (sc : List Sp) (x : Fin sc.length) : Array Value := #[.int .i64 (x.1 : Int), .agg #[.int .i64 sc[x].fr, .int .i64 sc[x].cp, .bool sc[x].bs]]
/-- What has come when k rounds are over. -/
def bkTo (sc : List Sp) : (k : Nat) → k ≤ sc.length → List (Fin sc.length)
  | 0, _ => []
  | k + 1, h => bkTo sc k (by omega) ++ [⟨sc.length - 1 - k, by omega⟩]
theorem bkTo_len (sc : List Sp) : ∀ (k : Nat) (h : k ≤ sc.length), (bkTo sc k h).length = k
  | 0, _ => rfl
  | k + 1, h => by rw [bkTo, List.length_append, bkTo_len sc k]; rfl
theorem bkTo_mem (sc : List Sp) (x : Fin sc.length) : ∀ (k : Nat) (h : k ≤ sc.length), x ∈ bkTo sc k h ↔ sc.length - k ≤ x.1
  | 0, _ => by simp [bkTo]
  | k + 1, h => by
    rw [bkTo, List.mem_append, bkTo_mem sc x k (by omega), List.mem_singleton]
    constructor
    · rintro (h1 | rfl)
      · omega
      · simp only; omega
    · intro h1
      by_cases h2 : sc.length - k ≤ x.1
      · exact .inl h2
      · exact .inr (Fin.ext (by simp only; omega))

set_option maxHeartbeats 1000000 in
theorem backward_any (F : Fence) (n : Nat) (h5 : F.fn 47) (hro : F.round = none) (a : Option Addr) (len cap : Nat) (w : World) :
    CallsIn F n Try.prog 47 #[.slice a len cap] w fun e w' => e = .returned (.func (.func 61) #[] #[.pointer (some ⟨w.heap.size, 0, none⟩)]) ∧ w' = w.alloc (.cells #[.slice a len cap] 25) := by
  refine callsIn_of_wp Try.func47 rfl h5 ?_ hro
  simp only [Try.ntmps47, List.size_toArray, List.length_cons, List.length_nil, Nat.reduceAdd, Nat.reduceSub, Array.replicate_succ, Array.replicate_zero, List.push_toArray, List.append_toArray, List.nil_append, List.cons_append]
  gi_wp2
  go_ret
  exact ⟨rfl, rfl⟩

set_option maxRecDepth 100000 in
set_option maxHeartbeats 4000000 in
theorem back1_in (F : Fence) (n : Nat) (h7 : F.fn 61) (hro : F.round = none) (hn : 1 ≤ n) (l Bs n₀ : Nat) (pb : Option Addr) (nb cb : Nat) (sc : List Sp) (hlen : sc.length = nb) (hnb : nb ≤ 64) (J Jx : List (Fin sc.length) → World → Prop)
    (hY : ∀ pre x W, J pre W → pre.length < sc.length → YieldAt F (n - 1) Try.prog l (encB sc x) W fun e W' =>
      (e = .returned (.bool true) ∧ J (pre ++ [x]) W' ∧ Below n₀ W W') ∨ (e = .returned (.bool false) ∧ Jx (pre ++ [x]) W'))
    (W : World) (hBs : ∀ W', Below n₀ W W' → W'.cell? ⟨Bs, 0, none⟩ = some (.slice pb nb cb)) (hc : ∀ W', Below n₀ W W' → VRow W' 3 pb nb cb (sc.flatMap spC)) (h0 : J [] W) :
    CallsIn F n Try.prog 61 #[.func (.yield l) #[] #[], .pointer (some ⟨Bs, 0, none⟩)] W fun e W' => (∃ v, e = .returned v) ∧
      ((∃ ys, (∀ x, x ∈ ys) ∧ J ys W') ∨ (∃ pre, (∃ k h, pre = bkTo sc k h) ∧ Jx pre W')) := by
  have hB0 := hBs W (Below.refl _ _)
  refine callsIn_of_wp Try.func61 rfl h7 ?_ hro
  simp only [Try.ntmps61, List.size_toArray, List.length_cons, List.length_nil, Nat.reduceAdd, Nat.reduceSub, Array.replicate_succ, Array.replicate_zero, List.push_toArray, List.append_toArray, List.nil_append, List.cons_append]
  have HBs := Lib.hid hBs
  have HC := Lib.hid hc
  have Hlen := Lib.hid hlen
  clear hBs hc hlen
  gi_wp2
  gi_loopw [3] (fun i wr => ∃ (k : Nat) (h : k ≤ sc.length) (j : Int), j = (nb : Int) - 1 - k ∧ i = .int .i64 j ∧ J (bkTo sc k h) wr ∧ Below n₀ W wr)
    (fun i _ => (intOf i + 1).toNat)
  case atStart => exact ⟨0, by omega, _, rfl, by simp, h0, Below.refl _ _⟩
  case round =>
    obtain ⟨k, hk, j, hj, rfl, hJs, hnx⟩ := hrel
    have Hj := Lib.hid hj
    clear hj hB0
    by_cases hlt : k < nb
    · obtain ⟨jn, hjn⟩ : ∃ jn : Nat, j = jn := ⟨j.toNat, by have := Hj.out; omega⟩
      subst hjn
      have hjlt : jn < nb := by have := Hj.out; omega
      have hjl : jn < sc.length := by have := Hlen.out; omega
      have hjlt2 : (jn : Int) < nb := by omega
      have hj0 : (0 : Int) ≤ jn := by omega
      obtain ⟨s, b, off, hx, rfl, c0, c1, c2⟩ := scope_at (HC.out wr hnx) hjlt
      have cB := HBs.out wr hnx
      have hxe : bkTo sc (k + 1) (by have := Hlen.out; omega) = bkTo sc k hk ++ [⟨jn, hjl⟩] := by
        rw [bkTo]; congr 2; exact Fin.ext (by simp only; have := Hj.out; have := Hlen.out; omega)
      have hsx : sc[jn] = s := by
        have := List.getElem?_eq_getElem hjl
        rw [hx] at this; exact (Option.some.inj this).symm
      obtain ⟨fn, tmps, assign, body, hy, hR⟩ := hY _ ⟨jn, hjl⟩ wr hJs (by rw [bkTo_len]; have := Hlen.out; omega)
      simp only [encB, Fin.getElem_fin, hsx] at hy
      rw [← hxe] at hR
      have HXE := Lib.hid hxe
      clear hxe hx hsx hY
      gi_wp2
      refine hR.mono ?_
      rintro e W3 (⟨rfl, hJ3, hk3⟩ | ⟨rfl, hJx3⟩)
      · gi_wp2
        go_roundw
        case rel => exact ⟨k + 1, by have := Hlen.out; omega, (jn : Int) - 1, by have := Hj.out; omega, rfl, hJ3, hnx.trans hk3⟩
        case measure => simp [intOf]
      · gi_wp2
        refine bodyPost_ret (results_none rfl _ _ _) rfl ?_
        exact ⟨⟨_, rfl⟩, .inr ⟨_, ⟨k + 1, _, rfl⟩, hJx3⟩⟩
    · have hneg : j < 0 := by have := Hj.out; omega
      gi_wp2
      go_end0
      exact ⟨⟨_, rfl⟩, .inl ⟨_, fun x => (bkTo_mem sc x k hk).2 (by have := Hlen.out; omega), hJs⟩⟩
/-- The iterator's contract. -/
theorem back_stops (F : Fence) (n : Nat) (h7 : F.fn 61) (hro : F.round = none) (hn : 1 ≤ n) (Bs n₀ : Nat) (pb : Option Addr) (nb cb : Nat) (sc : List Sp) (hlen : sc.length = nb) (hnb : nb ≤ 64) (w : World) (hn₀ : n₀ ≤ w.heap.size)
    (hBs : ∀ W', Below n₀ w W' → W'.cell? ⟨Bs, 0, none⟩ = some (.slice pb nb cb)) (hc : ∀ W', Below n₀ w W' → VRow W' 3 pb nb cb (sc.flatMap spC)) :
    SeqStopsK F n Try.prog 61 #[.pointer (some ⟨Bs, 0, none⟩)] (encB sc) (Below n₀) (fun ys => ∀ x, x ∈ ys) (fun pre => ∃ k h, pre = bkTo sc k h) sc.length w := fun l J Jx W hW _ _ hY h0 =>
  back1_in F n h7 hro hn l Bs n₀ pb nb cb sc hlen hnb J Jx hY W (fun W' h => hBs W' ((hW.mono hn₀).trans h)) (fun W' h => hc W' ((hW.mono hn₀).trans h)) h0
end Go.Proofs.Ytapfbnhcndifhaa
