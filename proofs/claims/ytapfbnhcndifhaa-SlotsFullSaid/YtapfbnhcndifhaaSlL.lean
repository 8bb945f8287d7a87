/- Contract of package slots: parts.live; how many entries the map has. -/
import Derived.Test.YtapfbnhcndifhaaSlS
import Derived.Test.YtapfbnhcndifhaaSlC
import Derived.Maps.RangeWalk
set_option linter.unusedVariables false
set_option linter.unusedSimpArgs false
namespace Go.Proofs.Ytapfbnhcndifhaa
open Go.RowKit Go.Maps

theorem live_nodup (t : List En) : (liveI t).Nodup := (liveFrom_sorted t 0).imp fun h => by omega
theorem live_sort (t : List En) : (liveI t).mergeSort leI = liveI t := List.mergeSort_of_pairwise ((liveFrom_sorted t 0).imp fun h => by simp only [leI, decide_eq_true_eq]; omega)
theorem tf_live {t : List En} {i : Nat} : (tf t i).isSome = true ↔ ∃ e, t[i]? = some e ∧ e.lv = true := by
  unfold tf
  cases h : t[i]? with
  | none => simp
  | some e => simp only [rfO]; cases hl : e.lv <;> simp [hl]
theorem live_perm {w : World} {B n : Nat} {D : DataW Unit} {t : List En} (h : w.ownsMap Try.prog 3 (plainElem Try.prog 38) B n D) (hm : MI D (tf t)) : (liveI t).Perm (intKeys D) := by
  obtain ⟨es, hD, hpw, _⟩ := h.entries keyed
  obtain ⟨es', hD', hko⟩ := h.keysOf
  obtain rfl : es = es' := by rw [hD] at hD'; simpa using hD'
  subst hD
  refine perm_intKeys hpw (fun p hp => by obtain ⟨v, hv⟩ := hko p hp; obtain ⟨x, _, hx, _⟩ := Maps.keyOf_i64 Try.underlying3 hv; exact ⟨x, hx⟩) (live_nodup t) fun x => ?_
  unfold liveI
  rw [liveFrom_mem]
  constructor
  · rintro ⟨k, e, he, hl, rfl⟩
    rw [Nat.zero_add, hm.hs k]
    exact tf_live.2 ⟨e, he, hl⟩
  · intro hx
    obtain ⟨i, hi⟩ := hm.key _ hx
    injection hi with _ hi
    subst hi
    rw [hm.hs i] at hx
    obtain ⟨e, he, hl⟩ := tf_live.1 hx
    exact ⟨i, e, he, hl, by simp⟩
theorem live_size {w : World} {B n : Nat} {D : DataW Unit} {t : List En} (h : w.ownsMap Try.prog 3 (plainElem Try.prog 38) B n D) (hm : MI D (tf t)) : Maps.size D = (refsOf t).length := by
  have h1 := (live_perm h hm).length_eq
  rw [live_len] at h1
  obtain ⟨es, hD, _⟩ := h.entries keyed
  subst hD
  rw [h1]
  simp [intKeys, Maps.size]
/-- 'len(m)'. -/
theorem wpList_len_mr {w : World} {ops : Array Oper} {rest : List Oper} {o : Oper} {a : Go.Act} {Q : Exit → Go.Act → World → Prop} {B n : Nat} {t : List En} (hg : o.guard = none) (m : Operand) (hop : o.op = Op.call { callee := Callee.builtin Builtin.len, args := #[m], argTypes := #[80] }) (hm : a.eval m = .map (some B)) (hown : MR w B n (tf t))
    (hK : wpList Try.prog ops Q rest (a.put o.dst (.int .i64 (refsOf t).length)) w) : wpList Try.prog ops Q (o :: rest) a w := by
  obtain ⟨D, h1, h2⟩ := hown
  refine wpList_len_own w hg m 80 hop 3 38 Try.underlying80 _ B n D hm h1 ?_
  rw [live_size h1 h2]
  exact hK

theorem keysC (mb : Option Nat) (W : World) : Calls Try.prog 59 #[.map mb] W fun e w' => e = .returned (.func (.func 66) #[] #[.pointer (some ⟨W.heap.size, 0, none⟩)]) ∧ w' = W.alloc (.cells #[.map mb] 80) :=
  (callsIn_wide (n := 5)).1 (AnyZI.keys_in keysA Fence.wide 5 trivial rfl mb W)

set_option maxRecDepth 100000 in
set_option maxHeartbeats 1600000 in
theorem live_any (base : Nat) (pg : Option Addr) (ng cg B N : Nat) (t : List En) (w : World) (hp : PO w base pg ng cg B N (gs t) (tf t)) (hN : N ≤ 1000) :
    Calls Try.prog 42 #[.agg #[.slice pg ng cg, .map (some B)]] w fun e w' => (∃ q m c, e = .returned (.slice q m c) ∧ SRow w' .i64 q m c (liveI t)) ∧ Below w.heap.size w w' := by
  obtain ⟨D, hown, hmi⟩ := hp.M.keep (below_box (o := .cells #[.slice pg ng cg, .map (some B)] 82))
  have HP := Lib.hid (live_perm hown hmi)
  have hmax : Maps.size D ≤ N := hown.size_le
  clear hp
  go_enter Try.func42, Try.ntmps42
  go_upto_region 1 with fail
  obtain ⟨w1, hw1⟩ : ∃ w1, w.alloc (.cells #[.slice pg ng cg, .map (some B)] 82) = w1 := ⟨_, rfl⟩
  have HB := Lib.hid (show Below w.heap.size w w1 from by rw [← hw1]; exact below_box)
  have HX := Lib.hid (show OwnL w1 w.heap.size [.slice pg ng cg, .map (some B)] from by rw [← hw1]; exact OwnL.new w _ _)
  rw [hw1] at hown ⊢
  clear hw1
  obtain ⟨x0, x1, -, -⟩ := own2S HX.out
  have hseq : SeqGives Fence.wide 2 Try.prog 66 #[.pointer (some ⟨w1.heap.size, 0, none⟩)] encZ (fun ss => ss.Perm (intKeys D)) (Maps.size D) (w1.alloc (.cells #[.map (some B)] 80)) :=
    AnyZI.keys_gives (ρ := keysA_ren) { keysA with } Fence.wide _ trivial rfl (by omega) w1.heap.size B N D _ (by simp) (by simp) (hown.alloc _)
  have cS := AnyZI.sorted_in sortedA Fence.wide 5 trivial trivial trivial trivial rfl (by omega) (sortsA _) (enters_of Try.func65 (by kernel_rfl) rfl) 66 #[.pointer (some ⟨w1.heap.size, 0, none⟩)] trivial (enters_of Try.func66 (by kernel_rfl) rfl) _ _ (by unfold maxLen; omega) (by omega) _ hseq
  have HS := Lib.hid ((callsIn_wide (n := 5)).1 cS)
  change Hid (Calls Try.prog 58 _ _ _) at HS
  have HK := Lib.hid (keysC (some B) w1)
  clear hseq cS hown hmi
  go_wp2_with (first
    | (go_at_call 59; refine HK.out.mono ?_; rintro e w2 ⟨rfl, rfl⟩)
    | (go_at_call 58; refine HS.out.mono ?_; rintro e w3 ⟨v, ss, rfl, hS, hrow, hnil, hb⟩; (obtain ⟨q, c, rfl⟩ := formS hrow)))
  go_ret
  have e1 : ss.mergeSort leI = liveI t := by rw [mergeSort_of_perm_i (hS.trans HP.out.symm), live_sort]
  have e2 : ss.length = (liveI t).length := (hS.trans HP.out.symm).length_eq
  have e3 : (ss.mergeSort fun x y => decide (x ≤ y)).map encZ = ivals .i64 (liveI t) := by rw [show (ss.mergeSort fun x y => decide (x ≤ y)) = liveI t from e1]; rfl
  rw [e3] at hrow
  exact ⟨⟨q, _, c, rfl, srowS hrow⟩, bthen (bthen HB.out below_box) hb⟩
end Go.Proofs.Ytapfbnhcndifhaa
