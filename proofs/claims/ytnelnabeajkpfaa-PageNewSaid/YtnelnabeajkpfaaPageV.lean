/- Contracts of the references of layer 4 on page tables: InUse, SamePages. -/
import Derived.Test.YtnelnabeajkpfaaPageN
import Derived.Test.YtnelnabeajkpfaaPageU
namespace Go.Proofs.Ytnelnabeajkpfaa
open Go.RowKit

theorem tails_step {ps : List Pg} {k : Nat} {x : Pg} {sp : Int} (h : ps[k]? = some x) : tails sp (ps.drop k) = if x.kind = 3 ∧ x.space = sp then tails sp (ps.drop (k + 1)) + 1 else 0 := by
  obtain ⟨hk, rfl⟩ := List.getElem?_eq_some_iff.1 h
  rw [List.drop_eq_getElem_cons hk, tails]
theorem tails_end {ps : List Pg} {k : Nat} {sp : Int} (h : ps.length ≤ k) : tails sp (ps.drop k) = 0 := by
  rw [List.drop_eq_nil_of_le h]; rfl

set_option maxHeartbeats 800000 in
theorem refInUse_any (p : Option Addr) (n cap : Nat) (ps : List Pg) (w : World) (hr : PRow w p n cap ps) :
    Calls Try.prog 25 #[.slice p n cap] w fun e w' => e = .returned (.int .i64 (inUse ps)) ∧ w = w' := by
  have hl := hr.i63.2
  have Hr := Lib.hid hr
  have Hlen := Lib.hid hr.len
  clear hr
  go_enter Try.func25, Try.ntmps25
  go_wp2
  go_loop [3, 4] (fun c i => ∃ k m : Nat, k ≤ n ∧ m ≤ k ∧ m = inUse (ps.take k) ∧ c = .int .i64 m ∧ i = .int .i64 k) (fun _ i => n - (intOf i).toNat)
  case atStart => exact ⟨0, 0, by omega, by omega, by simp [inUse], rfl, rfl⟩
  case round =>
    obtain ⟨k, m, hk, hmk, hm, rfl, rfl⟩ := hrel
    have Hm := Lib.hid hm
    clear hm
    by_cases hlt : k < n
    · obtain ⟨x, b, off, hx, rfl, c0, c1, c2, c3⟩ := Hr.out.at_ hlt
      have hs := inUse_take hx
      have hlt2 : (k : Int) < n := by omega
      clear hx c1 c2 c3
      by_cases h0 : x.kind = 0
      · rw [if_pos h0] at hs
        have Hs := Lib.hid hs
        rw [h0] at c0
        clear hs h0
        go_wp2
        go_round
        case rel => exact ⟨k + 1, m, by omega, by omega, by rw [Hs.out, Hm.out]; omega, rfl, by go_num⟩
        case measure => simp [intOf]; omega
      · rw [if_neg h0] at hs
        have Hs := Lib.hid hs
        have hne : (x.kind != 0) = true := bne_iff_ne.2 h0
        clear hs h0
        go_wp2
        go_round
        case rel => exact ⟨k + 1, m + 1, by omega, by omega, by rw [Hs.out, Hm.out], by go_num, by go_num⟩
        case measure => simp [intOf]; omega
    · have E : Hid (ps.take k = ps) := List.take_of_length_le (by rw [Hlen.out]; omega)
      go_wp2
      go_ret
      exact ⟨ret_int (by rw [Hm.out, E.out]), rfl⟩

theorem pg_eq {x y : Pg} (h0 : x.kind = y.kind) (h1 : x.space = y.space) (h2 : x.used = y.used) (h3 : x.pins = y.pins) : x = y := by
  cases x; cases y; simp_all

set_option maxHeartbeats 800000 in
theorem samePages_any (p q : Option Addr) (n m cap cap' : Nat) (xs ys : List Pg) (w : World) (hr0 : PRow w p n cap xs) (hr0' : PRow w q m cap' ys) :
    Calls Try.prog 35 #[.slice p n cap, .slice q m cap'] w fun e w' => e = .returned (.bool (decide (xs = ys))) ∧ Drawn w w' := by
  have hn := hr0.i63.2
  have hr1 := Lib.hid hr0
  have hr2 := Lib.hid hr0'
  have hlen := Lib.hid hr0.len
  have hlen2 := Lib.hid hr0'.len
  clear hr0 hr0'
  by_cases hnm : n = m
  · subst hnm
    go_enter Try.func35, Try.ntmps35
    go_wp2
    go_loopw [5] (fun i wr => ∃ (k : Nat), k ≤ n ∧ xs.take k = ys.take k ∧ i = .int .i64 k ∧ ∃ d, wr = w.drewN d) (fun i _ => n - (intOf i).toNat)
    case atStart => exact ⟨0, by omega, rfl, rfl, 0, rfl⟩
    case round =>
      obtain ⟨k, hk, hf, rfl, d, rfl⟩ := hrel
      have Hf := Lib.hid hf
      clear hf
      by_cases hlt : k < n
      · obtain ⟨x, b, off, hx, rfl, c0, c1, c2, c3⟩ := hr1.out.at_ hlt
        obtain ⟨y, b2, off2, hy, rfl, d0, d1, d2, d3⟩ := hr2.out.at_ hlt
        have Hx := Lib.hid hx
        have Hy := Lib.hid hy
        clear hx hy
        have hlt2 : (k : Int) < n := by omega
        by_cases hxy : x = y
        · subst hxy
          go_wp2
          go_quiet (fail)
          go_wp2
          go_roundw
          case rel => exact ⟨k + 1, by omega, by rw [List.take_add_one, List.take_add_one, Hf.out, Hx.out, Hy.out], by go_num, _, rfl⟩
          case measure => simp [intOf]; omega
        · have hne : Hid (decide (xs = ys) = false) := by
            apply decide_eq_false; intro e; subst e; exact hxy (Option.some.inj (Hx.out.symm.trans Hy.out))
          by_cases h0 : x.kind = y.kind
          · by_cases h1 : x.space = y.space
            · by_cases h2 : x.used = y.used
              · have h3 : ¬ x.pins = y.pins := fun h => hxy (pg_eq h0 h1 h2 h)
                have b0 : (x.kind == y.kind) = true := beq_iff_eq.2 h0
                have b1 : (x.space == y.space) = true := beq_iff_eq.2 h1
                have b2 : (x.used == y.used) = true := beq_iff_eq.2 h2
                have b3 : (x.pins == y.pins) = false := beq_eq_false_iff_ne.2 h3
                clear hxy h0 h1 h2 h3
                go_wp2
                go_quiet (fail)
                go_wp2
                go_ret
                exact ⟨ret_bool hne.out.symm, _, World.drewN_drewN _ _ _⟩
              · have b0 : (x.kind == y.kind) = true := beq_iff_eq.2 h0
                have b1 : (x.space == y.space) = true := beq_iff_eq.2 h1
                have b2 : (x.used == y.used) = false := beq_eq_false_iff_ne.2 h2
                clear hxy h0 h1 h2
                go_wp2
                go_quiet (fail)
                go_wp2
                go_ret
                exact ⟨ret_bool hne.out.symm, _, World.drewN_drewN _ _ _⟩
            · have b0 : (x.kind == y.kind) = true := beq_iff_eq.2 h0
              have b1 : (x.space == y.space) = false := beq_eq_false_iff_ne.2 h1
              clear hxy h0 h1
              go_wp2
              go_quiet (fail)
              go_wp2
              go_ret
              exact ⟨ret_bool hne.out.symm, _, World.drewN_drewN _ _ _⟩
          · have b0 : (x.kind == y.kind) = false := beq_eq_false_iff_ne.2 h0
            clear hxy h0
            go_wp2
            go_quiet (fail)
            go_wp2
            go_ret
            exact ⟨ret_bool hne.out.symm, _, World.drewN_drewN _ _ _⟩
      · have he : Hid (decide (xs = ys) = true) := by
          apply decide_eq_true
          have h1 := Hf.out
          rw [List.take_of_length_le (by rw [hlen.out]; omega), List.take_of_length_le (by rw [hlen2.out]; omega)] at h1
          exact h1
        go_wp2
        go_ret
        exact ⟨ret_bool he.out.symm, _, rfl⟩
  · have hne : Hid (decide (xs = ys) = false) := by
      apply decide_eq_false; intro e; subst e; exact hnm (hlen.out.symm.trans hlen2.out)
    have hb : ((n : Int) != (m : Int)) = true := by rw [bne_iff_ne]; omega
    go_enter Try.func35, Try.ntmps35
    go_wp2
    go_ret
    exact ⟨ret_bool hne.out.symm, 0, rfl⟩
end Go.Proofs.Ytnelnabeajkpfaa
