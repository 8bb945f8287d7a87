/- Contracts of package page on page tables: InUse, freeFrom, Runs, First. -/
import Derived.Test.YtbenklhbcgiacaaPgP
import Derived.Test.YtbenklhbcgiacaaPageX
namespace Go.Proofs.Ytbenklhbcgiacaa
open Go.RowKit

set_option maxHeartbeats 800000 in
theorem inUse_any (p : Option Addr) (n cap : Nat) (ps : List Pg) (w : World) (hr : PRow w p n cap ps) :
    Calls Try.prog 40 #[.slice p n cap] w fun e w' => e = .returned (.int .i64 (inUse ps)) ∧ Below w.heap.size w w' := by
  have hl := hr.i63.2
  have Hr := Lib.hid (fun w' (h : Below w.heap.size w w') => hr.keep h)
  have Hlen := Lib.hid hr.len
  clear hr
  go_enter Try.func40, Try.ntmps40
  go_wp2
  go_loopw [3, 8] (fun c i wr => ∃ k m : Nat, k ≤ n ∧ m ≤ k ∧ m = inUse (ps.take k) ∧ c = .int .i64 m ∧ i = .int .i64 k ∧ Below w.heap.size w wr) (fun _ i _ => n - (intOf i).toNat)
  case atStart => exact ⟨0, 0, by omega, by omega, by simp [inUse], rfl, rfl, Below.refl _ _⟩
  case round =>
    obtain ⟨k, m, hk, hmk, hm, rfl, rfl, hb⟩ := hrel
    have Hm := Lib.hid hm
    clear hm
    by_cases hlt : k < n
    · obtain ⟨x, b, off, hx, rfl, c0, c1, c2, c3⟩ := (Hr.out wr hb).at_ hlt
      have hs := inUse_take hx
      have hlt2 : (k : Int) < n := by omega
      clear hx
      by_cases h0 : x.kind = 0
      · rw [if_pos h0] at hs
        have Hs := Lib.hid hs
        rw [h0] at c0
        clear hs h0
        go_wp2
        go_roundw
        case rel => exact ⟨k + 1, m, by omega, by omega, by rw [Hs.out, Hm.out]; omega, rfl, by go_num, bthen hb below_box⟩
        case measure => simp [intOf]; omega
      · rw [if_neg h0] at hs
        have Hs := Lib.hid hs
        have hne : (x.kind != 0) = true := bne_iff_ne.2 h0
        clear hs h0
        go_wp2
        go_roundw
        case rel => exact ⟨k + 1, m + 1, by omega, by omega, by rw [Hs.out, Hm.out], by go_num, by go_num, bthen hb below_box⟩
        case measure => simp [intOf]; omega
    · have E := Lib.hid (show ps.take k = ps from List.take_of_length_le (by rw [Hlen.out]; omega))
      go_wp2
      go_ret
      exact ⟨ret_int (by rw [Hm.out, E.out]), hb⟩

/-- How many free pages there are at the head. -/
def freeLead : List Pg → Nat
  | [] => 0
  | x :: r => if x.kind = 0 then freeLead r + 1 else 0
theorem lead_step {ps : List Pg} {k : Nat} {x : Pg} (h : ps[k]? = some x) : freeLead (ps.drop k) = if x.kind = 0 then freeLead (ps.drop (k + 1)) + 1 else 0 := by
  obtain ⟨hk, rfl⟩ := List.getElem?_eq_some_iff.1 h
  rw [List.drop_eq_getElem_cons hk, freeLead]
theorem lead_end {ps : List Pg} {k : Nat} (h : ps.length ≤ k) : freeLead (ps.drop k) = 0 := by rw [List.drop_eq_nil_of_le h]; rfl
theorem lead_le : ∀ ps : List Pg, freeLead ps ≤ ps.length
  | [] => Nat.le_refl _
  | x :: r => by have := lead_le r; unfold freeLead; rw [List.length_cons]; split <;> omega

set_option maxHeartbeats 800000 in
theorem freeFrom_any (p : Option Addr) (n cap : Nat) (ps : List Pg) (i : Nat) (w : World) (hr : PRow w p n cap ps) (hi : i ≤ n) (hn : n ≤ 100000) :
    Calls Try.prog 60 #[.slice p n cap, .int .i64 i] w fun e w' => e = .returned (.int .i64 (freeLead (ps.drop i))) ∧ w = w' := by
  have Hr := Lib.hid hr
  have Hlen := Lib.hid hr.len
  clear hr
  go_enter Try.func60, Try.ntmps60
  go_wp2
  go_loop [5] (fun c => ∃ m : Nat, i + m ≤ n ∧ m + freeLead (ps.drop (i + m)) = freeLead (ps.drop i) ∧ c = .int .i64 m) (fun c => n - (intOf c).toNat)
  case atStart => exact ⟨0, by omega, by simp, rfl⟩
  case round =>
    obtain ⟨m, hm, ht, rfl⟩ := hrel
    have Ht := Lib.hid ht
    clear ht
    obtain ⟨k, hk⟩ : ∃ k, k = i + m := ⟨_, rfl⟩
    rw [← hk] at Ht
    have hki : (i : Int) + (m : Int) = (k : Int) := by omega
    by_cases hlt : k < n
    · obtain ⟨x, b, off, hx, rfl, c0, c1, c2, c3⟩ := Hr.out.at_ hlt
      have hs := lead_step hx
      have hlt2 : (k : Int) < n := by omega
      clear hx c1 c2 c3
      by_cases h0 : x.kind = 0
      · rw [if_pos h0] at hs
        have Hs := Lib.hid hs
        have Hk := Lib.hid hk
        rw [h0] at c0
        clear hs h0 hk
        go_wp2
        go_round
        case rel => exact ⟨m + 1, by have := Hk.out; omega, by rw [show i + (m + 1) = k + 1 from by have := Hk.out; omega]; have := Ht.out; have := Hs.out; omega, by go_num⟩
        case measure => simp [intOf]; omega
      · rw [if_neg h0] at hs
        have Hs := Lib.hid hs
        have hne : (x.kind == 0) = false := beq_eq_false_iff_ne.2 h0
        clear hs h0 hk
        go_wp2
        go_ret
        exact ⟨ret_int (by have := Ht.out; have := Hs.out; omega), rfl⟩
    · have Hs := Lib.hid (lead_end (ps := ps) (k := k) (by rw [Hlen.out]; omega))
      have hge : (n : Int) ≤ k := by omega
      clear hk
      go_wp2
      go_ret
      exact ⟨ret_int (by have := Ht.out; have := Hs.out; omega), rfl⟩
end Go.Proofs.Ytbenklhbcgiacaa
