/- Contracts of the references of layer 4 on page tables: InUse, SamePages. -/
import Derived.Test.YtbenklhbcgiacaaPageN
import Derived.Test.YtbenklhbcgiacaaPageU
namespace Go.Proofs.Ytbenklhbcgiacaa
open Go.RowKit

theorem tails_step {ps : List Pg} {k : Nat} {x : Pg} {sp : Int} (h : ps[k]? = some x) : tails sp (ps.drop k) = if x.kind = 3 ∧ x.space = sp then tails sp (ps.drop (k + 1)) + 1 else 0 := by
  obtain ⟨hk, rfl⟩ := List.getElem?_eq_some_iff.1 h
  rw [List.drop_eq_getElem_cons hk, tails]
theorem tails_end {ps : List Pg} {k : Nat} {sp : Int} (h : ps.length ≤ k) : tails sp (ps.drop k) = 0 := by
  rw [List.drop_eq_nil_of_le h]; rfl

set_option maxHeartbeats 800000 in
theorem refInUse_any (p : Option Addr) (n cap : Nat) (ps : List Pg) (w : World) (hr : PRow w p n cap ps) :
    Calls Try.prog 12 #[.slice p n cap] w fun e w' => e = .returned (.int .i64 (inUse ps)) ∧ w = w' := by
  have hl := hr.i63.2
  have Hr := Lib.hid hr
  have Hlen := Lib.hid hr.len
  clear hr
  go_enter Try.func12, Try.ntmps12
  go_wp2
  go_loop [3, 4] (fun c i => ∃ k m : Nat, k ≤ n ∧ m ≤ k ∧ m = inUse (ps.take k) ∧ c = .int .i64 m ∧ i = .int .i64 k) (fun _ i => n - (intOf i).toNat)
  case atStart => exact ⟨0, 0, by omega, by omega, by simp [inUse], rfl, rfl⟩
  case round =>
    obtain ⟨k, m, hk, hmk, hm, rfl, rfl⟩ := hrel
    have Hm := Lib.hid hm
    clear hm
    by_cases hlt : k < n
    · obtain ⟨x, b, off, hx, rfl, c0, c1, c2, c3⟩ := Hr.out.at_ hlt
      have hs := inUse_take hx
      have hlt2 : (k : Int) < n := by omega
      clear hx c1 c2 c3
      by_cases h0 : x.kind = 0
      · rw [if_pos h0] at hs
        have Hs := Lib.hid hs
        rw [h0] at c0
        clear hs h0
        go_wp2
        go_round
        case rel => exact ⟨k + 1, m, by omega, by omega, by rw [Hs.out, Hm.out]; omega, rfl, by go_num⟩
        case measure => simp [intOf]; omega
      · rw [if_neg h0] at hs
        have Hs := Lib.hid hs
        have hne : (x.kind != 0) = true := bne_iff_ne.2 h0
        clear hs h0
        go_wp2
        go_round
        case rel => exact ⟨k + 1, m + 1, by omega, by omega, by rw [Hs.out, Hm.out], by go_num, by go_num⟩
        case measure => simp [intOf]; omega
    · have E : Hid (ps.take k = ps) := List.take_of_length_le (by rw [Hlen.out]; omega)
      go_wp2
      go_ret
      exact ⟨ret_int (by rw [Hm.out, E.out]), rfl⟩

theorem pg_eq {x y : Pg} (h0 : x.kind = y.kind) (h1 : x.space = y.space) (h2 : x.used = y.used) (h3 : x.pins = y.pins) : x = y := by
  cases x; cases y; simp_all

end Go.Proofs.Ytbenklhbcgiacaa
