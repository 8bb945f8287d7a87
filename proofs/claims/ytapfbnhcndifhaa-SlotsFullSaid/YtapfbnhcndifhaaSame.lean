/- Contract of the references' Same: whether two lists of words are equal. -/
import Derived.Test.YtapfbnhcndifhaaKit
namespace Go.Proofs.Ytapfbnhcndifhaa
open Go.RowKit

set_option maxHeartbeats 400000 in
theorem same_any (p q : Option Addr) (n m cap cap' : Nat) (xs ys : List Int) (w : World) (hlen : Hid (xs.length = n)) (hlen2 : Hid (ys.length = m)) (hn : (n : Int) ≤ 9223372036854775807) (hr : IRow w .u64 p xs) (hr' : IRow w .u64 q ys) :
    Calls Try.prog 18 #[.slice p n cap, .slice q m cap'] w fun e w' => e = .returned (.bool (decide (xs = ys))) ∧ Drawn w w' := by
  have hr1 := Lib.hid hr
  have hr2 := Lib.hid hr'
  clear hr hr'
  by_cases hnm : n = m
  · subst hnm
    go_enter Try.func18, Try.ntmps18
    go_wp2
    go_loopw [5] (fun i wr => ∃ (k : Nat), k ≤ n ∧ xs.take k = ys.take k ∧ i = .int .i64 k ∧ ∃ d, wr = w.drewN d) (fun i _ => n - (intOf i).toNat)
    case atStart => exact ⟨0, by omega, rfl, rfl, 0, rfl⟩
    case round =>
      obtain ⟨k, hk, hf, rfl, d, rfl⟩ := hrel
      have Hf := Lib.hid hf
      clear hf
      by_cases hlt : k < n
      · obtain ⟨x, hx⟩ : ∃ x, xs[k]? = some x := ⟨_, List.getElem?_eq_getElem (by rw [hlen.out]; exact hlt)⟩
        obtain ⟨y, hy⟩ : ∃ y, ys[k]? = some y := ⟨_, List.getElem?_eq_getElem (by rw [hlen2.out]; exact hlt)⟩
        obtain ⟨b, off, rfl, hc⟩ := hr1.out k x hx
        obtain ⟨b2, off2, rfl, hc2⟩ := hr2.out k y hy
        have Hx := Lib.hid hx
        have Hy := Lib.hid hy
        clear hx hy
        have hlt2 : (k : Int) < n := by omega
        by_cases hxy : x = y
        · subst hxy
          go_wp2
          go_quiet (fail)
          go_wp2
          go_roundw
          case rel => exact ⟨k + 1, by omega, by rw [List.take_add_one, List.take_add_one, Hf.out, Hx.out, Hy.out], by go_num, _, rfl⟩
          case measure => simp [intOf]; omega
        · have hb : (x != y) = true := by rw [bne_iff_ne]; exact hxy
          have hne : Hid (decide (xs = ys) = false) := by
            apply decide_eq_false; intro e; subst e; exact hxy (Option.some.inj (Hx.out.symm.trans Hy.out))
          clear hxy
          go_wp2
          go_quiet (fail)
          go_wp2
          go_ret
          exact ⟨ret_bool hne.out.symm, _, World.drewN_drewN _ _ _⟩
      · have he : Hid (decide (xs = ys) = true) := by
          apply decide_eq_true
          have h1 := Hf.out
          rw [List.take_of_length_le (by rw [hlen.out]; omega), List.take_of_length_le (by rw [hlen2.out]; omega)] at h1
          exact h1
        go_wp2
        go_ret
        exact ⟨ret_bool he.out.symm, _, rfl⟩
  · have hne : Hid (decide (xs = ys) = false) := by
      apply decide_eq_false; intro e; subst e; exact hnm (hlen.out.symm.trans hlen2.out)
    have hb : ((n : Int) != (m : Int)) = true := by rw [bne_iff_ne]; omega
    go_enter Try.func18, Try.ntmps18
    go_wp2
    go_ret
    exact ⟨ret_bool hne.out.symm, 0, rfl⟩
end Go.Proofs.Ytapfbnhcndifhaa
