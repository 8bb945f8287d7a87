/- Contracts of the references proper, Pack and Unpack, and of Same. -/
import Derived.Test.YtmnfcepdmjondaaBitsD
namespace Go.Proofs.Ytmnfcepdmjondaa
open Go.RowKit

/-- Slice value (p, len) reads as the numbers xs of kind k. -/
def IRow (w : World) (kd : IntKind) (p : Option Addr) (xs : List Int) : Prop :=
  ∀ (i : Nat) (x : Int), xs[i]? = some x → ∃ b off, p = some ⟨b, off, none⟩ ∧ w.cell? ⟨b, off + i, none⟩ = some (.int kd x)
theorem IRow.keep {w w' : World} {kd : IntKind} {p : Option Addr} {xs : List Int} (h : IRow w kd p xs) (hb : Below w.heap.size w w') : IRow w' kd p xs := by
  intro i x hx
  obtain ⟨b, off, hp, h1⟩ := h i x hx
  exact ⟨b, off, hp, cell_keep hb h1⟩

set_option maxHeartbeats 400000 in
theorem proper_any (p : Option Addr) (n cap : Nat) (ws : List Int) (w : World) (hlen : Hid (ws.length = n)) (hn : (n : Int) ≤ 9223372036854775807) (hr : IRow w .i64 p ws) :
    Calls Try.prog 26 #[.slice p n cap] w fun e w' => e = .returned (.bool (fitL 64 ws)) ∧ w = w' := by
  have hr1 := Lib.hid hr
  clear hr
  go_enter Try.func26, Try.ntmps26
  go_wp2
  go_loop [3, 4] (fun s i => ∃ (k : Nat) (lv : Int), k ≤ n ∧ 0 ≤ lv ∧ lv ≤ 64 ∧ fitL (64 - lv) (ws.drop k) = fitL 64 ws ∧ s = .int .i64 lv ∧ i = .int .i64 k) (fun _ i => n - (intOf i).toNat)
  case atStart => exact ⟨0, 0, by omega, by omega, by omega, rfl, rfl, rfl⟩
  case round =>
    obtain ⟨k, lv, hk, hl1, hl2, hf, rfl, rfl⟩ := hrel
    have Hf := Lib.hid hf
    clear hf
    by_cases hlt : k < n
    · obtain ⟨x, hx⟩ : ∃ x, ws[k]? = some x := ⟨_, List.getElem?_eq_getElem (by rw [hlen.out]; exact hlt)⟩
      obtain ⟨b, off, rfl, hc⟩ := hr1.out k x hx
      have Hx := Lib.hid hx
      clear hx
      by_cases h1 : x < 1
      · have E := Lib.hid (fitL_no (left := 64 - lv) Hx.out (Or.inl h1))
        go_wp2
        go_ret
        exact ⟨ret_bool (by rw [← Hf.out, E.out]), rfl⟩
      · by_cases h2 : 64 - lv < x
        · have E := Lib.hid (fitL_no (left := 64 - lv) Hx.out (Or.inr h2))
          go_wp2
          go_ret
          exact ⟨ret_bool (by rw [← Hf.out, E.out]), rfl⟩
        · have E := Lib.hid (fitL_yes (left := 64 - lv) Hx.out h1 h2)
          go_wp2
          go_round
          case rel => exact ⟨k + 1, lv + x, by omega, by omega, by omega, by rw [← Hf.out, E.out]; congr 1; omega, by go_num, by go_num⟩
          case measure => simp [intOf]; omega
    · have E := Lib.hid (fitL_end (left := 64 - lv) (ws := ws) (k := k) (by rw [hlen.out]; omega))
      go_wp2
      go_ret
      exact ⟨ret_bool (by rw [← Hf.out, E.out]), rfl⟩

set_option maxHeartbeats 400000 in
theorem same_any (p q : Option Addr) (n m cap cap' : Nat) (xs ys : List Int) (w : World) (hlen : Hid (xs.length = n)) (hlen2 : Hid (ys.length = m)) (hn : (n : Int) ≤ 9223372036854775807) (hr : IRow w .u64 p xs) (hr' : IRow w .u64 q ys) :
    Calls Try.prog 21 #[.slice p n cap, .slice q m cap'] w fun e w' => e = .returned (.bool (decide (xs = ys))) ∧ ∃ d, w' = w.drewN d := by
  have hr1 := Lib.hid hr
  have hr2 := Lib.hid hr'
  clear hr hr'
  by_cases hnm : n = m
  · subst hnm
    go_enter Try.func21, Try.ntmps21
    go_wp2
    go_loopw [5] (fun i wr => ∃ (k : Nat), k ≤ n ∧ xs.take k = ys.take k ∧ i = .int .i64 k ∧ ∃ d, wr = w.drewN d) (fun i _ => n - (intOf i).toNat)
    case atStart => exact ⟨0, by omega, rfl, rfl, 0, rfl⟩
    case round =>
      obtain ⟨k, hk, hf, rfl, d, rfl⟩ := hrel
      have Hf := Lib.hid hf
      clear hf
      by_cases hlt : k < n
      · obtain ⟨x, hx⟩ : ∃ x, xs[k]? = some x := ⟨_, List.getElem?_eq_getElem (by rw [hlen.out]; exact hlt)⟩
        obtain ⟨y, hy⟩ : ∃ y, ys[k]? = some y := ⟨_, List.getElem?_eq_getElem (by rw [hlen2.out]; exact hlt)⟩
        obtain ⟨b, off, rfl, hc⟩ := hr1.out k x hx
        obtain ⟨b2, off2, rfl, hc2⟩ := hr2.out k y hy
        have Hx := Lib.hid hx
        have Hy := Lib.hid hy
        clear hx hy
        have hlt2 : (k : Int) < n := by omega
        by_cases hxy : x = y
        · subst hxy
          go_wp2
          go_quiet (fail)
          go_wp2
          go_roundw
          case rel => exact ⟨k + 1, by omega, by rw [List.take_add_one, List.take_add_one, Hf.out, Hx.out, Hy.out], by go_num, _, rfl⟩
          case measure => simp [intOf]; omega
        · have hb : (x != y) = true := by rw [bne_iff_ne]; exact hxy
          have hne : Hid (decide (xs = ys) = false) := by
            apply decide_eq_false; intro e; subst e; exact hxy (Option.some.inj (Hx.out.symm.trans Hy.out))
          clear hxy
          go_wp2
          go_quiet (fail)
          go_wp2
          go_ret
          exact ⟨ret_bool hne.out.symm, _, World.drewN_drewN _ _ _⟩
      · have he : Hid (decide (xs = ys) = true) := by
          apply decide_eq_true
          have h1 := Hf.out
          rw [List.take_of_length_le (by rw [hlen.out]; omega), List.take_of_length_le (by rw [hlen2.out]; omega)] at h1
          exact h1
        go_wp2
        go_ret
        exact ⟨ret_bool he.out.symm, _, rfl⟩
  · have hne : Hid (decide (xs = ys) = false) := by
      apply decide_eq_false; intro e; subst e; exact hnm (hlen.out.symm.trans hlen2.out)
    have hb : ((n : Int) != (m : Int)) = true := by rw [bne_iff_ne]; omega
    go_enter Try.func21, Try.ntmps21
    go_wp2
    go_ret
    exact ⟨ret_bool hne.out.symm, 0, rfl⟩
end Go.Proofs.Ytmnfcepdmjondaa
