/- Contracts of layer 15: Valid of package slots and of its reference. -/
import Derived.Test.YtggaaobpaodigaaSlM
import Derived.Test.YtggaaobpaodigaaOwn
set_option linter.unusedVariables false
namespace Go.Proofs.Ytggaaobpaodigaa
open Go.RowKit

theorem entry_at {w : World} {p : Option Addr} {n c : Nat} {t : List En} (h : VRow w 3 p n c (t.flatMap enC)) {k : Nat} (hk : k < n) : ∃ e b off, t[k]? = some e ∧ p = some ⟨b, off, none⟩ ∧ w.cell? ⟨b, off + k * 3, none⟩ = some (.int .i64 e.gn) ∧ w.cell? ⟨b, off + k * 3 + 1, none⟩ = some (.int .u64 e.rf) ∧ w.cell? ⟨b, off + k * 3 + 2, none⟩ = some (.bool e.lv) := by
  have hl := h.len
  rw [flat_len _ 3 enC_len] at hl
  have hx : t[k]? = some (t[k]'(by omega)) := List.getElem?_eq_getElem _
  obtain ⟨b, off, hp, hc⟩ := h.at_ hk (by decide)
  refine ⟨_, b, off, hx, hp, hc 0 _ (flat_at enC 3 enC_len t k _ 0 (by decide) hx), ?_, ?_⟩
  · rw [Nat.add_assoc]; exact hc 1 _ (flat_at enC 3 enC_len t k _ 1 (by decide) hx)
  · rw [Nat.add_assoc]; exact hc 2 _ (flat_at enC 3 enC_len t k _ 2 (by decide) hx)
theorem VRow.lenT {w : World} {p : Option Addr} {n c : Nat} {t : List En} (h : VRow w 3 p n c (t.flatMap enC)) : t.length = n := by
  have hl := h.len
  rw [flat_len _ 3 enC_len] at hl
  omega
theorem okT_good {t : List En} {n : Nat} (hl : t.length = n) (hn : n ≤ 64) (h : ∀ (j : Nat) (e : En), j < n → t[j]? = some e → enB e = true) : okT t = true :=
  okT_iff.2 ⟨by omega, fun k e he => h k e (by have := (List.getElem?_eq_some_iff.1 he).1; omega) he⟩
theorem enB_no {e : En} (h : e.gn < 1 ∨ 4294967295 < e.gn ∨ (e.lv = false ∧ e.rf ≠ 0)) : enB e = false := by
  rw [← Bool.not_eq_true, enB_iff]
  rintro ⟨h1, h2, h3⟩
  rcases h with h | h | ⟨h, h4⟩
  · omega
  · omega
  · exact h4 (h3 h)

set_option maxRecDepth 100000 in
set_option maxHeartbeats 1600000 in
theorem slValid_any (p : Option Addr) (n cap : Nat) (t : List En) (w : World) (hr : VRow w 3 p n cap (t.flatMap enC)) :
    Calls Try.prog 9 #[.agg #[.slice p n cap]] w fun e w' => e = .returned (.bool (okT t)) ∧ Below w.heap.size w w' := by
  have hl := hr.i63.2
  have Hr := Lib.hid hr
  have Hlen := Lib.hid hr.lenT
  clear hr
  by_cases hbig : (64 : Int) < n
  · have H := Lib.hid (okT_long (t := t) (by have := Hlen.out; omega))
    go_enter Try.func9, Try.ntmps9
    go_wp2
    go_ret
    exact ⟨ret_bool H.out.symm, below_box⟩
  · go_enter Try.func9, Try.ntmps9
    go_wp2
    obtain ⟨w1, hw1⟩ : ∃ w1, w.alloc (.cells #[.slice p n cap] 25) = w1 := ⟨_, rfl⟩
    have HB := Lib.hid (show Below w.heap.size w w1 from by rw [← hw1]; exact below_box)
    rw [hw1]
    clear hw1
    go_loopw [12] (fun i wr => ∃ k : Nat, k ≤ n ∧ (∀ (j : Nat) (e : En), j < k → t[j]? = some e → enB e = true) ∧ i = .int .i64 k ∧ Below w1.heap.size w1 wr) (fun i _ => n - (intOf i).toNat)
    case atStart => exact ⟨0, by omega, fun j e h => absurd h (Nat.not_lt_zero _), rfl, Below.refl _ _⟩
    case round =>
      obtain ⟨k, hk, hf, rfl, hb⟩ := hrel
      have Hf := Lib.hid hf
      have HBr := Lib.hid (bthen HB.out hb)
      have HBw := Lib.hid hb
      clear hf hb
      by_cases hlt : k < n
      · obtain ⟨e, b, off, hx, rfl, c0, c1, c2⟩ := entry_at (Hr.out.keep HBr.out) hlt
        have Hx := Lib.hid hx
        have hlt2 : (k : Int) < n := by omega
        have hb1 : b < wr.heap.size := cell_lt c0
        clear hx
        obtain ⟨g, r, l⟩ := e
        simp only at c0 c1 c2
        by_cases h0 : g < 1
        · have H := Lib.hid (okT_bad Hx.out (enB_no (.inl h0)))
          go_wp2
          go_ret
          exact ⟨ret_bool H.out.symm, bthen HBr.out below_box⟩
        · by_cases h1 : 4294967295 < g
          · have H := Lib.hid (okT_bad Hx.out (enB_no (.inr (.inl h1))))
            go_wp2
            go_ret
            exact ⟨ret_bool H.out.symm, bthen HBr.out below_box⟩
          · cases l
            · by_cases h2 : r = 0
              · subst h2
                have H := Lib.hid (show enB ⟨g, 0, false⟩ = true from enB_iff.2 ⟨by simp only; omega, by simp only; omega, fun _ => rfl⟩)
                go_wp2
                go_roundw
                case rel => exact ⟨k + 1, by omega, fun j e hj hy => by
                  by_cases e1 : j = k
                  · subst e1; rw [Hx.out] at hy; cases hy; exact H.out
                  · exact Hf.out j e (by omega) hy, by go_num, bthen HBw.out below_box⟩
                case measure => simp [intOf]; omega
              · have H := Lib.hid (okT_bad Hx.out (enB_no (.inr (.inr ⟨rfl, h2⟩))))
                have h3 : (r != 0) = true := bne_iff_ne.2 h2
                clear h2
                go_wp2
                go_ret
                exact ⟨ret_bool H.out.symm, bthen HBr.out below_box⟩
            · have H := Lib.hid (show enB ⟨g, r, true⟩ = true from enB_iff.2 ⟨by simp only; omega, by simp only; omega, fun h => by cases h⟩)
              go_wp2
              go_roundw
              case rel => exact ⟨k + 1, by omega, fun j e hj hy => by
                by_cases e1 : j = k
                · subst e1; rw [Hx.out] at hy; cases hy; exact H.out
                · exact Hf.out j e (by omega) hy, by go_num, bthen HBw.out below_box⟩
              case measure => simp [intOf]; omega
      · obtain rfl : k = n := by omega
        have H := Lib.hid (okT_good Hlen.out (by omega) Hf.out)
        go_wp2
        go_ret
        exact ⟨ret_bool H.out.symm, HBr.out⟩

end Go.Proofs.Ytggaaobpaodigaa
