/- Contracts of bits.fit, Pack, Unpack. -/
import Derived.Test.YtmnfcepdmjondaaBitsA
namespace Go.Proofs.Ytmnfcepdmjondaa
open Go.RowKit

def Clos (F : FuncId) (cp : Value) (ws : List Int) (w : World) : Prop :=
  ∀ (i : Nat) (x : Int), ws[i]? = some x → Calls Try.prog F #[.int .i64 i, cp] w fun e w' => e = .returned (.int .i64 x) ∧ w = w'

theorem ret_bool {a b : Bool} (h : a = b) : Ending.returned (.bool a) = .returned (.bool b) := by rw [h]

set_option maxHeartbeats 400000 in
theorem fit_any (F : FuncId) (cp : Value) (n : Nat) (ws : List Int) (w : World) (hlen : Hid (ws.length = n)) (hn : (n : Int) ≤ 9223372036854775807) (hcf : ∀ a w, (callFunc F a).run Try.prog w = .ok (.enter F a) w) (hc : Clos F cp ws w) :
    Calls Try.prog 24 #[.int .i64 n, .func (.func F) #[] #[cp]] w fun e w' => e = .returned (.bool (fitL 64 ws)) ∧ w = w' := by
  go_enter Try.func24, Try.ntmps24
  go_wp2
  go_loop [5, 8] (fun l i => ∃ (k : Nat) (lv : Int), k ≤ n ∧ 0 ≤ lv ∧ lv ≤ 64 ∧ fitL lv (ws.drop k) = fitL 64 ws ∧ l = .int .i64 lv ∧ i = .int .i64 k) (fun _ i => n - (intOf i).toNat)
  case atStart => exact ⟨0, 64, by omega, by omega, by omega, rfl, rfl, rfl⟩
  case round =>
    obtain ⟨k, lv, hk, hl1, hl2, hf, rfl, rfl⟩ := hrel
    have Hf := Lib.hid hf
    clear hf
    by_cases hlt : k < n
    · obtain ⟨x, hx⟩ : ∃ x, ws[k]? = some x := ⟨_, List.getElem?_eq_getElem (by rw [hlen.out]; exact hlt)⟩
      have Hx := Lib.hid hx
      clear hx
      by_cases h1 : x < 1
      · have E := Lib.hid (fitL_no (left := lv) Hx.out (Or.inl h1))
        go_wp2_with (refine (hc k x Hx.out).mono ?_; rintro e w' ⟨rfl, rfl⟩)
        go_ret
        exact ⟨ret_bool (by rw [← Hf.out, E.out]), rfl⟩
      · by_cases h2 : lv < x
        · have E := Lib.hid (fitL_no (left := lv) Hx.out (Or.inr h2))
          go_wp2_with (refine (hc k x Hx.out).mono ?_; rintro e w' ⟨rfl, rfl⟩)
          go_ret
          exact ⟨ret_bool (by rw [← Hf.out, E.out]), rfl⟩
        · have E := Lib.hid (fitL_yes (left := lv) Hx.out h1 h2)
          go_wp2_with (refine (hc k x Hx.out).mono ?_; rintro e w' ⟨rfl, rfl⟩)
          go_round
          case rel => exact ⟨k + 1, lv - x, by omega, by omega, by omega, by rw [← Hf.out, E.out], by go_num, by go_num⟩
          case measure => simp [intOf]; omega
    · have E := Lib.hid (fitL_end (left := lv) (ws := ws) (k := k) (by rw [hlen.out]; omega))
      go_wp2
      go_ret
      exact ⟨ret_bool (by rw [← Hf.out, E.out]), rfl⟩

theorem cell_lt {w : World} {a : Addr} {v : Value} (h : w.cell? a = some v) : a.block < w.heap.size := by
  unfold World.cell? at h
  split at h
  · rename_i hb; exact (Array.getElem?_eq_some_iff.1 hb).1
  · cases h
theorem cell_keep {w w' : World} {a : Addr} {v : Value} (hb : Below w.heap.size w w') (h : w.cell? a = some v) : w'.cell? a = some v := by
  rw [hb.cell (cell_lt h), h]

/-- Slice value (p, len) reads as the fields fs. -/
def FRow (w : World) (p : Option Addr) (fs : List (Int × Nat)) : Prop :=
  ∀ (i : Nat) (x : Int × Nat), fs[i]? = some x → ∃ b off, p = some ⟨b, off, none⟩ ∧ w.cell? ⟨b, off + i * 2, none⟩ = some (.int .i64 x.1) ∧ w.cell? ⟨b, off + i * 2 + 1, none⟩ = some (.int .u64 x.2)
theorem FRow.keep {w w' : World} {p : Option Addr} {fs : List (Int × Nat)} (h : FRow w p fs) (hb : Below w.heap.size w w') : FRow w' p fs := by
  intro i x hx
  obtain ⟨b, off, hp, h1, h2⟩ := h i x hx
  exact ⟨b, off, hp, cell_keep hb h1, cell_keep hb h2⟩

set_option maxHeartbeats 400000 in
theorem packClos_one (n cap : Nat) (i : Nat) (b off b0 : Nat) (x : Int) (w : World) (hi : i < n) (_hn : (n : Int) ≤ 9223372036854775807) (hb : w.cell? ⟨b, 0, none⟩ = some (.slice (some ⟨b0, off, none⟩) n cap)) (hc : w.cell? ⟨b0, off + i * 2, none⟩ = some (.int .i64 x)) :
    Calls Try.prog 25 #[.int .i64 i, .pointer (some ⟨b, 0, none⟩)] w fun e w' => e = .returned (.int .i64 x) ∧ w = w' := by
  go_enter Try.func25, Try.ntmps25
  go_wp2
  go_ret
  exact ⟨rfl, rfl⟩

theorem packClos (p : Option Addr) (n cap : Nat) (b : Nat) (fs : List (Int × Nat)) (w : World) (hlen : fs.length = n) (hn : (n : Int) ≤ 9223372036854775807) (hb : w.cell? ⟨b, 0, none⟩ = some (.slice p n cap)) (hr : FRow w p fs) :
    Clos 25 (.pointer (some ⟨b, 0, none⟩)) (fs.map (·.1)) w := by
  intro i x hx
  rw [List.getElem?_map, Option.map_eq_some_iff] at hx
  obtain ⟨y, hy, rfl⟩ := hx
  obtain ⟨b0, off, rfl, h1, _⟩ := hr i y hy
  exact packClos_one n cap i b off b0 y.1 w (by have := (List.getElem?_eq_some_iff.1 hy).1; omega) hn hb h1

end Go.Proofs.Ytmnfcepdmjondaa
