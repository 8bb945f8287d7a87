/- Contract of bits.Pack. -/
import Derived.Test.YtmnfcepdmjondaaBitsB
namespace Go.Proofs.Ytmnfcepdmjondaa
open Go.RowKit

theorem packB_bad {fs : List (Int × Nat)} (h1 : fitL 64 (fs.map (·.1)) = true) (h : okF fs = false) : packB fs = (0, 2) := by
  unfold packB; rw [if_pos h1, if_neg (by simp [h])]
theorem packB_ok {fs : List (Int × Nat)} (h1 : fitL 64 (fs.map (·.1)) = true) (h : okF fs = true) : packB fs = (((packR fs : Nat) : Int), 0) := by
  unfold packB; rw [if_pos h1, if_pos h]
theorem packB_no {fs : List (Int × Nat)} (h1 : ¬ fitL 64 (fs.map (·.1)) = true) : packB fs = (0, 1) := by
  unfold packB; rw [if_neg h1]
theorem ret_u64i {a b c d : Int} (h : (a, c) = (b, d)) : Ending.returned (.tuple #[.int .u64 a, .int .i64 c]) = .returned (.tuple #[.int .u64 b, .int .i64 d]) := by
  injection h with h1 h2; rw [h1, h2]

theorem below_of_alloc {w wr : World} {o : Obj} (hb : Below (w.heap.size + 1) (w.alloc o) wr) : Below w.heap.size w wr :=
  ((Below.refl _ _).alloc (Nat.le_refl _) _).trans (hb.mono (by omega))
theorem drop_all {α : Type} {fs : List α} {k : Nat} (h : fs.length ≤ k) : fs.drop k = [] := List.drop_eq_nil_of_le h

set_option maxHeartbeats 400000 in
theorem pack_any (p : Option Addr) (n cap : Nat) (fs : List (Int × Nat)) (w : World) (hlen : Hid (fs.length = n)) (hn : (n : Int) ≤ 9223372036854775807) (hr : FRow w p fs) :
    Calls Try.prog 16 #[.slice p n cap] w fun e w' => e = .returned (.tuple #[.int .u64 (packB fs).1, .int .i64 (packB fs).2]) ∧ Below w.heap.size w w' := by
  have hbel : Below w.heap.size w (w.alloc (.cells #[.slice p n cap] 35)) := (Below.refl _ _).alloc (Nat.le_refl _) _
  have hr1 := Lib.hid (hr.keep hbel)
  clear hr
  have hfit := Lib.hid (fit_any 25 (.pointer (some ⟨w.heap.size, 0, none⟩)) n (fs.map (·.1)) (w.alloc (.cells #[.slice p n cap] 35)) (by rw [List.length_map]; exact hlen.out) hn (fun _ _ => by kernel_rfl) (packClos p n cap w.heap.size fs _ hlen.out hn (by simp) hr1.out))
  clear hbel
  by_cases hf : fitL 64 (fs.map (·.1)) = true
  · go_enter Try.func16, Try.ntmps16
    go_wp2_with (refine hfit.out.mono ?_; rintro e w' ⟨rfl, rfl⟩)
    clear hfit
    go_loopw [4, 14] (fun a i wr => ∃ k : Nat, k ≤ n ∧ okF (fs.drop (n - k)) = true ∧ a = .int .u64 ((packR (fs.drop (n - k)) : Nat) : Int) ∧ i = .int .i64 k ∧ Below (w.heap.size + 1) (w.alloc (.cells #[.slice p n cap] 35)) wr) (fun _ i _ => n - (intOf i).toNat)
    case atStart =>
      have e := drop_all (fs := fs) (k := n - 0) (by rw [hlen.out]; omega)
      exact ⟨0, by omega, by rw [e]; rfl, by rw [e]; rfl, rfl, Below.refl _ _⟩
    case round =>
      obtain ⟨k, hk, hok, rfl, rfl, hb⟩ := hrel
      have Hok := Lib.hid hok
      clear hok
      have hbox : wr.cell? ⟨w.heap.size, 0, none⟩ = some (.slice p n cap) := by rw [hb.cell (by simp)]; simp
      by_cases hlt : k < n
      · obtain ⟨x, hx⟩ : ∃ x, fs[n - 1 - k]? = some x := ⟨_, List.getElem?_eq_getElem (by rw [hlen.out]; omega)⟩
        obtain ⟨b, off, rfl, c1, c2⟩ := (hr1.out.keep (hb.mono (by simp))) _ x hx
        have hsz := Lib.hid (show w.heap.size + 1 ≤ wr.heap.size by have := hb.size; simpa using this)
        have Hx := Lib.hid hx
        clear hx
        have e1 : n - k = n - 1 - k + 1 := by omega
        rw [e1] at Hok
        rw [e1]
        clear e1
        by_cases hv : (x.2 : Int) ≤ onesV x.1
        · obtain ⟨s1, s2, s3, s4⟩ := pack_step Hx.out hf Hok.out hv
          have S3 := Lib.hid s3
          have S4 := Lib.hid s4
          clear s3 s4
          go_wp2
          go_quiet ((go_at_call 10; exact Calls.quiet_of_same ((ones_any _ _).mono fun e w' h => ⟨h.1, h.2.symm⟩)))
          go_wp2
          go_quiet (fail)
          go_wp2
          go_roundw
          case rel => exact ⟨k + 1, by omega, by rw [show n - (k + 1) = n - 1 - k from by omega]; exact S3.out, by rw [show n - (k + 1) = n - 1 - k from by omega, ← S4.out], by go_num, by repeat (first | apply below_drewN | exact hb.alloc hsz.out _)⟩
          case measure => simp [intOf]; omega
        · have E := Lib.hid (packB_bad hf (pack_bad Hx.out hv))
          go_wp2
          go_quiet ((go_at_call 10; exact Calls.quiet_of_same ((ones_any _ _).mono fun e w' h => ⟨h.1, h.2.symm⟩)))
          go_wp2
          go_ret2
          exact ⟨ret_u64i (by rw [E.out]), by repeat (first | apply below_drewN | exact (below_of_alloc hb).alloc (Nat.le_of_succ_le hsz.out) _)⟩
      · have e1 : n - k = 0 := by omega
        rw [e1, List.drop_zero] at Hok
        rw [e1, List.drop_zero]
        clear e1
        have E := Lib.hid (packB_ok hf Hok.out)
        go_wp2
        go_ret2
        exact ⟨ret_u64i (by rw [E.out]), below_of_alloc hb⟩
  · have E := Lib.hid (packB_no hf)
    go_enter Try.func16, Try.ntmps16
    go_wp2_with (refine hfit.out.mono ?_; rintro e w' ⟨rfl, rfl⟩)
    go_ret2
    exact ⟨ret_u64i (by rw [E.out]), (Below.refl _ _).alloc (Nat.le_refl _) _⟩
end Go.Proofs.Ytmnfcepdmjondaa
