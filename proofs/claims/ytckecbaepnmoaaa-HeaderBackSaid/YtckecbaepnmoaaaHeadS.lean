/- Contracts of package header: Decode, Target. -/
import Derived.Test.YtckecbaepnmoaaaHeadR
namespace Go.Proofs.Ytckecbaepnmoaaa
open Go.RowKit

theorem irow4 (w : World) (T : TypeId) (kd : IntKind) (a b c d : Int) : IRow (w.alloc (.cells #[.int kd a, .int kd b, .int kd c, .int kd d] T)) kd (some ⟨w.heap.size, 0, none⟩) [a, b, c, d] := by
  intro i x hx
  refine ⟨w.heap.size, 0, rfl, ?_⟩
  match i with
  | 0 => simp at hx; subst hx; simp
  | 1 => simp at hx; subst hx; simp
  | 2 => simp at hx; subst hx; simp
  | 3 => simp at hx; subst hx; simp
  | n + 4 => simp at hx
theorem irow2 (w : World) (T : TypeId) (kd : IntKind) (a b : Int) : IRow (w.alloc (.cells #[.int kd a, .int kd b] T)) kd (some ⟨w.heap.size, 0, none⟩) [a, b] := by
  intro i x hx
  refine ⟨w.heap.size, 0, rfl, ?_⟩
  match i with
  | 0 => simp at hx; subst hx; simp
  | 1 => simp at hx; subst hx; simp
  | n + 2 => simp at hx
theorem shr_zero {x k : Nat} : x >>> k = 0 ↔ x < 2 ^ k := by
  rw [Nat.shiftRight_eq_div_pow, Nat.div_eq_zero_iff]
  have := pow_pos2 k
  omega
theorem unp_head {x : Nat} (h : x < 281474976710656) : unpE x [2, 2, 12, 32] = 0 ∧ unpV x [2, 2, 12, 32] = [((x % 4 : Nat) : Int), ((dK x : Nat) : Int), ((dN x : Nat) : Int), ((dM x : Nat) : Int)] := by
  obtain ⟨E, V⟩ := unp_ok (x := x) (ws := [2, 2, 12, 32]) (by decide) (shr_zero.2 (by simpa [sumW] using h))
  refine ⟨E, V.out.trans ?_⟩
  simp only [uvals, and_ones, dK, dN, dM, Nat.shiftRight_eq_div_pow, Nat.div_div_eq_div_mul]
  simp
theorem unp_head_no {x : Nat} (h : ¬ x < 281474976710656) : unpE x [2, 2, 12, 32] = 2 ∧ unpV x [2, 2, 12, 32] = [] := by
  obtain ⟨E, V⟩ := unp_bad (x := x) (ws := [2, 2, 12, 32]) (by decide) (fun c => h (by simpa [sumW] using shr_zero.1 c))
  exact ⟨E, V⟩
theorem unp_tgt {x : Nat} (h : x < 17179869184) : unpE x [2, 32] = 0 ∧ unpV x [2, 32] = [((x % 4 : Nat) : Int), ((x / 4 : Nat) : Int)] := by
  obtain ⟨E, V⟩ := unp_ok (x := x) (ws := [2, 32]) (by decide) (shr_zero.2 (by simpa [sumW] using h))
  refine ⟨E, V.out.trans ?_⟩
  simp only [uvals, and_ones, Nat.shiftRight_eq_div_pow]
  simp
  omega
theorem unp_tgt_no {x : Nat} (h : ¬ x < 17179869184) : unpE x [2, 32] = 2 ∧ unpV x [2, 32] = [] := by
  obtain ⟨E, V⟩ := unp_bad (x := x) (ws := [2, 32]) (by decide) (fun c => h (by simpa [sumW] using shr_zero.1 c))
  exact ⟨E, V⟩

set_option maxHeartbeats 800000 in
theorem target_any (x : Nat) (w : World) (hx : x < 18446744073709551616) :
    Calls Try.prog 18 #[.int .u64 x] w fun e w' => e = .returned (.tuple #[.int .u64 (tgtV x), .bool (okT x)]) ∧ Below w.heap.size w w' := by
  have hu := Lib.hid (unpack_any x (some ⟨w.heap.size, 0, none⟩) 2 2 [2, 32] _ hx rfl (by omega) (irow2 w 3 .i64 2 32))
  obtain ⟨X, hX⟩ : ∃ X : Int, Hid ((x : Int) = X) := ⟨_, rfl⟩
  by_cases h : x < 17179869184
  · obtain ⟨e1, e2⟩ := unp_tgt h
    rw [e1, e2] at hu
    by_cases h4 : x % 4 = 2
    · have hT := okT_mk h4 h
      rw [tgt_ok hT, hT]
      obtain ⟨A, hA⟩ : ∃ A : Int, Hid (((x / 4 : Nat) : Int) = A) := ⟨_, rfl⟩
      rw [h4, hA.out] at hu
      rw [hA.out, hX.out]
      rw [hX.out] at hu
      clear e1 e2 h h4 hT hx
      go_enter Try.func18, Try.ntmps18
      go_wp2_with fail
      refine hu.out.mono ?_
      rintro e w1 ⟨⟨q, m, c, rfl, hq⟩, hb1⟩
      obtain rfl : m = 2 := hq.len.symm
      obtain ⟨y, b, off, hy, rfl, d0⟩ := hq.at_ (k := 0) (by omega)
      obtain ⟨z, b', off', hz, hp, d1⟩ := hq.at_ (k := 1) (by omega)
      simp at hy hz hp
      obtain ⟨rfl, rfl⟩ := hp
      subst hy hz
      rw [Nat.add_zero] at d0
      clear hu hq
      go_wp2
      go_ret2
      exact ⟨rfl, below_boxed hb1⟩
    · have hT := okT_no (x := x) (Or.inl h4)
      rw [tgt_no hT, hT]
      obtain ⟨R, hR⟩ : ∃ R : Int, Hid (((x % 4 : Nat) : Int) = R) := ⟨_, rfl⟩
      have hne : (R != 2) = true := by rw [bne_iff_ne, ← hR.out]; omega
      rw [hR.out] at hu
      rw [hX.out]
      rw [hX.out] at hu
      clear e1 e2 h h4 hT hx
      go_enter Try.func18, Try.ntmps18
      go_wp2_with fail
      refine hu.out.mono ?_
      rintro e w1 ⟨⟨q, m, c, rfl, hq⟩, hb1⟩
      obtain rfl : m = 2 := hq.len.symm
      obtain ⟨y, b, off, hy, rfl, d0⟩ := hq.at_ (k := 0) (by omega)
      simp at hy
      subst hy
      rw [Nat.add_zero] at d0
      clear hu hq
      go_wp2
      go_ret2
      exact ⟨rfl, below_boxed hb1⟩
  · obtain ⟨e1, e2⟩ := unp_tgt_no h
    have hT := okT_no (x := x) (Or.inr h)
    rw [tgt_no hT, hT]
    rw [e1, e2] at hu
    rw [hX.out]
    rw [hX.out] at hu
    clear e1 e2 h hT hx
    go_enter Try.func18, Try.ntmps18
    go_wp2_with fail
    refine hu.out.mono ?_
    rintro e w1 ⟨⟨q, m, c, rfl, hq⟩, hb1⟩
    clear hu hq
    go_wp2
    go_ret2
    exact ⟨rfl, below_boxed hb1⟩
end Go.Proofs.Ytckecbaepnmoaaa
