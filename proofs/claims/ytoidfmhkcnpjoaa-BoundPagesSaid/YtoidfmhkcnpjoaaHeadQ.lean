/- Contracts of package header: Encode, Forward, Size, Pointer. -/
import Derived.Test.YtoidfmhkcnpjoaaHeadP
namespace Go.Proofs.Ytoidfmhkcnpjoaa
open Go.RowKit

theorem packR_cons {f : Int × Nat} {r : List (Int × Nat)} (h : f.2 < 2 ^ f.1.toNat) : packR (f :: r) = packR r * 2 ^ f.1.toNat + f.2 := by
  rw [packR, ← Nat.shiftLeft_add_eq_or_of_lt h, Nat.shiftLeft_eq]
theorem frow4 (w : World) (T : TypeId) (a b c d : Int) (x y z u : Nat) : FRow (w.alloc (.cells #[.int .i64 a, .int .u64 x, .int .i64 b, .int .u64 y, .int .i64 c, .int .u64 z, .int .i64 d, .int .u64 u] T)) (some ⟨w.heap.size, 0, none⟩) [(a, x), (b, y), (c, z), (d, u)] := by
  intro i f hf
  refine ⟨w.heap.size, 0, rfl, ?_⟩
  match i with
  | 0 => simp at hf; subst hf; simp
  | 1 => simp at hf; subst hf; simp
  | 2 => simp at hf; subst hf; simp
  | 3 => simp at hf; subst hf; simp
  | n + 4 => simp at hf
theorem frow2 (w : World) (T : TypeId) (a b : Int) (x y : Nat) : FRow (w.alloc (.cells #[.int .i64 a, .int .u64 x, .int .i64 b, .int .u64 y] T)) (some ⟨w.heap.size, 0, none⟩) [(a, x), (b, y)] := by
  intro i f hf
  refine ⟨w.heap.size, 0, rfl, ?_⟩
  match i with
  | 0 => simp at hf; subst hf; simp
  | 1 => simp at hf; subst hf; simp
  | n + 2 => simp at hf
theorem pack_head {k n m : Nat} (h1 : k ≤ 3) (h2 : n ≤ 255) (h3 : m < 4294967296) : packB [(2, 1), (2, k), (12, n), (32, m)] = (wordV k n m, 0) := by
  rw [packB_ok (by simp [fitL]) (by simp [okF, onesV]; omega)]
  rw [packR_cons (by simp), packR_cons (by simp; omega), packR_cons (by simp; omega), packR_cons (by simp; omega)]
  simp only [packR, wordV]
  simp
  omega
theorem pack_fwd {a : Nat} (h : a < 4294967296) : packB [(2, 2), (32, a)] = (4 * (a : Int) + 2, 0) := by
  rw [packB_ok (by simp [fitL]) (by simp [okF, onesV]; omega)]
  rw [packR_cons (by simp), packR_cons (by simp; omega)]
  simp only [packR]
  simp
  omega

theorem frow2i (w : World) (T : TypeId) (a b : Int) (x y : Nat) (Y : Int) (h : Y = y) : FRow (w.alloc (.cells #[.int .i64 a, .int .u64 x, .int .i64 b, .int .u64 Y] T)) (some ⟨w.heap.size, 0, none⟩) [(a, x), (b, y)] := by
  subst h; exact frow2 w T a b x y

set_option maxHeartbeats 800000 in
theorem hsize_any (k n m : Int) (w : World) (hm0 : 0 ≤ m) (hm : m < 4294967296) :
    Calls Try.prog 17 #[.agg #[.int .i64 k, .int .i64 n, .int .u32 m]] w fun e w' => e = .returned (.int .i64 (sizeV k n m)) ∧ Below w.heap.size w w' := by
  have hc := Lib.hid (hvalid_any k n m (w.alloc (.cells #[.int .i64 k, .int .i64 n, .int .u32 m] 28)) hm0 hm)
  by_cases hv : validB k n m = true
  · rw [size_ok hv]
    obtain ⟨-, -, h3, h4, -, -⟩ := valid_parts hv
    rw [hv] at hc
    clear hv
    go_enter Try.func17, Try.ntmps17
    go_wp2_with fail
    refine hc.out.mono ?_
    rintro e w1 ⟨rfl, hb1⟩
    obtain ⟨c0, c1, c2⟩ := box3 (by simpa using hb1)
    clear hc
    go_wp2
    go_ret
    exact ⟨rfl, below_boxed hb1⟩
  · have hv : validB k n m = false := by simpa using hv
    rw [size_no hv]
    rw [hv] at hc
    clear hv
    go_enter Try.func17, Try.ntmps17
    go_wp2_with fail
    refine hc.out.mono ?_
    rintro e w1 ⟨rfl, hb1⟩
    clear hc
    go_wp2
    go_ret
    exact ⟨rfl, below_boxed hb1⟩
end Go.Proofs.Ytoidfmhkcnpjoaa
