/- Contract of header.Decode. -/
import Derived.Test.YtckecbaepnmoaaaHeadS
namespace Go.Proofs.Ytckecbaepnmoaaa
open Go.RowKit

/-- Block b is a struct of three fields that may be written. -/
structure Own3 (w : World) (b : Nat) (x y z : Value) : Prop where
  c0 : w.cell? ⟨b, 0, none⟩ = some x
  c1 : w.cell? ⟨b, 1, none⟩ = some y
  c2 : w.cell? ⟨b, 2, none⟩ = some z
  f0 : w.frozen? ⟨b, 0, none⟩ = false
  f1 : w.frozen? ⟨b, 1, none⟩ = false
  f2 : w.frozen? ⟨b, 2, none⟩ = false
theorem Own3.keep {w w' : World} {b : Nat} {x y z : Value} (h : Own3 w b x y z) (hb : Below w.heap.size w w') : Own3 w' b x y z := by
  have hl : b < w.heap.size := cell_lt h.c0
  have hc : ∀ o, w'.cell? ⟨b, o, none⟩ = w.cell? ⟨b, o, none⟩ := fun o => hb.cell (p := ⟨b, o, none⟩) hl
  have hf : ∀ o, w'.frozen? ⟨b, o, none⟩ = w.frozen? ⟨b, o, none⟩ := fun o => hb.frozen (p := ⟨b, o, none⟩) hl
  exact ⟨by rw [hc]; exact h.c0, by rw [hc]; exact h.c1, by rw [hc]; exact h.c2, by rw [hf]; exact h.f0, by rw [hf]; exact h.f1, by rw [hf]; exact h.f2⟩
theorem Own3.new (w : World) (x y z : Value) (T : TypeId) : Own3 (w.alloc (.cells #[x, y, z] T)) w.heap.size x y z := by
  constructor <;> simp
theorem below_set3 {B : Nat} {w w1 : World} {b : Nat} {x y z : Value} (h : Below B w w1) (hb : B ≤ b) : Below B w (((w1.setCell ⟨b, 0, none⟩ x).setCell ⟨b, 1, none⟩ y).setCell ⟨b, 2, none⟩ z) :=
  ((h.setCell hb x).setCell hb y).setCell hb z

set_option maxHeartbeats 800000 in
theorem decode_bad (x : Nat) (w : World) (hx : x < 18446744073709551616) (h : ¬ x < 281474976710656) :
    Calls Try.prog 14 #[.int .u64 x] w fun e w' => e = .returned (.tuple #[.agg #[.int .i64 0, .int .i64 0, .int .u32 0], .bool false]) ∧ Below w.heap.size w w' := by
  have hu := Lib.hid (unpack_any x (some ⟨w.heap.size + 1, 0, none⟩) 4 4 [2, 2, 12, 32] _ hx rfl (by omega) (by simpa using irow4 (w.alloc (.cells #[.int .i64 0, .int .i64 0, .int .u32 0] 24)) 3 .i64 2 2 12 32))
  have ho := Own3.new w (.int .i64 0) (.int .i64 0) (.int .u32 0) 24
  obtain ⟨X, hX⟩ : ∃ X : Int, Hid ((x : Int) = X) := ⟨_, rfl⟩
  obtain ⟨e1, e2⟩ := unp_head_no h
  rw [e1, e2] at hu
  rw [hX.out]
  rw [hX.out] at hu
  clear e1 e2 h hx
  have Ho := Lib.hid ho
  clear ho
  go_enter Try.func14, Try.ntmps14
  go_wp2_with fail
  refine hu.out.mono ?_
  rintro e w1 ⟨⟨q, m, c, rfl, hq⟩, hb1⟩
  have hb01 := below_boxed hb1
  obtain ⟨c0, c1, c2, f0, f1, f2⟩ := Ho.out.keep hb01
  have hbw := below_boxed hb01
  clear hu hq hb1 hb01
  go_wp2
  exact bodyPost_ret (v := .tuple #[.agg #[.int .i64 0, .int .i64 0, .int .u32 0], .bool false]) (by simp [results, Try.results14, go_sem, c0, c1, c2]) rfl ⟨rfl, below_set3 hbw (Nat.le_refl _)⟩

set_option maxHeartbeats 800000 in
theorem decode_tag (x : Nat) (w : World) (hx : x < 18446744073709551616) (h : x < 281474976710656) (h4 : ¬ x % 4 = 1) :
    Calls Try.prog 14 #[.int .u64 x] w fun e w' => e = .returned (.tuple #[.agg #[.int .i64 0, .int .i64 0, .int .u32 0], .bool false]) ∧ Below w.heap.size w w' := by
  have hu := Lib.hid (unpack_any x (some ⟨w.heap.size + 1, 0, none⟩) 4 4 [2, 2, 12, 32] _ hx rfl (by omega) (by simpa using irow4 (w.alloc (.cells #[.int .i64 0, .int .i64 0, .int .u32 0] 24)) 3 .i64 2 2 12 32))
  have ho := Own3.new w (.int .i64 0) (.int .i64 0) (.int .u32 0) 24
  obtain ⟨X, hX⟩ : ∃ X : Int, Hid ((x : Int) = X) := ⟨_, rfl⟩
  obtain ⟨e1, e2⟩ := unp_head h
  rw [e1, e2] at hu
  obtain ⟨R, hR⟩ : ∃ R : Int, Hid (((x % 4 : Nat) : Int) = R) := ⟨_, rfl⟩
  have hne : (R != 1) = true := by rw [bne_iff_ne, ← hR.out]; omega
  rw [hR.out] at hu
  rw [hX.out]
  rw [hX.out] at hu
  clear e1 e2 h hx h4
  have Ho := Lib.hid ho
  clear ho
  go_enter Try.func14, Try.ntmps14
  go_wp2_with fail
  refine hu.out.mono ?_
  rintro e w1 ⟨⟨q, m, c, rfl, hq⟩, hb1⟩
  obtain rfl : m = 4 := hq.len.symm
  obtain ⟨y, b, off, hy, rfl, d0⟩ := hq.at_ (k := 0) (by omega)
  simp at hy
  subst hy
  rw [Nat.add_zero] at d0
  have hb01 := below_boxed hb1
  obtain ⟨c0, c1, c2, f0, f1, f2⟩ := Ho.out.keep hb01
  have hbw := below_boxed hb01
  clear hu hq hb1 hb01
  go_wp2
  exact bodyPost_ret (v := .tuple #[.agg #[.int .i64 0, .int .i64 0, .int .u32 0], .bool false]) (by simp [results, Try.results14, go_sem, c0, c1, c2]) rfl ⟨rfl, below_set3 hbw (Nat.le_refl _)⟩

set_option maxHeartbeats 1600000 in
theorem decode_yes (x : Nat) (w : World) (hx : x < 18446744073709551616) (h : x < 281474976710656) (h4 : x % 4 = 1) (hv : Hid (validB (dK x) (dN x) (dM x) = true)) :
    Calls Try.prog 14 #[.int .u64 x] w fun e w' => e = .returned (.tuple #[.agg #[.int .i64 (dK x), .int .i64 (dN x), .int .u32 (dM x)], .bool true]) ∧ Below w.heap.size w w' := by
  have hu := Lib.hid (unpack_any x (some ⟨w.heap.size + 1, 0, none⟩) 4 4 [2, 2, 12, 32] _ hx rfl (by omega) (by simpa using irow4 (w.alloc (.cells #[.int .i64 0, .int .i64 0, .int .u32 0] 24)) 3 .i64 2 2 12 32))
  have ho := Own3.new w (.int .i64 0) (.int .i64 0) (.int .u32 0) 24
  obtain ⟨X, hX⟩ : ∃ X : Int, Hid ((x : Int) = X) := ⟨_, rfl⟩
  obtain ⟨e1, e2⟩ := unp_head h
  rw [e1, e2, h4] at hu
  have hk : (dK x : Int) ≤ 3 := by unfold dK; omega
  have hn : (dN x : Int) ≤ 4095 := by unfold dN; omega
  have hm : (dM x : Int) < 4294967296 := by unfold dM; omega
  obtain ⟨K, hK, hK0⟩ : ∃ K : Int, Hid (((dK x : Nat) : Int) = K) ∧ 0 ≤ K := ⟨_, rfl, by omega⟩
  obtain ⟨N, hN, hN0⟩ : ∃ N : Int, Hid (((dN x : Nat) : Int) = N) ∧ 0 ≤ N := ⟨_, rfl, by omega⟩
  obtain ⟨M, hM, hM0⟩ : ∃ M : Int, Hid (((dM x : Nat) : Int) = M) ∧ 0 ≤ M := ⟨_, rfl, by omega⟩
  rw [hK.out] at hu hk hv
  rw [hN.out] at hu hn hv
  rw [hM.out] at hu hm hv
  rw [hK.out, hN.out, hM.out, hX.out]
  rw [hX.out] at hu
  clear e1 e2 h hx h4
  have Ho := Lib.hid ho
  clear ho
  go_enter Try.func14, Try.ntmps14
  go_wp2_with fail
  refine hu.out.mono ?_
  rintro e w1 ⟨⟨q, m, c, rfl, hq⟩, hb1⟩
  obtain rfl : m = 4 := hq.len.symm
  obtain ⟨y, b, off, hy, rfl, d0⟩ := hq.at_ (k := 0) (by omega)
  obtain ⟨y1, b1, off1, hy1, hp1, d1⟩ := hq.at_ (k := 1) (by omega)
  obtain ⟨y2, b2, off2, hy2, hp2, d2⟩ := hq.at_ (k := 2) (by omega)
  obtain ⟨y3, b3, off3, hy3, hp3, d3⟩ := hq.at_ (k := 3) (by omega)
  simp at hy hy1 hy2 hy3 hp1 hp2 hp3
  obtain ⟨rfl, rfl⟩ := hp1
  obtain ⟨rfl, rfl⟩ := hp2
  obtain ⟨rfl, rfl⟩ := hp3
  subst hy hy1 hy2 hy3
  rw [Nat.add_zero] at d0
  have hb01 := below_boxed hb1
  have Ho1 := Lib.hid (Ho.out.keep hb01)
  have hbw := below_boxed hb01
  clear hu hq hb1 hb01 Ho
  have lb : b < w1.heap.size := cell_lt d0
  have lne : b ≠ w1.heap.size := Nat.ne_of_lt lb
  go_wp2
  go_region
  go_wp2_with fail
  refine (valid_any K N M _ hM0 hm).mono ?_
  rw [hv.out]
  rintro e w2 ⟨rfl, hb2⟩
  have hb12 : Below w1.heap.size w1 w2 := (((Below.refl _ _).alloc (Nat.le_refl _) _).drew).trans (hb2.mono (by simp))
  obtain ⟨c0, c1, c2, f0, f1, f2⟩ := Ho1.out.keep hb12
  have Hn := ((Own3.new w1 (.int .i64 K) (.int .i64 N) (.int .u32 M) 24).keep (Below.drew (Below.refl _ _))).keep hb2
  obtain ⟨k0, k1, k2, -, -, -⟩ := Hn
  have hbw2 := bthen hbw hb12
  clear hb2 hb12 Ho1 hbw d0 d1 d2 d3 lb lne
  go_wp2
  exact bodyPost_ret (v := .tuple #[.agg #[.int .i64 K, .int .i64 N, .int .u32 M], .bool true]) (by simp [results, Try.results14, go_sem, c0, c1, c2]) rfl ⟨rfl, below_set3 hbw2 (Nat.le_refl _)⟩

set_option maxHeartbeats 1600000 in
theorem decode_no (x : Nat) (w : World) (hx : x < 18446744073709551616) (h : x < 281474976710656) (h4 : x % 4 = 1) (hv : Hid (validB (dK x) (dN x) (dM x) = false)) :
    Calls Try.prog 14 #[.int .u64 x] w fun e w' => e = .returned (.tuple #[.agg #[.int .i64 0, .int .i64 0, .int .u32 0], .bool false]) ∧ Below w.heap.size w w' := by
  have hu := Lib.hid (unpack_any x (some ⟨w.heap.size + 1, 0, none⟩) 4 4 [2, 2, 12, 32] _ hx rfl (by omega) (by simpa using irow4 (w.alloc (.cells #[.int .i64 0, .int .i64 0, .int .u32 0] 24)) 3 .i64 2 2 12 32))
  have ho := Own3.new w (.int .i64 0) (.int .i64 0) (.int .u32 0) 24
  obtain ⟨X, hX⟩ : ∃ X : Int, Hid ((x : Int) = X) := ⟨_, rfl⟩
  obtain ⟨e1, e2⟩ := unp_head h
  rw [e1, e2, h4] at hu
  have hk : (dK x : Int) ≤ 3 := by unfold dK; omega
  have hn : (dN x : Int) ≤ 4095 := by unfold dN; omega
  have hm : (dM x : Int) < 4294967296 := by unfold dM; omega
  obtain ⟨K, hK, hK0⟩ : ∃ K : Int, Hid (((dK x : Nat) : Int) = K) ∧ 0 ≤ K := ⟨_, rfl, by omega⟩
  obtain ⟨N, hN, hN0⟩ : ∃ N : Int, Hid (((dN x : Nat) : Int) = N) ∧ 0 ≤ N := ⟨_, rfl, by omega⟩
  obtain ⟨M, hM, hM0⟩ : ∃ M : Int, Hid (((dM x : Nat) : Int) = M) ∧ 0 ≤ M := ⟨_, rfl, by omega⟩
  rw [hK.out] at hu hk hv
  rw [hN.out] at hu hn hv
  rw [hM.out] at hu hm hv
  rw [hX.out]
  rw [hX.out] at hu
  clear e1 e2 h hx h4
  have Ho := Lib.hid ho
  clear ho
  go_enter Try.func14, Try.ntmps14
  go_wp2_with fail
  refine hu.out.mono ?_
  rintro e w1 ⟨⟨q, m, c, rfl, hq⟩, hb1⟩
  obtain rfl : m = 4 := hq.len.symm
  obtain ⟨y, b, off, hy, rfl, d0⟩ := hq.at_ (k := 0) (by omega)
  obtain ⟨y1, b1, off1, hy1, hp1, d1⟩ := hq.at_ (k := 1) (by omega)
  obtain ⟨y2, b2, off2, hy2, hp2, d2⟩ := hq.at_ (k := 2) (by omega)
  obtain ⟨y3, b3, off3, hy3, hp3, d3⟩ := hq.at_ (k := 3) (by omega)
  simp at hy hy1 hy2 hy3 hp1 hp2 hp3
  obtain ⟨rfl, rfl⟩ := hp1
  obtain ⟨rfl, rfl⟩ := hp2
  obtain ⟨rfl, rfl⟩ := hp3
  subst hy hy1 hy2 hy3
  rw [Nat.add_zero] at d0
  have hb01 := below_boxed hb1
  have Ho1 := Lib.hid (Ho.out.keep hb01)
  have hbw := below_boxed hb01
  clear hu hq hb1 hb01 Ho
  have lb : b < w1.heap.size := cell_lt d0
  have lne : b ≠ w1.heap.size := Nat.ne_of_lt lb
  go_wp2
  go_region
  go_wp2_with fail
  refine (valid_any K N M _ hM0 hm).mono ?_
  rw [hv.out]
  rintro e w2 ⟨rfl, hb2⟩
  have hb12 : Below w1.heap.size w1 w2 := (((Below.refl _ _).alloc (Nat.le_refl _) _).drew).trans (hb2.mono (by simp))
  obtain ⟨c0, c1, c2, f0, f1, f2⟩ := Ho1.out.keep hb12
  have Hn := ((Own3.new w1 (.int .i64 K) (.int .i64 N) (.int .u32 M) 24).keep (Below.drew (Below.refl _ _))).keep hb2
  obtain ⟨k0, k1, k2, -, -, -⟩ := Hn
  have hbw2 := bthen hbw hb12
  clear hb2 hb12 Ho1 hbw d0 d1 d2 d3 lb lne
  go_wp2
  exact bodyPost_ret (v := .tuple #[.agg #[.int .i64 0, .int .i64 0, .int .u32 0], .bool false]) (by simp [results, Try.results14, go_sem, c0, c1, c2]) rfl ⟨rfl, below_set3 hbw2 (Nat.le_refl _)⟩

theorem decode_any (x : Nat) (w : World) (hx : x < 18446744073709551616) :
    Calls Try.prog 14 #[.int .u64 x] w fun e w' => e = .returned (.tuple #[.agg #[.int .i64 (decK x), .int .i64 (decN x), .int .u32 (decM x)], .bool (okD x)]) ∧ Below w.heap.size w w' := by
  by_cases h : x < 281474976710656
  · by_cases h4 : x % 4 = 1
    · by_cases hv : validB (dK x) (dN x) (dM x) = true
      · have ho := okD_mk h4 h hv
        obtain ⟨e1, e2, e3⟩ := dec_ok ho
        rw [e1, e2, e3, ho]
        exact decode_yes x w hx h h4 hv
      · have hv : validB (dK x) (dN x) (dM x) = false := by simpa using hv
        have ho := okD_no (x := x) (Or.inr (Or.inr hv))
        obtain ⟨e1, e2, e3⟩ := dec_no ho
        rw [e1, e2, e3, ho]
        exact decode_no x w hx h h4 hv
    · have ho := okD_no (x := x) (Or.inl h4)
      obtain ⟨e1, e2, e3⟩ := dec_no ho
      rw [e1, e2, e3, ho]
      exact decode_tag x w hx h h4
  · have ho := okD_no (x := x) (Or.inr (Or.inl h))
    obtain ⟨e1, e2, e3⟩ := dec_no ho
    rw [e1, e2, e3, ho]
    exact decode_bad x w hx h
end Go.Proofs.Ytckecbaepnmoaaa
