/- Contract of Same of equal heaps. -/
import Derived.Test.YtnelnabeajkpfaaHeapU
namespace Go.Proofs.Ytnelnabeajkpfaa
open Go.RowKit

set_option maxRecDepth 100000 in
set_option maxHeartbeats 1600000 in
theorem sameH_eq (pw np : Int) (p q p' q' : Option Addr) (n c m d n' c' m' d' : Nat) (sp bp : Int) (xs : List Int) (ps : List Pg) (w : World) (hs : SRow w .u64 p n c xs) (hr : PRow w q m d ps) (hs' : SRow w .u64 p' n' c' xs) (hr' : PRow w q' m' d' ps) :
    Calls Try.prog 22 #[.agg #[.int .i64 pw, .int .i64 np, .slice p n c, .slice q m d, .int .i64 sp, .int .i64 bp], .agg #[.int .i64 pw, .int .i64 np, .slice p' n' c', .slice q' m' d', .int .i64 sp, .int .i64 bp]] w fun e w' => e = .returned (.bool true) ∧ Below w.heap.size w w' := by
  obtain rfl : n = n' := hs.len.symm.trans hs'.len
  have hn := hs.i63.2
  have hb0 : Below w.heap.size w ((w.alloc (.cells #[.int .i64 pw, .int .i64 np, .slice p n c, .slice q m d, .int .i64 sp, .int .i64 bp] 39)).alloc (.cells #[.int .i64 pw, .int .i64 np, .slice p' n c', .slice q' m' d', .int .i64 sp, .int .i64 bp] 39)) := bthen below_box below_box
  have hsp := Lib.hid (samePages_any q q' m m' d d' ps ps _ (hr.keep hb0) (hr'.keep hb0))
  have hT : decide (ps = ps) = true := decide_eq_true rfl
  rw [hT] at hsp
  have Hs := Lib.hid (hs.keep hb0)
  have Hs' := Lib.hid (hs'.keep hb0)
  have HB0 := Lib.hid hb0
  clear hT hs hr hs' hr' hb0
  go_enter Try.func22, Try.ntmps22
  go_wp2_with fail
  refine hsp.out.mono ?_
  rintro e w1 ⟨rfl, hd⟩
  have hb1 := hd.below ((w.alloc (.cells #[.int .i64 pw, .int .i64 np, .slice p n c, .slice q m d, .int .i64 sp, .int .i64 bp] 39)).alloc (.cells #[.int .i64 pw, .int .i64 np, .slice p' n c', .slice q' m' d', .int .i64 sp, .int .i64 bp] 39)).heap.size
  have r1 : w1.cell? ⟨w.heap.size, 1 + 1, none⟩ = some (.slice p n c) := by rw [hb1.cell (by simp; omega)]; simp
  have r2 : w1.cell? ⟨w.heap.size + 1, 1 + 1, none⟩ = some (.slice p' n c') := by rw [hb1.cell (by simp)]; simp
  have Hs1 := Lib.hid (Hs.out.keep hb1)
  have Hs2 := Lib.hid (Hs'.out.keep hb1)
  have hw1 := Lib.hid (HB0.out.trans (hb1.mono HB0.out.size))
  clear hsp hd Hs Hs' hb1
  go_wp2
  go_loopw [5] (fun i wr => ∃ (k : Nat), k ≤ n ∧ i = .int .i64 k ∧ Drawn w1 wr) (fun i _ => n - (intOf i).toNat)
  case atStart => exact ⟨0, by omega, rfl, Drawn.refl _⟩
  case round =>
    obtain ⟨k, hk, rfl, hd⟩ := hrel
    have hbk := hd.below w1.heap.size
    have r1 := cell_keep hbk r1
    have r2 := cell_keep hbk r2
    by_cases hlt : k < n
    · obtain ⟨x, b, off, hx, rfl, z0⟩ := Hs1.out.at_ hlt
      obtain ⟨y, b', off', hy, rfl, z1⟩ := Hs2.out.at_ hlt
      obtain rfl : x = y := by rw [hx] at hy; exact Option.some.inj hy
      have z0 := cell_keep hbk z0
      have z1 := cell_keep hbk z1
      have hlt2 : (k : Int) < n := by omega
      clear hx hy
      go_wp2
      go_quiet (fail)
      go_wp2
      go_roundw
      case rel => exact ⟨k + 1, by omega, by go_num, hd.step _⟩
      case measure => simp [intOf]; omega
    · go_wp2
      go_ret
      exact ⟨rfl, bthen hw1.out hbk⟩
/-- Same of two values that read as one heap. -/
theorem sameH_val {u v : Value} {h : Hp} (w : World) (hu : HV w u h) (hv : HV w v h) :
    Calls Try.prog 22 #[u, v] w fun e w' => e = .returned (.bool true) ∧ Below w.heap.size w w' := by
  obtain ⟨p, n, c, q, m, d, rfl, h1, h2, -⟩ := hu
  obtain ⟨p', n', c', q', m', d', rfl, h1', h2', -⟩ := hv
  exact sameH_eq _ _ p q p' q' n c m d n' c' m' d' _ _ _ _ w h1 h2 h1' h2'
end Go.Proofs.Ytnelnabeajkpfaa
