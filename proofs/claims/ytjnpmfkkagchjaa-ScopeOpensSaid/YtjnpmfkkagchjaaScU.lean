/- Contract of the reference's Same of layer 14, at equal handles. -/
import Derived.Test.YtjnpmfkkagchjaaScM
import Derived.Test.YtjnpmfkkagchjaaOwn
set_option linter.unusedVariables false
set_option linter.unusedSimpArgs false
namespace Go.Proofs.Ytjnpmfkkagchjaa
open Go.RowKit

set_option maxRecDepth 100000 in
set_option maxHeartbeats 3200000 in
theorem sameL_yes (pa : Option Addr) (na ca : Nat) (pb : Option Addr) (nb cb : Nat) (pc : Option Addr) (nc cc : Nat) (qa : Option Addr) (ma da : Nat) (qb : Option Addr) (mb db : Nat) (qc : Option Addr) (mc dc : Nat) (l : Loc) (w : World) (hr : LRow w pa na ca pb nb cb pc nc cc l) (hr2 : LRow w qa ma da qb mb db qc mc dc l) :
    Calls Try.prog 20 #[.agg #[.slice pa na ca, .slice pb nb cb, .slice pc nc cc], .agg #[.slice qa ma da, .slice qb mb db, .slice qc mc dc]] w fun e w' => e = .returned (.bool true) ∧ Below w.heap.size w w' := by
  obtain ⟨h63a, h63b, h63c⟩ := hr.i63
  obtain ⟨l1, l2, l3⟩ := hr.lens
  obtain ⟨k1, k2, k3⟩ := hr2.lens
  have Hl := Lib.hid (And.intro l1 (And.intro l2 l3))
  obtain rfl : na = ma := by omega
  obtain rfl : nb = mb := by omega
  obtain rfl : nc = mc := by omega
  have Hr := Lib.hid (fun w' (h : Below w.heap.size w w') => hr.keep h)
  have Hr2 := Lib.hid (fun w' (h : Below w.heap.size w w') => hr2.keep h)
  clear hr hr2 l1 l2 l3 k1 k2 k3
  go_enter Try.func20, Try.ntmps20
  go_wp2
  obtain ⟨w1, hw1⟩ : ∃ w1, (w.alloc (.cells #[.slice pa na ca, .slice pb nb cb, .slice pc nc cc] 26)).alloc (.cells #[.slice qa na da, .slice qb nb db, .slice qc nc dc] 26) = w1 := ⟨_, rfl⟩
  have d0 : w1.cell? ⟨w.heap.size, 0, none⟩ = some (.slice pa na ca) := by rw [← hw1]; exact cell_keep below_box (by simp)
  have d1 : w1.cell? ⟨w.heap.size, 1, none⟩ = some (.slice pb nb cb) := by rw [← hw1]; exact cell_keep below_box (by simp)
  have d2 : w1.cell? ⟨w.heap.size, 2, none⟩ = some (.slice pc nc cc) := by rw [← hw1]; exact cell_keep below_box (by simp)
  have e0 : w1.cell? ⟨w.heap.size + 1, 0, none⟩ = some (.slice qa na da) := by rw [← hw1]; simp
  have e1 : w1.cell? ⟨w.heap.size + 1, 1, none⟩ = some (.slice qb nb db) := by rw [← hw1]; simp
  have e2 : w1.cell? ⟨w.heap.size + 1, 2, none⟩ = some (.slice qc nc dc) := by rw [← hw1]; simp
  have hB : Below w.heap.size w w1 := by rw [← hw1]; exact bthen below_box below_box
  rw [hw1]
  clear hw1
  go_loopw [5] (fun i W => ∃ k : Nat, k ≤ na ∧ i = .int .i64 k ∧ Drawn w1 W ∧ Below w1.heap.size w1 W) (fun i _ => na - (intOf i).toNat)
  case atStart => exact ⟨0, by omega, rfl, Drawn.refl _, Below.refl _ _⟩
  case round =>
    obtain ⟨k, hk, rfl, hd, hb⟩ := hrel
    have hB1 := hB.trans (hb.mono hB.size)
    have f0 := cell_keep hb d0
    have f1 := cell_keep hb d1
    have f2 := cell_keep hb d2
    have g0 := cell_keep hb e0
    have g1 := cell_keep hb e1
    have g2 := cell_keep hb e2
    by_cases hlt : k < na
    · have hlt2 : (k : Int) < na := by omega
      obtain ⟨s, b, off, hx, rfl, c0, c1, c2⟩ := slot_at (Hr.out wr hB1).sl hlt
      obtain ⟨s', b', off', hx', rfl, c0', c1', c2'⟩ := slot_at (Hr2.out wr hB1).sl hlt
      obtain rfl : s = s' := Option.some.inj (hx.symm.trans hx')
      clear hx hx'
      go_wp2
      go_quiet (fail)
      go_wp2
      go_roundw
      case rel => exact ⟨k + 1, by omega, by go_num, hd.step _, below_drewN hb _⟩
      case measure => simp [intOf]; omega
    · have hge : (na : Int) ≤ k := by omega
      go_wp2
      clear f0 f1 f2 g0 g1 g2 hk hlt hge hd hB1
      go_loopw [6] (fun i W => ∃ k : Nat, k ≤ nb ∧ i = .int .i64 k ∧ Drawn wr W ∧ Below w1.heap.size w1 W) (fun i _ => nb - (intOf i).toNat)
      case atStart => exact ⟨0, by omega, rfl, Drawn.refl _, hb⟩
      case round =>
        obtain ⟨k, hk, rfl, hd, hb⟩ := hrel
        have hB1 := hB.trans (hb.mono hB.size)
        have f0 := cell_keep hb d0
        have f1 := cell_keep hb d1
        have f2 := cell_keep hb d2
        have g0 := cell_keep hb e0
        have g1 := cell_keep hb e1
        have g2 := cell_keep hb e2
        by_cases hlt : k < nb
        · have hlt2 : (k : Int) < nb := by omega
          obtain ⟨s, b, off, hx, rfl, c0, c1, c2⟩ := scope_at (Hr.out wr hB1).sc hlt
          obtain ⟨s', b', off', hx', rfl, c0', c1', c2'⟩ := scope_at (Hr2.out wr hB1).sc hlt
          obtain rfl : s = s' := Option.some.inj (hx.symm.trans hx')
          clear hx hx'
          go_wp2
          go_quiet (fail)
          go_wp2
          go_roundw
          case rel => exact ⟨k + 1, by omega, by go_num, hd.step _, below_drewN hb _⟩
          case measure => simp [intOf]; omega
        · have hge : (nb : Int) ≤ k := by omega
          go_wp2
          clear f0 f1 f2 g0 g1 g2 hk hlt hge hd hB1
          go_loopw [7] (fun i W => ∃ k : Nat, k ≤ nc ∧ i = .int .i64 k ∧ Drawn wr W ∧ Below w1.heap.size w1 W) (fun i _ => nc - (intOf i).toNat)
          case atStart => exact ⟨0, by omega, rfl, Drawn.refl _, hb⟩
          case round =>
            obtain ⟨k, hk, rfl, hd, hb⟩ := hrel
            have hB1 := hB.trans (hb.mono hB.size)
            have f0 := cell_keep hb d0
            have f1 := cell_keep hb d1
            have f2 := cell_keep hb d2
            have g0 := cell_keep hb e0
            have g1 := cell_keep hb e1
            have g2 := cell_keep hb e2
            by_cases hlt : k < nc
            · have hlt2 : (k : Int) < nc := by omega
              obtain ⟨s, b, off, hx, rfl, c0⟩ := (Hr.out wr hB1).is.at_ hlt
              obtain ⟨s', b', off', hx', rfl, c0'⟩ := (Hr2.out wr hB1).is.at_ hlt
              obtain rfl : s = s' := Option.some.inj (hx.symm.trans hx')
              clear hx hx'
              go_wp2
              go_quiet (fail)
              go_wp2
              go_roundw
              case rel => exact ⟨k + 1, by omega, by go_num, hd.step _, below_drewN hb _⟩
              case measure => simp [intOf]; omega
            · have hge : (nc : Int) ≤ k := by omega
              go_wp2
              go_ret
              exact ⟨rfl, hB1⟩
end Go.Proofs.Ytjnpmfkkagchjaa
