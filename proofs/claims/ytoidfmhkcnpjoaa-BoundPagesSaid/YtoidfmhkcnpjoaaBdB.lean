/- References of layer 13: usual, Pages. -/
import Derived.Test.YtoidfmhkcnpjoaaBdM
import Derived.Test.YtoidfmhkcnpjoaaDraw
import Derived.Test.YtoidfmhkcnpjoaaPageU
import Derived.Test.YtoidfmhkcnpjoaaOwn
import Derived.BigQuiet
set_option linter.unusedSimpArgs false
set_option linter.unusedVariables false
namespace Go.Proofs.Ytoidfmhkcnpjoaa
open Go.RowKit

set_option maxRecDepth 100000 in
set_option maxHeartbeats 1600000 in
theorem usual_any (pw np : Int) (l : Lv) (w : World) :
    Calls Try.prog 14 #[.agg #[.int .i64 pw, .int .i64 np], .agg #[.int .i64 l.o, .int .i64 l.wd, .int .i64 l.s, .int .i64 l.la, .int .i64 l.pi]] w fun e w' => e = .returned (.bool (confB pw np && liveB l)) ∧ Below w.heap.size w w' := by
  have hmn := fun w ts t => run_mn5 (P := Try.prog) w ts t l.o l.wd l.s l.la l.pi
  have hmx := fun w ts t => run_mx5 (P := Try.prog) w ts t l.o l.wd l.s l.la l.pi
  have hlv := live_low l
  generalize mn5 l.o l.wd l.s l.la l.pi = LO at hmn hlv
  generalize mx5 l.o l.wd l.s l.la l.pi = HI at hmx hlv
  have hbx : Below w.heap.size w ((w.alloc (.cells #[.int .i64 pw, .int .i64 np] 23)).alloc (.cells #[.int .i64 l.o, .int .i64 l.wd, .int .i64 l.s, .int .i64 l.la, .int .i64 l.pi] 25)) := bthen below_box below_box
  cases hv : confB pw np
  · have hc := Lib.hid (fun w => refConf_is hv w)
    clear hv hlv
    go_enter Try.func14, Try.ntmps14
    go_wp2_with fail
    refine (hc.out _).mono ?_
    rintro e w1 ⟨rfl, hb1⟩
    have hB := bthen hbx hb1
    go_wp2
    go_ret
    exact ⟨rfl, hB⟩
  · have hc := Lib.hid (fun w => refConf_is hv w)
    rw [hlv, Bool.true_and]
    clear hv hlv
    by_cases h1 : 0 ≤ LO
    · by_cases h2 : HI ≤ 2147483647
      · have E := Lib.hid (show (true : Bool) = (decide (0 ≤ LO) && decide (HI ≤ 2147483647)) from by simp [h1, h2])
        go_enter Try.func14, Try.ntmps14
        go_wp2_with fail
        refine (hc.out _).mono ?_
        rintro e w1 ⟨rfl, hb1⟩
        have hB := bthen hbx hb1
        go_wp2
        go_ret
        exact ⟨ret_bool E.out, hB⟩
      · have E := Lib.hid (show (false : Bool) = (decide (0 ≤ LO) && decide (HI ≤ 2147483647)) from by simp [h1, h2])
        go_enter Try.func14, Try.ntmps14
        go_wp2_with fail
        refine (hc.out _).mono ?_
        rintro e w1 ⟨rfl, hb1⟩
        have hB := bthen hbx hb1
        go_wp2
        go_ret
        exact ⟨ret_bool (by simp [h1, h2]), hB⟩
    · have E := Lib.hid (show (false : Bool) = (decide (0 ≤ LO) && decide (HI ≤ 2147483647)) from by simp [h1])
      go_enter Try.func14, Try.ntmps14
      go_wp2_with fail
      refine (hc.out _).mono ?_
      rintro e w1 ⟨rfl, hb1⟩
      have hB := bthen hbx hb1
      go_wp2
      go_ret
      exact ⟨ret_bool E.out, hB⟩
theorem usual_is {b : Bool} {pw np : Int} {l : Lv} (h : (confB pw np && liveB l) = b) (w : World) :
    Calls Try.prog 14 #[.agg #[.int .i64 pw, .int .i64 np], .agg #[.int .i64 l.o, .int .i64 l.wd, .int .i64 l.s, .int .i64 l.la, .int .i64 l.pi]] w fun e w' => e = .returned (.bool b) ∧ Below w.heap.size w w' := by
  subst h; exact usual_any pw np l w

/-- What is in the boxes of a configuration and a Live behind calls. -/
theorem box25 {w w1 : World} {pw np : Int} {l : Lv} {T U : TypeId} (hb : Below ((w.alloc (.cells #[.int .i64 pw, .int .i64 np] T)).alloc (.cells #[.int .i64 l.o, .int .i64 l.wd, .int .i64 l.s, .int .i64 l.la, .int .i64 l.pi] U)).heap.size ((w.alloc (.cells #[.int .i64 pw, .int .i64 np] T)).alloc (.cells #[.int .i64 l.o, .int .i64 l.wd, .int .i64 l.s, .int .i64 l.la, .int .i64 l.pi] U)) w1) :
    w1.cell? ⟨w.heap.size, 0, none⟩ = some (.int .i64 pw) ∧ w1.cell? ⟨w.heap.size, 1, none⟩ = some (.int .i64 np) ∧ w1.cell? ⟨w.heap.size + 1, 0, none⟩ = some (.int .i64 l.o) ∧ w1.cell? ⟨w.heap.size + 1, 1, none⟩ = some (.int .i64 l.wd) ∧ w1.cell? ⟨w.heap.size + 1, 2, none⟩ = some (.int .i64 l.s) ∧ w1.cell? ⟨w.heap.size + 1, 3, none⟩ = some (.int .i64 l.la) ∧ w1.cell? ⟨w.heap.size + 1, 4, none⟩ = some (.int .i64 l.pi) := by
  have h1 := OwnL.new (w.alloc (.cells #[.int .i64 pw, .int .i64 np] T)) [.int .i64 l.o, .int .i64 l.wd, .int .i64 l.s, .int .i64 l.la, .int .i64 l.pi] U
  have h0 := (OwnL.new w [.int .i64 pw, .int .i64 np] T).keep (w' := ((w.alloc (.cells #[.int .i64 pw, .int .i64 np] T)).alloc (.cells #[.int .i64 l.o, .int .i64 l.wd, .int .i64 l.s, .int .i64 l.la, .int .i64 l.pi] U))) below_box (by simp)
  have k0 := h0.keep hb (by simp; omega)
  have k1 := h1.keep hb (by simp)
  simp only [World.size_alloc] at k1
  exact ⟨k0.cell 0 _ rfl, k0.cell 1 _ rfl, k1.cell 0 _ rfl, k1.cell 1 _ rfl, k1.cell 2 _ rfl, k1.cell 3 _ rfl, k1.cell 4 _ rfl⟩

set_option maxRecDepth 100000 in
set_option maxHeartbeats 1600000 in
theorem refPages_any (pw np : Int) (l : Lv) (w : World) :
    Calls Try.prog 7 #[.agg #[.int .i64 pw, .int .i64 np], .agg #[.int .i64 l.o, .int .i64 l.wd, .int .i64 l.s, .int .i64 l.la, .int .i64 l.pi]] w fun e w' => e = .returned (.int .i64 (pagesV pw np l)) ∧ Below w.heap.size w w' := by
  have hbx : Below w.heap.size w ((w.alloc (.cells #[.int .i64 pw, .int .i64 np] 23)).alloc (.cells #[.int .i64 l.o, .int .i64 l.wd, .int .i64 l.s, .int .i64 l.la, .int .i64 l.pi] 25)) := bthen below_box below_box
  cases hu : (confB pw np && liveB l)
  · rw [pages_no (by cases h1 : confB pw np <;> cases h2 : liveB l <;> simp_all)]
    have hc := Lib.hid (fun w => usual_is hu w)
    clear hu
    go_enter Try.func7, Try.ntmps7
    go_wp2_with fail
    refine (hc.out _).mono ?_
    rintro e w1 ⟨rfl, hb1⟩
    have hB := bthen hbx hb1
    go_wp2
    go_ret
    exact ⟨rfl, hB⟩
  · have hc := Lib.hid (fun w => usual_is hu w)
    rw [Bool.and_eq_true] at hu
    rw [pages_ok hu.1 hu.2]
    obtain ⟨h1, h2, -, -, -⟩ := conf_parts hu.1
    obtain ⟨-, -, b3, b4, b5⟩ := live_parts hu.2
    have hb := Lib.hid (copy_bound h1 h2 b3)
    clear hu
    unfold inR at b3 b4 b5
    unfold copyV at hb ⊢
    have p1 : IntKind.i64.wrap (3 * pw) = 3 * pw := IntWalk.i64_in _ (by omega)
    have p2 : IntKind.i64.wrap (4 * l.s) = 4 * l.s := IntWalk.i64_in _ (by omega)
    have p3 : IntKind.i64.wrap (4 * l.s + 3 * pw) = 4 * l.s + 3 * pw := IntWalk.i64_in _ (by omega)
    have p4 : IntKind.i64.wrap (4 * l.s + 3 * pw - 1) = 4 * l.s + 3 * pw - 1 := IntWalk.i64_in _ (by omega)
    have p6 : IntKind.i64.wrap (l.pi + l.la) = l.pi + l.la := IntWalk.i64_in _ (by omega)
    have hz : ¬ 3 * pw = 0 := by omega
    obtain ⟨Q, hQ⟩ : ∃ Q, Hid ((4 * l.s + 3 * pw - 1).tdiv (3 * pw) = Q) := ⟨_, Lib.hid rfl⟩
    have hq : (4 * l.s + 3 * pw - 1).tdiv (3 * pw) = Q := hQ.out
    rw [hq] at hb ⊢
    have p5 : IntKind.i64.wrap Q = Q := IntWalk.i64_in _ (by have := hb.out; omega)
    have p7 : IntKind.i64.wrap (l.pi + l.la + Q) = l.pi + l.la + Q := IntWalk.i64_in _ (by have := hb.out; omega)
    go_enter Try.func7, Try.ntmps7
    go_wp2_with fail
    refine (hc.out _).mono ?_
    rintro e w1 ⟨rfl, hb1⟩
    have hB := bthen hbx hb1
    obtain ⟨c0, c1, d0, d1, d2, d3, d4⟩ := box25 hb1
    go_wp2
    go_quiet (fail)
    go_wp2
    go_ret
    exact ⟨rfl, below_drewN hB _⟩
end Go.Proofs.Ytoidfmhkcnpjoaa
