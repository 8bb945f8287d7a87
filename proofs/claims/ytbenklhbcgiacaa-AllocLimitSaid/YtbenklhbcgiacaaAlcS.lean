/- Contracts: words of the laws of layer 7, Room of a heap with a page Bump. -/
import Derived.Test.YtbenklhbcgiacaaAlcQ
set_option linter.unusedSimpArgs false
set_option linter.unusedVariables false
namespace Go.Proofs.Ytbenklhbcgiacaa
open Go.RowKit

set_option maxHeartbeats 800000 in
theorem words_any (x : Int) (w : World) :
    Calls Try.prog 9 #[.int .i64 x] w fun e w' => e = .returned (.agg #[.int .i64 3, .int .i64 x, .int .u32 0]) ∧ Below w.heap.size w w' := by
  go_enter Try.func9, Try.ntmps9
  go_wp2
  refine bodyPost_ret (v := .agg #[.int .i64 3, .int .i64 x, .int .u32 0]) (by simp [results, Try.results9, go_sem]) rfl ?_
  exact ⟨rfl, below_box⟩

set_option maxRecDepth 100000 in
set_option maxHeartbeats 1600000 in
theorem room_run (pw np sp : Int) (K : Nat) (x : Pg) (p q : Option Addr) (n c m d : Nat) (ws : List Int) (ps : List Pg) (w : World) (hs : SRow w .u64 p n c ws) (hr : PRow w q m d ps) (hx : ps[K]? = some x) (hp : properP pw np ws.length ps sp K = true) (hu : 0 ≤ x.used ∧ x.used ≤ 64) (hpw : 0 ≤ pw ∧ pw ≤ 64) :
    Calls Try.prog 13 #[hpv pw np p n c q m d sp K] w fun e w' => e = .returned (.int .i64 (pw - x.used)) ∧ Below w.heap.size w w' := by
  have hlen := hr.len
  have hKm : K < m := by have := (List.getElem?_eq_some_iff.1 hx).1; omega
  have hKi : (K : Int) < m := by omega
  have hmi := hr.i63.2
  obtain ⟨x', b2, off, hx', rfl, d0, d1, d2, d3⟩ := hr.at_ hKm
  obtain rfl : x = x' := by rw [hx] at hx'; exact Option.some.inj hx'
  obtain ⟨c0, c1, c2, c3, c4, c5, hbx⟩ := boxH w (.int .i64 pw) (.int .i64 np) (.slice p n c) (.slice (some ⟨b2, off, none⟩) m d) (.int .i64 sp) (.int .i64 K) 32
  have hpr := Lib.hid (fun w' (hb : Below w.heap.size w w') => pproper_any pw np p (some ⟨b2, off, none⟩) n c m d sp K ws ps w' (hs.keep hb) (hr.keep hb))
  rw [hp] at hpr
  have d2 := cell_keep hbx d2
  have hne : ((K : Int) == -1) = false := beq_eq_false_iff_ne.2 (by omega)
  obtain ⟨u0, u1⟩ := hu
  obtain ⟨q0, q1⟩ := hpw
  have hwr : IntKind.i64.wrap (pw - x.used) = pw - x.used := by rw [IntKind.wrap_i64]; omega
  unfold hpv
  clear hr hs hx hx' hp hlen d0 d1 d3
  go_enter Try.func13, Try.ntmps13
  go_wp2_with fail
  refine (hpr.out _ hbx).mono ?_
  rintro e w1 ⟨rfl, hb1⟩
  have hB := Lib.hid (bthen hbx hb1)
  have c0 := cell_keep hb1 c0
  have c3 := cell_keep hb1 c3
  have c5 := cell_keep hb1 c5
  have d2 := cell_keep hb1 d2
  clear hbx hb1 hpr
  go_wp2
  go_region
  all_goals
    go_wp2
    go_ret
    exact ⟨rfl, hB.out.drew⟩
end Go.Proofs.Ytbenklhbcgiacaa
