/- Contracts of the reference of layer 15: Same at equal tables, Get, put. -/
import Derived.Test.YtapfbnhcndifhaaSlD
set_option linter.unusedVariables false
set_option linter.unusedSimpArgs false
namespace Go.Proofs.Ytapfbnhcndifhaa
open Go.RowKit

set_option maxRecDepth 100000 in
set_option maxHeartbeats 1600000 in
theorem sameT_yes (p : Option Addr) (n c : Nat) (q : Option Addr) (m d : Nat) (t : List En) (w : World) (hr : VRow w 3 p n c (t.flatMap enC)) (hr2 : VRow w 3 q m d (t.flatMap enC)) :
    Calls Try.prog 23 #[.agg #[.slice p n c], .agg #[.slice q m d]] w fun e w' => e = .returned (.bool true) ∧ Below w.heap.size w w' := by
  have h63 := hr.i63.2
  have l1 := hr.lenT
  have l2 := hr2.lenT
  obtain rfl : n = m := by omega
  have Hr := Lib.hid (fun w' (h : Below w.heap.size w w') => hr.keep h)
  have Hr2 := Lib.hid (fun w' (h : Below w.heap.size w w') => hr2.keep h)
  clear hr hr2 l1 l2
  go_enter Try.func23, Try.ntmps23
  go_wp2
  obtain ⟨w1, hw1⟩ : ∃ w1, (w.alloc (.cells #[.slice p n c] 46)).alloc (.cells #[.slice q n d] 46) = w1 := ⟨_, rfl⟩
  have d0 : w1.cell? ⟨w.heap.size, 0, none⟩ = some (.slice p n c) := by rw [← hw1]; exact cell_keep below_box (by simp)
  have e0 : w1.cell? ⟨w.heap.size + 1, 0, none⟩ = some (.slice q n d) := by rw [← hw1]; simp
  have hB : Below w.heap.size w w1 := by rw [← hw1]; exact bthen below_box below_box
  rw [hw1]
  clear hw1
  go_loopw [5] (fun i W => ∃ k : Nat, k ≤ n ∧ i = .int .i64 k ∧ Drawn w1 W ∧ Below w1.heap.size w1 W) (fun i _ => n - (intOf i).toNat)
  case atStart => exact ⟨0, by omega, rfl, Drawn.refl _, Below.refl _ _⟩
  case round =>
    obtain ⟨k, hk, rfl, hd, hb⟩ := hrel
    have hB1 := hB.trans (hb.mono hB.size)
    have f0 := cell_keep hb d0
    have g0 := cell_keep hb e0
    by_cases hlt : k < n
    · have hlt2 : (k : Int) < n := by omega
      obtain ⟨s, b, off, hx, rfl, c0, c1, c2⟩ := entry_at (Hr.out wr hB1) hlt
      obtain ⟨s', b', off', hx', rfl, c0', c1', c2'⟩ := entry_at (Hr2.out wr hB1) hlt
      obtain rfl : s = s' := Option.some.inj (hx.symm.trans hx')
      clear hx hx'
      go_wp2
      go_quiet (fail)
      go_wp2
      go_roundw
      case rel => exact ⟨k + 1, by omega, by go_num, hd.step _, Below.trans hb (Drawn.below ⟨_, rfl⟩ _)⟩
      case measure => simp [intOf]; omega
    · have hge : (n : Int) ≤ k := by omega
      go_wp2
      go_ret
      exact ⟨rfl, hB1⟩

set_option maxRecDepth 100000 in
set_option maxHeartbeats 3200000 in
theorem refGet15 (p : Option Addr) (n cap : Nat) (t : List En) (i q : Int) (w : World) (hr : VRow w 3 p n cap (t.flatMap enC)) :
    Calls Try.prog 25 #[.agg #[.slice p n cap], .int .i64 i, .int .i64 q] w fun e w' => e = .returned (.tuple #[.int .u64 (getT t i q), .int .i64 (findE t i q)]) ∧ Below w.heap.size w w' := by
  have Hr := Lib.hid (fun w' (h : Below w.heap.size w w') => hr.keep h)
  have hv := Lib.hid (fun w h => refValid15 p n cap t w h)
  have Hlen := Lib.hid hr.lenT
  have hn63 := hr.i63.2
  have hX1 := OwnL.new w [.slice p n cap] 46
  have hB1 := below_box (w := w) (o := .cells #[.slice p n cap] 46)
  obtain ⟨F, hF⟩ : ∃ F, Hid (findE t i q = F) := ⟨_, Lib.hid rfl⟩
  obtain ⟨V, hV⟩ : ∃ V, Hid (getT t i q = V) := ⟨_, Lib.hid rfl⟩
  have HV0 := Lib.hid (show F ≠ 0 → V = 0 from fun h => by rw [← hV.out]; unfold getT; rw [if_neg (by rw [hF.out]; exact h)])
  rw [hF.out, hV.out]
  clear hr
  cases ho : okT t
  · obtain rfl : F = 1 := hF.out.symm.trans (findE_a ho)
    obtain rfl : V = 0 := HV0.out (by decide)
    rw [ho] at hv
    go_enter Try.func25, Try.ntmps25
    go_wp2_with fail
    refine (hv.out _ (Hr.out _ hB1)).mono ?_
    rintro e w2 ⟨rfl, hb2⟩
    have HB2 := Lib.hid (bthen hB1 hb2)
    clear hX1 hB1 hb2
    go_wp2
    go_ret2
    exact ⟨rfl, HB2.out⟩
  · have Ho := Lib.hid ho
    rw [ho] at hv
    clear ho
    go_enter Try.func25, Try.ntmps25
    go_wp2_with fail
    refine (hv.out _ (Hr.out _ hB1)).mono ?_
    rintro e w2 ⟨rfl, hb2⟩
    have HX2 := Lib.hid (hX1.keep hb2 (by simp))
    have HB2 := Lib.hid (bthen hB1 hb2)
    have hwl := boxLt HX2.out
    clear hX1 hB1 hb2
    obtain ⟨x0, -⟩ := own1S HX2.out
    by_cases hi : i < 0
    · obtain rfl : F = 6 := hF.out.symm.trans (findE_b Ho.out hi)
      obtain rfl : V = 0 := HV0.out (by decide)
      go_wp2
      go_ret2
      exact ⟨rfl, HB2.out⟩
    · obtain ⟨j, rfl⟩ : ∃ j : Nat, i = j := ⟨i.toNat, by omega⟩
      by_cases hj : j < n
      · obtain ⟨e, b, off, he, rfl, c0, c1, c2⟩ := entry_at (Hr.out _ HB2.out) hj
        have hj2 : (j : Int) < n := by omega
        have HFd := Lib.hid (hF.out.symm.trans (findE_d (g := q) Ho.out he))
        have HVe := Lib.hid (show F = 0 → V = if e.lv then e.rf else 0 from fun h => by
          rw [← hV.out]; unfold getT
          rw [if_pos (by rw [hF.out]; exact h), Int.toNat_natCast, tf_some he]; unfold rfO
          cases e.lv <;> rfl)
        clear he
        obtain ⟨g, r, l⟩ := e
        simp only at c0 c1 c2
        simp only at HFd HVe
        by_cases hq : q < 1
        · obtain rfl : F = 6 := HFd.out.trans (if_pos (.inl hq))
          obtain rfl : V = 0 := HV0.out (by decide)
          go_wp2
          go_ret2
          exact ⟨rfl, HB2.out⟩
        · by_cases hqg : g < q
          · obtain rfl : F = 6 := HFd.out.trans (if_pos (.inr hqg))
            obtain rfl : V = 0 := HV0.out (by decide)
            go_wp2
            go_ret2
            exact ⟨rfl, HB2.out⟩
          · have HFe := Lib.hid (HFd.out.trans (if_neg (by omega)))
            by_cases hgq : q < g
            · obtain rfl : F = 8 := HFe.out.trans (if_pos (.inl hgq))
              obtain rfl : V = 0 := HV0.out (by decide)
              go_wp2
              go_ret2
              exact ⟨rfl, HB2.out⟩
            · cases l
              · obtain rfl : F = 8 := HFe.out.trans (if_pos (.inr rfl))
                obtain rfl : V = 0 := HV0.out (by decide)
                go_wp2
                go_ret2
                exact ⟨rfl, HB2.out⟩
              · obtain rfl : F = 0 := HFe.out.trans (if_neg (by simp; omega))
                obtain rfl : V = r := HVe.out rfl
                go_wp2
                go_ret2
                exact ⟨rfl, HB2.out⟩
      · obtain rfl : F = 6 := hF.out.symm.trans (findE_c Ho.out (by have := Hlen.out; omega))
        obtain rfl : V = 0 := HV0.out (by decide)
        have hj2 : (n : Int) ≤ j := by omega
        go_wp2
        go_ret2
        exact ⟨rfl, HB2.out⟩
end Go.Proofs.Ytapfbnhcndifhaa
