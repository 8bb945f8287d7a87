/- Contracts of package alloc: placeLarge, place. -/
import Derived.Test.YtbenklhbcgiacaaAlcD
set_option linter.unusedSimpArgs false
set_option linter.unusedVariables false
namespace Go.Proofs.Ytbenklhbcgiacaa
open Go.RowKit

set_option maxRecDepth 100000 in
set_option maxHeartbeats 3200000 in
theorem placeLarge_run (pw np sp bp nn k : Int) (ws : List Int) (ps : List Pg) (p q : Option Addr) (n c m d : Nat) (w : World) (hr : PRow w q m d ps) (hp : PlOK ⟨pw, np, ws, ps, sp, bp⟩) (hk : needV pw np nn = k) (h1 : 1 ≤ k) :
    Calls Try.prog 31 #[hpv pw np p n c q m d sp bp, .int .i64 nn, .int .i64 k] w fun e w' => RetSp w.heap.size p n c (largeOKB ⟨pw, np, ws, ps, sp, bp⟩ k) (largeH ⟨pw, np, ws, ps, sp, bp⟩ nn k) (largeA ⟨pw, np, ws, ps, sp, bp⟩ k) e w' ∧ Below w.heap.size w w' := by
  obtain ⟨k1, k2, -, k4, k5⟩ := conf_parts hp.conf
  have hlen := hr.len
  have hl := hp.len
  have hm8 : m ≤ 100000 := by simp only at *; omega
  have hk5 : k ≤ 4 := by rw [← hk]; exact needV_le pw np nn
  have hsp := hp.sp
  simp only at hsp hl
  have hul := inUse_le ps
  have Hp := Lib.hid hp
  have Hr := Lib.hid hr
  have Hk := Lib.hid hk
  have Ho := Lib.hid (OwnL.new w [.int .i64 pw, .int .i64 np, .slice p n c, .slice q m d, .int .i64 sp, .int .i64 bp] 32)
  obtain ⟨c0, c1, c2, c3, c4, c5, hbx⟩ := boxH w (.int .i64 pw) (.int .i64 np) (.slice p n c) (.slice q m d) (.int .i64 sp) (.int .i64 bp) 32
  have Hbx := Lib.hid hbx
  have hli := Lib.hid (fun w => limit_any pw np w)
  have hiu := Lib.hid (fun w' (hb : Below (w.alloc (.cells #[.int .i64 pw, .int .i64 np, .slice p n c, .slice q m d, .int .i64 sp, .int .i64 bp] 32)).heap.size (w.alloc (.cells #[.int .i64 pw, .int .i64 np, .slice p n c, .slice q m d, .int .i64 sp, .int .i64 bp] 32)) w') => inUse_any q m d ps w' (hr.keep (bthen hbx hb)))
  obtain ⟨U, hU⟩ : ∃ U : Int, Hid ((inUse ps : Int) = U) := ⟨_, rfl⟩
  have hU0 : 0 ≤ U := by rw [← hU.out]; omega
  have hU9 : U ≤ 100000 := by rw [← hU.out]; omega
  obtain ⟨L, hL⟩ : ∃ L, Hid (limitV pw np = L) := ⟨_, rfl⟩
  rw [hU.out] at hiu
  rw [hL.out] at hli
  have hwr : IntKind.i64.wrap (U + k) = U + k := by rw [IntKind.wrap_i64]; omega
  unfold hpv
  clear hr hp hlen hl hbx k1 k2 k4 k5 hk hul
  go_enter Try.func31, Try.ntmps31
  go_upto_region 1 with fail
  go_cut [18] (fun a wx => a = .bool (decide (L < U + k)) ∧ Below (w.alloc (.cells #[.int .i64 pw, .int .i64 np, .slice p n c, .slice q m d, .int .i64 sp, .int .i64 bp] 32)).heap.size (w.alloc (.cells #[.int .i64 pw, .int .i64 np, .slice p n c, .slice q m d, .int .i64 sp, .int .i64 bp] 32)) wx)
  case first =>
    refine wp_region_held_drew (S := fun w' => w'.cell? ⟨w.heap.size, 0, none⟩ = some (.int .i64 pw) ∧ w'.cell? ⟨w.heap.size, 1, none⟩ = some (.int .i64 np) ∧ w'.cell? ⟨w.heap.size, 2, none⟩ = some (.slice p n c) ∧ w'.cell? ⟨w.heap.size, 3, none⟩ = some (.slice q m d) ∧ w'.cell? ⟨w.heap.size, 4, none⟩ = some (.int .i64 sp) ∧ w'.cell? ⟨w.heap.size, 5, none⟩ = some (.int .i64 bp) ∧ Below (w.alloc (.cells #[.int .i64 pw, .int .i64 np, .slice p n c, .slice q m d, .int .i64 sp, .int .i64 bp] 32)).heap.size (w.alloc (.cells #[.int .i64 pw, .int .i64 np, .slice p n c, .slice q m d, .int .i64 sp, .int .i64 bp] 32)) w') (by kernel_rfl) ⟨c0, c1, c2, c3, c4, c5, (Below.refl _ _).drew⟩ (fun hHeld => ?_)
    refine draw_take 0 10 (v := ?_) rfl rfl (by kernel_rfl) (by kernel_rfl) (by kernel_rfl) (fun _ _ _ h => h) (by kernel_rfl) ?hy hHeld ?_
    case hy => (intro w hSw; (try dsimp only at hSw); go_simp; try (with_reducible rfl))
    simp only [Act.put, List.setIfInBounds_toArray, List.set_cons_zero, List.set_cons_succ]
    refine draw_take 1 11 (v := ?_) rfl rfl (by kernel_rfl) (by kernel_rfl) (by kernel_rfl) (fun _ _ _ h => h) (by kernel_rfl) ?hy hHeld ?_
    case hy => (intro w hSw; (try dsimp only at hSw); go_simp; try (with_reducible rfl))
    simp only [Act.put, List.setIfInBounds_toArray, List.set_cons_zero, List.set_cons_succ]
    refine draw_take 3 13 (v := ?_) rfl rfl (by kernel_rfl) (by kernel_rfl) (by kernel_rfl) (fun _ _ _ h => h) (by kernel_rfl) ?hy hHeld ?_
    case hy => (intro w hSw; (try dsimp only at hSw); go_simp; try (with_reducible rfl))
    simp only [Act.put, List.setIfInBounds_toArray, List.set_cons_zero, List.set_cons_succ]
    refine draw_take 5 15 (v := ?_) rfl rfl (by kernel_rfl) (by kernel_rfl) (by kernel_rfl) (fun _ _ _ h => h) (by kernel_rfl) ?hy hHeld ?_
    case hy => (intro w hSw; (try dsimp only at hSw); go_simp; try (with_reducible rfl))
    simp only [Act.put, List.setIfInBounds_toArray, List.set_cons_zero, List.set_cons_succ]
    refine draw_take 6 16 (v := ?_) rfl rfl (by kernel_rfl) (by kernel_rfl) (by kernel_rfl) (fun _ _ _ h => h) (by kernel_rfl) ?hy hHeld ?_
    case hy => (intro w hSw; (try dsimp only at hSw); go_simp; try (with_reducible rfl))
    simp only [Act.put, List.setIfInBounds_toArray, List.set_cons_zero, List.set_cons_succ]
    refine wpAnyH_ready (rs := [2]) (by kernel_rfl) (by simp) ?_
    refine AllReadyH.cons rfl (fun K hK => ?_) AllReadyH.nil
    go_simp
    (go_at_call 40; refine (hiu.out _ hHeld.2.2.2.2.2.2).mono ?_; rintro e w3 ⟨rfl, hbq⟩)
    go_wp2_with fail
    refine hK.out _ _ (keepH hHeld hbq) (fun hHeld => ?_)
    clear hK K
    try simp only [Act.put, List.setIfInBounds_toArray, List.set_cons_zero, List.set_cons_succ]
    refine draw_take 4 14 (v := ?_) rfl rfl (by kernel_rfl) (by kernel_rfl) (by kernel_rfl) (fun _ _ _ h => h) (by kernel_rfl) ?hy hHeld ?_
    case hy => (intro w hSw; (try dsimp only at hSw); go_simp; try (with_reducible rfl))
    simp only [Act.put, List.setIfInBounds_toArray, List.set_cons_zero, List.set_cons_succ]
    refine wpAnyH_ready (rs := [7]) (by kernel_rfl) (by simp) ?_
    refine AllReadyH.cons rfl (fun K hK => ?_) AllReadyH.nil
    go_simp
    (go_at_call 41; refine (hli.out _).mono ?_; rintro e w2 ⟨rfl, hbq⟩)
    go_wp2_with fail
    refine hK.out _ _ (keepH hHeld hbq) (fun hHeld => ?_)
    clear hK K
    try simp only [Act.put, List.setIfInBounds_toArray, List.set_cons_zero, List.set_cons_succ]
    refine draw_take 8 18 (v := ?_) rfl rfl (by kernel_rfl) (by kernel_rfl) (by kernel_rfl) (fun _ _ _ h => h) (by kernel_rfl) ?hy hHeld ?_
    case hy => (intro w hSw; (try dsimp only at hSw); go_simp; try (with_reducible rfl))
    simp only [Act.put, List.setIfInBounds_toArray, List.set_cons_zero, List.set_cons_succ]
    refine wpAnyH_done (by kernel_rfl) ?_ _
    go_wp2_with fail
    go_meet
    exact ⟨rfl, hHeld.2.2.2.2.2.2⟩
  case rest =>
    obtain ⟨rfl, hB⟩ := hcut
    have Ho1 := Lib.hid (Ho.out.keep hB (by simp))
    have hB1 := Lib.hid (bthen Hbx.out hB)
    have hsz : w.heap.size + 1 ≤ wc.heap.size := by simpa using hB.size
    have c0 := cell_keep hB c0
    have c1 := cell_keep hB c1
    have c2 := cell_keep hB c2
    have c3 := cell_keep hB c3
    have c4 := cell_keep hB c4
    have c5 := cell_keep hB c5
    clear hB hli hiu Ho Hbx hwr
    by_cases hUL : L < U + k
    · have hno := Lib.hid (show largeOKB ⟨pw, np, ws, ps, sp, bp⟩ k = false from decide_eq_false (by simp only; rw [hL.out, hU.out]; exact fun h => h (Or.inr hUL)))
      go_wp2
      go_ret
      exact ⟨RetSp.none hno.out, hB1.out⟩
    · have hfi := Lib.hid (fun w' (hb : Below w.heap.size w w') => first_any q m d ps k w' (Hr.out.keep hb) hm8)
      by_cases hf0 : firstV ps k < 0
      · have hno := Lib.hid (show largeOKB ⟨pw, np, ws, ps, sp, bp⟩ k = false from decide_eq_false (fun h => h (Or.inl hf0)))
        have hso := Lib.hid (large_out (pw := pw) (np := np) (ps := ps) (n := nn) hf0 (by rw [Hk.out]; exact h1) hsp)
        obtain ⟨I, hI⟩ : ∃ I, Hid (firstV ps k = I) := ⟨_, rfl⟩
        rw [hI.out] at hfi hso
        clear hf0
        go_wp2_with fail
        refine (hfi.out _ hB1.out).mono ?_
        rintro e w4 ⟨rfl, hb4⟩
        have c0 := cell_keep hb4 c0
        have c1 := cell_keep hb4 c1
        have c2 := cell_keep hb4 c2
        have c3 := cell_keep hb4 c3
        have c4 := cell_keep hb4 c4
        have c5 := cell_keep hb4 c5
        have hB4 := Lib.hid (bthen hB1.out hb4)
        have hsm := Lib.hid (fun w' (hb : Below w.heap.size w w') => plarge_any pw np q m d ps I sp nn w' (Hr.out.keep hb) hm8)
        rw [hso.out] at hsm
        clear hb4 hfi hso
        go_wp2_with fail
        refine (hsm.out _ hB4.out).mono ?_
        rintro e w5 ⟨⟨q5, m5, d5, rfl, -⟩, hb5⟩
        have hB5 := Lib.hid (bthen hB4.out hb5)
        clear hsm hb5
        go_wp2
        go_ret
        exact ⟨RetSp.none hno.out, hB5.out⟩
      · have Hok := Lib.hid (show largeOKB ⟨pw, np, ws, ps, sp, bp⟩ k = true from decide_eq_true (by simp only; rw [hL.out, hU.out]; omega))
        obtain ⟨K, kk, hkk, hK, hKl, -, hpe, hpv, hA, hV⟩ := place_large (n := nn) Hp.out Hk.out h1 (by simp only; omega)
        simp only at hK hKl hpe hpv hA hV
        have hH : largeH ⟨pw, np, ws, ps, sp, bp⟩ nn k = ⟨pw, np, ws, put (ps.set K ⟨2, sp, nn, 0⟩) (K + 1) (kk - 1) ⟨3, sp, 0, 0⟩, sp, bp⟩ := by unfold largeH; simp only; rw [hK, hpv]
        have hlp : (put (ps.set K ⟨2, sp, nn, 0⟩) (K + 1) (kk - 1) ⟨3, sp, 0, 0⟩).length = m := by rw [put_len (by rw [List.length_set]; omega), List.length_set]; exact Hr.out.len
        have hsm := Lib.hid (fun w' (hb : Below w.heap.size w w') => plarge_any pw np q m d ps K sp nn w' (Hr.out.keep hb) hm8)
        rw [hpe, hpv] at hsm
        rw [hK] at hfi
        generalize put (ps.set K ⟨2, sp, nn, 0⟩) (K + 1) (kk - 1) ⟨3, sp, 0, 0⟩ = qs at *
        have hm1 : 1 ≤ m := by have := Hr.out.len; omega
        have HH := Lib.hid hH
        have HA := Lib.hid hA
        have HV := Lib.hid hV
        have Hlp := Lib.hid hlp
        clear hf0 hK hpe hpv hH hA hV hlp hkk hKl
        go_wp2_with fail
        refine (hfi.out _ hB1.out).mono ?_
        rintro e w4 ⟨rfl, hb4⟩
        have c0 := cell_keep hb4 c0
        have c1 := cell_keep hb4 c1
        have c2 := cell_keep hb4 c2
        have c3 := cell_keep hb4 c3
        have c4 := cell_keep hb4 c4
        have c5 := cell_keep hb4 c5
        have Ho4 := Lib.hid (Ho1.out.keep hb4 (by omega))
        have hB4 := Lib.hid (bthen hB1.out hb4)
        have hsz4 : w.heap.size + 1 ≤ w4.heap.size := Nat.le_trans hsz hb4.size
        clear hb4 hfi Ho1
        go_wp2_with fail
        refine (hsm.out _ hB4.out).mono ?_
        rintro e w5 ⟨⟨q5, m5, d5, rfl, hown⟩, hb5⟩
        have c0 := cell_keep hb5 c0
        have c1 := cell_keep hb5 c1
        have c2 := cell_keep hb5 c2
        have c3 := cell_keep hb5 c3
        have c4 := cell_keep hb5 c4
        have c5 := cell_keep hb5 c5
        have Ho5 := Ho4.out.keep hb5 (by omega)
        have f3 := Ho5.free 3
        have hB5 := bthen hB4.out hb5
        have hlm : m = m5 := by have := hown.1; have h9 := Hlp.out; rw [pvals_len] at this; omega
        subst hlm
        obtain ⟨g, c', hgv, hg, hgl⟩ := World.ownsRow.form hown (by omega)
        obtain ⟨rfl, rfl⟩ : q5 = some ⟨g, 0, none⟩ ∧ d5 = c' := by
          injection hgv with a1 a2 a3
          exact ⟨a1, a3⟩
        have hown6 := Lib.hid (own_other (own_mono hown (show w.heap.size ≤ w4.heap.size by omega)) ⟨w.heap.size, 3, none⟩ (.slice (some ⟨g, 0, none⟩) m d5) (by simp only; omega))
        have hB6 := Lib.hid (show Below w.heap.size w (w5.setCell ⟨w.heap.size, 3, none⟩ (.slice (some ⟨g, 0, none⟩) m d5)) from hB5.setCell (Nat.le_refl _) _)
        have hsa := Lib.hid (fun w => spotAt_any pw np sp bp K 0 p (some ⟨g, 0, none⟩) n c m d5 w)
        unfold hpv at hsa
        rw [show spotR pw np p n c (some ⟨g, 0, none⟩) m d5 sp bp K 0 = spotV pw np p n c (some ⟨g, 0, none⟩) m d5 sp bp (addrV pw np K 0) from if_pos HA.out] at hsa
        clear hown hB5 Ho5 hb5 hsm hgv Hlp
        go_wp2_with fail
        refine (hsa.out _).mono ?_
        rintro e w7 ⟨rfl, hb7⟩
        have hB7 := Lib.hid (bthen hB6.out hb7)
        have hfin := Lib.hid (own_below hown6.out hb7)
        clear hsa hb7 hown6
        go_wp2
        go_ret
        have hR : RetSp w.heap.size p n c true ⟨pw, np, ws, qs, sp, bp⟩ (addrV pw np K 0) (.returned (spotV pw np p n c (some ⟨g, 0, none⟩) m d5 sp bp (addrV pw np K 0))) w7 := Or.inl ⟨rfl, _, m, d5, rfl, hfin.out⟩
        exact ⟨RetSp.conv hR Hok.out HH.out HV.out, hB7.out⟩

/-- What place finds. -/
def placeOK (h : Hp) (n : Int) : Bool := if 0 < needV h.pw h.np n then largeOKB h (needV h.pw h.np n) else smallOKB h n
def placeH (h : Hp) (n : Int) : Hp := if 0 < needV h.pw h.np n then largeH h n (needV h.pw h.np n) else smallH h n
def placeA (h : Hp) (n : Int) : Int := if 0 < needV h.pw h.np n then largeA h (needV h.pw h.np n) else smallA h n

set_option maxHeartbeats 1600000 in
theorem place_run (pw np sp bp nn : Int) (ws : List Int) (ps : List Pg) (p q : Option Addr) (n c m d : Nat) (w : World) (hr : PRow w q m d ps) (hp : PlOK ⟨pw, np, ws, ps, sp, bp⟩) (hn : 1 ≤ nn ∧ nn ≤ 100000) :
    Calls Try.prog 21 #[hpv pw np p n c q m d sp bp, .int .i64 nn] w fun e w' => RetSp w.heap.size p n c (placeOK ⟨pw, np, ws, ps, sp, bp⟩ nn) (placeH ⟨pw, np, ws, ps, sp, bp⟩ nn) (placeA ⟨pw, np, ws, ps, sp, bp⟩ nn) e w' ∧ Below w.heap.size w w' := by
  have hnd := Lib.hid (fun w => need_any pw np nn w)
  obtain ⟨c0, c1, c2, c3, c4, c5, hbx⟩ := boxH w (.int .i64 pw) (.int .i64 np) (.slice p n c) (.slice q m d) (.int .i64 sp) (.int .i64 bp) 32
  have hk4 := needV_le pw np nn
  have Hr := Lib.hid hr
  have Hp := Lib.hid hp
  have Hn := Lib.hid hn
  unfold placeOK placeH placeA hpv
  simp only
  clear hr hp hn
  by_cases hk : 0 < needV pw np nn
  · rw [if_pos hk, if_pos hk, if_pos hk]
    obtain ⟨k, hkk⟩ : ∃ k, needV pw np nn = k := ⟨_, rfl⟩
    have Hkk := Lib.hid hkk
    rw [hkk] at hk hk4 hnd ⊢
    have hpl := Lib.hid (fun w' (hb : Below w.heap.size w w') => placeLarge_run pw np sp bp nn k ws ps p q n c m d w' (Hr.out.keep hb) Hp.out Hkk.out (by omega))
    unfold hpv at hpl
    clear hkk
    go_enter Try.func21, Try.ntmps21
    go_wp2_with fail
    refine (hnd.out _).mono ?_
    rintro e w1 ⟨rfl, hb1⟩
    have c0 := cell_keep hb1 c0
    have c1 := cell_keep hb1 c1
    have c2 := cell_keep hb1 c2
    have c3 := cell_keep hb1 c3
    have c4 := cell_keep hb1 c4
    have c5 := cell_keep hb1 c5
    have hB1 := Lib.hid (bthen hbx hb1)
    clear hb1 hbx hnd
    go_wp2_with fail
    refine (hpl.out _ hB1.out).mono ?_
    rintro e w2 ⟨hret, hb2⟩
    have hB2 := Lib.hid (bthen hB1.out hb2)
    have hret := Lib.hid (RetSp.mono hret hB1.out.size)
    have hx := hret.out
    rcases hx with ⟨-, q7, m7, d7, rfl, -⟩ | ⟨-, rfl⟩
    · clear hb2 hpl
      go_wp2
      go_ret
      exact ⟨hret.out, hB2.out⟩
    · clear hb2 hpl
      go_wp2
      go_ret
      exact ⟨hret.out, hB2.out⟩
  · rw [if_neg hk, if_neg hk, if_neg hk]
    obtain ⟨k, hkk⟩ : ∃ k, Hid (needV pw np nn = k) := ⟨_, rfl⟩
    rw [hkk.out] at hk hk4 hnd
    have hpl := Lib.hid (fun w' (hb : Below w.heap.size w w') => placeSmall_run pw np sp bp nn ws ps p q n c m d w' (Hr.out.keep hb) Hp.out Hn.out)
    unfold hpv at hpl
    go_enter Try.func21, Try.ntmps21
    go_wp2_with fail
    refine (hnd.out _).mono ?_
    rintro e w1 ⟨rfl, hb1⟩
    have c0 := cell_keep hb1 c0
    have c1 := cell_keep hb1 c1
    have c2 := cell_keep hb1 c2
    have c3 := cell_keep hb1 c3
    have c4 := cell_keep hb1 c4
    have c5 := cell_keep hb1 c5
    have hB1 := Lib.hid (bthen hbx hb1)
    clear hb1 hbx hnd
    go_wp2_with fail
    refine (hpl.out _ hB1.out).mono ?_
    rintro e w2 ⟨hret, hb2⟩
    have hB2 := Lib.hid (bthen hB1.out hb2)
    have hret := Lib.hid (RetSp.mono hret hB1.out.size)
    have hx := hret.out
    rcases hx with ⟨-, q7, m7, d7, rfl, -⟩ | ⟨-, rfl⟩
    · clear hb2 hpl
      go_wp2
      go_ret
      exact ⟨hret.out, hB2.out⟩
    · clear hb2 hpl
      go_wp2
      go_ret
      exact ⟨hret.out, hB2.out⟩
end Go.Proofs.Ytbenklhbcgiacaa
