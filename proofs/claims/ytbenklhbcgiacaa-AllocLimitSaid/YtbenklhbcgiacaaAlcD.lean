/- Contracts of package alloc: placeSmall. -/
import Derived.Test.YtbenklhbcgiacaaAlcP
import Derived.Test.YtbenklhbcgiacaaPgY
import Derived.Deep.DeepCutAuto
set_option linter.unusedSimpArgs false
set_option linter.unusedVariables false
namespace Go.Proofs.Ytbenklhbcgiacaa
open Go.RowKit

theorem RetSp.none {B : Nat} {p : Option Addr} {n c : Nat} {ok : Bool} {h : Hp} {a : Int} {w' : World} (hok : ok = false) : RetSp B p n c ok h a (.returned .nilIface) w' := Or.inr ⟨hok, rfl⟩
theorem RetSp.conv {B : Nat} {p : Option Addr} {n c : Nat} {ok ok' : Bool} {h h' : Hp} {a a' : Int} {e : Ending} {w' : World} (hr : RetSp B p n c ok h a e w') (h1 : ok' = ok) (h2 : h' = h) (h3 : a' = a) : RetSp B p n c ok' h' a' e w' := by subst h1 h2 h3; exact hr

set_option maxRecDepth 100000 in
set_option maxHeartbeats 3200000 in
theorem placeSmall_run (pw np sp bp nn : Int) (ws : List Int) (ps : List Pg) (p q : Option Addr) (n c m d : Nat) (w : World) (hr : PRow w q m d ps) (hp : PlOK ⟨pw, np, ws, ps, sp, bp⟩) (hn : 1 ≤ nn ∧ nn ≤ 100000) :
    Calls Try.prog 32 #[hpv pw np p n c q m d sp bp, .int .i64 nn] w fun e w' => RetSp w.heap.size p n c (smallOKB ⟨pw, np, ws, ps, sp, bp⟩ nn) (smallH ⟨pw, np, ws, ps, sp, bp⟩ nn) (smallA ⟨pw, np, ws, ps, sp, bp⟩ nn) e w' ∧ Below w.heap.size w w' := by
  obtain ⟨k1, k2, -, k4, k5⟩ := conf_parts hp.conf
  have hlen := hr.len
  have hl := hp.len
  have hm8 : m ≤ 100000 := by simp only at *; omega
  have hsp := hp.sp
  simp only at hsp hl
  have Hp := Lib.hid hp
  have Hr := Lib.hid hr
  have Ho := Lib.hid (OwnL.new w [.int .i64 pw, .int .i64 np, .slice p n c, .slice q m d, .int .i64 sp, .int .i64 bp] 32)
  obtain ⟨c0, c1, c2, c3, c4, c5, hbx⟩ := boxH w (.int .i64 pw) (.int .i64 np) (.slice p n c) (.slice q m d) (.int .i64 sp) (.int .i64 bp) 32
  have Hbx := Lib.hid hbx
  have hli := Lib.hid (fun w => limit_any pw np w)
  have hiu := Lib.hid (fun w' (hb : Below (w.alloc (.cells #[.int .i64 pw, .int .i64 np, .slice p n c, .slice q m d, .int .i64 sp, .int .i64 bp] 32)).heap.size (w.alloc (.cells #[.int .i64 pw, .int .i64 np, .slice p n c, .slice q m d, .int .i64 sp, .int .i64 bp] 32)) w') => inUse_any q m d ps w' (hr.keep (bthen hbx hb)))
  have hbf := Lib.hid (fun w' (hb : Below w.heap.size w w') => bumpFits_any pw np sp bp nn p q n c m d ps w' (hr.keep hb) hp.bump.1 ⟨by omega, hn.2⟩ hp.bump.2)
  unfold hpv at hbf
  obtain ⟨U, hU⟩ : ∃ U : Int, Hid ((inUse ps : Int) = U) := ⟨_, rfl⟩
  obtain ⟨L, hL⟩ : ∃ L, Hid (limitV pw np = L) := ⟨_, rfl⟩
  obtain ⟨F, hF⟩ : ∃ F, Hid (fitsB pw ps sp bp nn = F) := ⟨_, rfl⟩
  rw [hU.out] at hiu
  rw [hL.out] at hli
  rw [hF.out] at hbf
  unfold hpv
  clear hr hp hlen hl hbx k1 k2 k4 k5
  obtain ⟨hn0, hn1⟩ := hn
  go_enter Try.func32, Try.ntmps32
  go_upto_region 1 with fail
  go_cut [5, 6] (fun a b wx => a = .int .i64 L ∧ b = .int .i64 U ∧ Below (w.alloc (.cells #[.int .i64 pw, .int .i64 np, .slice p n c, .slice q m d, .int .i64 sp, .int .i64 bp] 32)).heap.size (w.alloc (.cells #[.int .i64 pw, .int .i64 np, .slice p n c, .slice q m d, .int .i64 sp, .int .i64 bp] 32)) wx)
  case first =>
    refine wp_region_held_drew (S := fun w' => w'.cell? ⟨w.heap.size, 0, none⟩ = some (.int .i64 pw) ∧ w'.cell? ⟨w.heap.size, 1, none⟩ = some (.int .i64 np) ∧ w'.cell? ⟨w.heap.size, 2, none⟩ = some (.slice p n c) ∧ w'.cell? ⟨w.heap.size, 3, none⟩ = some (.slice q m d) ∧ w'.cell? ⟨w.heap.size, 4, none⟩ = some (.int .i64 sp) ∧ w'.cell? ⟨w.heap.size, 5, none⟩ = some (.int .i64 bp) ∧ Below (w.alloc (.cells #[.int .i64 pw, .int .i64 np, .slice p n c, .slice q m d, .int .i64 sp, .int .i64 bp] 32)).heap.size (w.alloc (.cells #[.int .i64 pw, .int .i64 np, .slice p n c, .slice q m d, .int .i64 sp, .int .i64 bp] 32)) w') (by kernel_rfl) ⟨c0, c1, c2, c3, c4, c5, (Below.refl _ _).drew⟩ (fun hHeld => ?_)
    refine draw_take 0 10 (v := ?_) rfl rfl (by kernel_rfl) (by kernel_rfl) (by kernel_rfl) (fun _ _ _ h => h) (by kernel_rfl) ?hy hHeld ?_
    case hy => (intro w hSw; (try dsimp only at hSw); go_simp; try (with_reducible rfl))
    simp only [Act.put, List.setIfInBounds_toArray, List.set_cons_zero, List.set_cons_succ]
    refine draw_take 1 11 (v := ?_) rfl rfl (by kernel_rfl) (by kernel_rfl) (by kernel_rfl) (fun _ _ _ h => h) (by kernel_rfl) ?hy hHeld ?_
    case hy => (intro w hSw; (try dsimp only at hSw); go_simp; try (with_reducible rfl))
    simp only [Act.put, List.setIfInBounds_toArray, List.set_cons_zero, List.set_cons_succ]
    refine draw_take 3 13 (v := ?_) rfl rfl (by kernel_rfl) (by kernel_rfl) (by kernel_rfl) (fun _ _ _ h => h) (by kernel_rfl) ?hy hHeld ?_
    case hy => (intro w hSw; (try dsimp only at hSw); go_simp; try (with_reducible rfl))
    simp only [Act.put, List.setIfInBounds_toArray, List.set_cons_zero, List.set_cons_succ]
    refine draw_take 4 14 (v := ?_) rfl rfl (by kernel_rfl) (by kernel_rfl) (by kernel_rfl) (fun _ _ _ h => h) (by kernel_rfl) ?hy hHeld ?_
    case hy => (intro w hSw; (try dsimp only at hSw); go_simp; try (with_reducible rfl))
    simp only [Act.put, List.setIfInBounds_toArray, List.set_cons_zero, List.set_cons_succ]
    refine wpAnyH_ready (rs := [2]) (by kernel_rfl) (by simp) ?_
    refine AllReadyH.cons rfl (fun K hK => ?_) AllReadyH.nil
    go_simp
    (go_at_call 41; refine (hli.out _).mono ?_; rintro e w2 ⟨rfl, hbq⟩)
    go_wp2_with fail
    refine hK.out _ _ (keepH hHeld hbq) (fun hHeld => ?_)
    clear hK K
    try simp only [Act.put, List.setIfInBounds_toArray, List.set_cons_zero, List.set_cons_succ]
    refine wpAnyH_ready (rs := [5]) (by kernel_rfl) (by simp) ?_
    refine AllReadyH.cons rfl (fun K hK => ?_) AllReadyH.nil
    go_simp
    (go_at_call 40; refine (hiu.out _ hHeld.2.2.2.2.2.2).mono ?_; rintro e w3 ⟨rfl, hbq⟩)
    go_wp2_with fail
    refine hK.out _ _ (keepH hHeld hbq) (fun hHeld => ?_)
    clear hK K
    try simp only [Act.put, List.setIfInBounds_toArray, List.set_cons_zero, List.set_cons_succ]
    refine draw_take 6 5 (v := ?_) rfl rfl (by kernel_rfl) (by kernel_rfl) (by kernel_rfl) (fun _ _ _ h => h) (by kernel_rfl) ?hy hHeld ?_
    case hy => (intro w hSw; (try dsimp only at hSw); go_simp; try (with_reducible rfl))
    simp only [Act.put, List.setIfInBounds_toArray, List.set_cons_zero, List.set_cons_succ]
    refine draw_take 7 6 (v := ?_) rfl rfl (by kernel_rfl) (by kernel_rfl) (by kernel_rfl) (fun _ _ _ h => h) (by kernel_rfl) ?hy hHeld ?_
    case hy => (intro w hSw; (try dsimp only at hSw); go_simp; try (with_reducible rfl))
    simp only [Act.put, List.setIfInBounds_toArray, List.set_cons_zero, List.set_cons_succ]
    refine wpAnyH_done (by kernel_rfl) ?_ _
    go_wp2_with fail
    go_meet
    exact ⟨rfl, rfl, hHeld.2.2.2.2.2.2⟩
  case rest =>
    obtain ⟨rfl, rfl, hB⟩ := hcut
    have Ho1 := Lib.hid (Ho.out.keep hB (by simp))
    have hB1 := Lib.hid (bthen Hbx.out hB)
    have hsz : w.heap.size + 1 ≤ wc.heap.size := by simpa using hB.size
    have c0 := cell_keep hB c0
    have c1 := cell_keep hB c1
    have c2 := cell_keep hB c2
    have c3 := cell_keep hB c3
    have c4 := cell_keep hB c4
    have c5 := cell_keep hB c5
    clear hB hli hiu Ho Hbx
    by_cases hUL : U ≤ L
    · go_wp2_with fail
      refine (hbf.out _ hB1.out).mono ?_
      rintro e w3 ⟨rfl, hb3⟩
      have c0 := cell_keep hb3 c0
      have c1 := cell_keep hb3 c1
      have c2 := cell_keep hb3 c2
      have c3 := cell_keep hb3 c3
      have c4 := cell_keep hb3 c4
      have c5 := cell_keep hb3 c5
      have Ho3 := Lib.hid (Ho1.out.keep hb3 (by omega))
      have hB3 := Lib.hid (bthen hB1.out hb3)
      have hsz3 : w.heap.size + 1 ≤ w3.heap.size := Nat.le_trans hsz hb3.size
      clear hb3 hbf Ho1 hB1 hsz
      cases F
      · have hnb := Lib.hid (newB_no Hp.out (Or.inr hF.out))
        by_cases hLU : L ≤ U
        · have hno := Lib.hid (place_none hnb.out (decide_eq_true (Or.inr (by rw [hL.out, hU.out]; exact hLU))))
          go_wp2
          go_ret
          exact ⟨RetSp.none hno.out, hB3.out⟩
        · have hfi := Lib.hid (fun w' (hb : Below w.heap.size w w') => first_any q m d ps 1 w' (Hr.out.keep hb) hm8)
          by_cases hf0 : firstV ps 1 < 0
          · have hno := Lib.hid (place_none hnb.out (decide_eq_true (Or.inl hf0)))
            have hso := Lib.hid (small_out (ps := ps) hf0 hsp)
            obtain ⟨I, hI⟩ : ∃ I, Hid (firstV ps 1 = I) := ⟨_, rfl⟩
            rw [hI.out] at hfi hso
            clear hf0
            go_wp2_with fail
            refine (hfi.out _ hB3.out).mono ?_
            rintro e w4 ⟨rfl, hb4⟩
            have c0 := cell_keep hb4 c0
            have c1 := cell_keep hb4 c1
            have c2 := cell_keep hb4 c2
            have c3 := cell_keep hb4 c3
            have c4 := cell_keep hb4 c4
            have c5 := cell_keep hb4 c5
            have hB4 := Lib.hid (bthen hB3.out hb4)
            have hsm := Lib.hid (fun w' (hb : Below w.heap.size w w') => psmall_any q m d ps I sp w' (Hr.out.keep hb) hm8)
            rw [hso.out] at hsm
            clear hb4 hfi hso
            go_wp2_with fail
            refine (hsm.out _ hB4.out).mono ?_
            rintro e w5 ⟨⟨q5, m5, d5, rfl, -⟩, hb5⟩
            have hB5 := Lib.hid (bthen hB4.out hb5)
            clear hsm hb5
            go_wp2
            go_ret
            exact ⟨RetSp.none hno.out, hB5.out⟩
          · obtain ⟨K, hK, hKl, hpe, hpv, -, hok, hH, hA, hV⟩ := place_new (nn := nn) Hp.out hnb.out (decide_eq_false (by rw [hL.out, hU.out]; intro h; rcases h with h | h; exact hf0 h; exact hLU h))
            simp only at hK hKl hpe hpv hH hA hV
            have hlen5 := Hr.out.len
            have hgK : (ps.set K ⟨1, sp, 0, 0⟩)[K]? = some ⟨1, sp, 0, 0⟩ := by rw [List.getElem?_set, if_pos rfl, if_pos hKl]
            have hsm := Lib.hid (fun w' (hb : Below w.heap.size w w') => psmall_any q m d ps K sp w' (Hr.out.keep hb) hm8)
            rw [hpe, hpv] at hsm
            rw [hK] at hfi
            have Hok := Lib.hid hok
            have HH := Lib.hid hH
            have HA := Lib.hid hA
            have HV := Lib.hid hV
            have HgK := Lib.hid hgK
            clear hf0 hK hpe hpv hok hH hA hV hgK
            go_wp2_with fail
            refine (hfi.out _ hB3.out).mono ?_
            rintro e w4 ⟨rfl, hb4⟩
            have c0 := cell_keep hb4 c0
            have c1 := cell_keep hb4 c1
            have c2 := cell_keep hb4 c2
            have c3 := cell_keep hb4 c3
            have c4 := cell_keep hb4 c4
            have c5 := cell_keep hb4 c5
            have Ho4 := Lib.hid (Ho3.out.keep hb4 (by omega))
            have hB4 := Lib.hid (bthen hB3.out hb4)
            have hsz4 : w.heap.size + 1 ≤ w4.heap.size := Nat.le_trans hsz3 hb4.size
            clear hb4 hfi Ho3 hsz3
            go_wp2_with fail
            refine (hsm.out _ hB4.out).mono ?_
            rintro e w5 ⟨⟨q5, m5, d5, rfl, hown⟩, hb5⟩
            have c0 := cell_keep hb5 c0
            have c1 := cell_keep hb5 c1
            have c2 := cell_keep hb5 c2
            have c3 := cell_keep hb5 c3
            have c4 := cell_keep hb5 c4
            have c5 := cell_keep hb5 c5
            have Ho5 := Ho4.out.keep hb5 (by omega)
            have f3 := Ho5.free 3
            have f5 := Ho5.free 5
            have hB5 := bthen hB4.out hb5
            have hlm : m = m5 := by have := hown.1; rw [pvals_len, List.length_set] at this; omega
            subst hlm
            obtain ⟨g, c', hgv, hg, hgl⟩ := World.ownsRow.form hown (by omega)
            obtain ⟨rfl, rfl⟩ : q5 = some ⟨g, 0, none⟩ ∧ d5 = c' := by
              injection hgv with a1 a2 a3
              exact ⟨a1, a3⟩
            have hown6 := own_other (own_other hown ⟨w.heap.size, 3, none⟩ (.slice (some ⟨g, 0, none⟩) m d5) (by simp only; omega)) ⟨w.heap.size, 5, none⟩ (.int .i64 K) (by simp only; omega)
            obtain ⟨q6, d6, hv6, hrow6⟩ := PRow.of_own hown6
            obtain ⟨rfl, rfl⟩ : q6 = some ⟨g, 0, none⟩ ∧ d6 = d5 := by
              injection hv6 with a1 a2 a3
              exact ⟨a1.symm, a3.symm⟩
            have Hrow6 := Lib.hid hrow6
            have hB6 := Lib.hid (show Below w.heap.size w ((w5.setCell ⟨w.heap.size, 3, none⟩ (.slice (some ⟨g, 0, none⟩) m d6)).setCell ⟨w.heap.size, 5, none⟩ (.int .i64 K)) from (hB5.setCell (Nat.le_refl _) _).setCell (Nat.le_refl _) _)
            have hbu := Lib.hid (fun w' h => bump_any pw np sp nn ws K p (some ⟨g, 0, none⟩) n c m d6 (ps.set K ⟨1, sp, 0, 0⟩) ⟨1, sp, 0, 0⟩ w' h HgK.out (by omega) ⟨by omega, hn1⟩ ⟨Int.le_refl 0, show (0 : Int) ≤ 100000 by decide⟩)
            unfold hpv at hbu
            clear hv6 hrow6 hown6 hown hB5 Ho5 hb5 hsm hgv
            go_wp2_with fail
            refine (hbu.out _ Hrow6.out).mono ?_
            rintro e w7 ⟨hret, hb7⟩
            have hret := RetSp.mono hret (B' := w.heap.size) (by simp; omega)
            have hfin := Lib.hid (RetSp.conv (ok' := true) hret (by rw [HA.out]; rfl) HH.out HV.out)
            have hB7 := Lib.hid (bthen hB6.out hb7)
            rcases hret with ⟨-, q7, m7, d7, rfl, -⟩ | ⟨h0, -⟩
            · clear hb7 hbu
              go_wp2
              go_ret
              exact ⟨RetSp.conv hfin.out Hok.out rfl rfl, hB7.out⟩
            · rw [HA.out] at h0; exact absurd h0 (by decide)
      · have hnb := newB_yes Hp.out (by simp only; rw [hU.out, hL.out]; exact hUL) hF.out
        obtain ⟨K, x, hK, hx, hu, hok, hH, hA, hV⟩ := place_bump Hp.out hn0 hnb
        simp only at hK hx
        subst hK
        have Hok := Lib.hid hok
        have HH := Lib.hid hH
        have HA := Lib.hid hA
        have HV := Lib.hid hV
        have hbu := Lib.hid (fun w' (hb : Below w.heap.size w w') => bump_any pw np sp nn ws K p q n c m d ps x w' (Hr.out.keep hb) hx hm8 ⟨by omega, hn1⟩ hu)
        unfold hpv at hbu
        clear hnb hok hH hA hV hx hu
        go_wp2_with fail
        refine (hbu.out _ hB3.out).mono ?_
        rintro e w7 ⟨hret, hb7⟩
        have hret := RetSp.mono hret (B' := w.heap.size) (by omega)
        have hfin := Lib.hid (RetSp.conv (ok' := true) hret (by rw [HA.out]; rfl) HH.out HV.out)
        have hB7 := Lib.hid (bthen hB3.out hb7)
        rcases hret with ⟨-, q7, m7, d7, rfl, -⟩ | ⟨h0, -⟩
        · clear hb7 hbu
          go_wp2
          go_ret
          exact ⟨RetSp.conv hfin.out Hok.out rfl rfl, hB7.out⟩
        · rw [HA.out] at h0; exact absurd h0 (by decide)
    · have hnb := Lib.hid (newB_no Hp.out (nn := nn) (Or.inl (by simp only; rw [hU.out, hL.out]; exact hUL)))
      have hno := Lib.hid (place_none hnb.out (decide_eq_true (Or.inr (by simp only; rw [hL.out, hU.out]; omega))))
      have hLU : L ≤ U := by omega
      go_wp2
      go_ret
      exact ⟨RetSp.none hno.out, hB1.out⟩
end Go.Proofs.Ytbenklhbcgiacaa
