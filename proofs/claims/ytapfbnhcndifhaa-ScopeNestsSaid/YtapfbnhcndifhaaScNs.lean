/- The law ScopeNests of layer 14. -/
import Derived.Test.YtapfbnhcndifhaaScPz
import Derived.Test.YtapfbnhcndifhaaScNp
import Derived.Test.YtapfbnhcndifhaaScJ
import Derived.Test.YtapfbnhcndifhaaScF
import Derived.Test.YtapfbnhcndifhaaScO
import Derived.Test.YtapfbnhcndifhaaScW
import Derived.Deep.DeepCutAuto
set_option linter.unusedVariables false
set_option linter.unusedSimpArgs false
namespace Go.Proofs.Ytapfbnhcndifhaa
open Go.RowKit

theorem scGet_heldN {B b1 o1 o2 : Nat} {a b c d e : Value} {w0 w : World} (pa : Option Addr) (na ca : Nat) (pb : Option Addr) (nb cb : Nat) (pc : Option Addr) (nc cc : Nat) (l : Loc) (i st : Int) (h : w.cell? ⟨B, 0, none⟩ = some a ∧ w.cell? ⟨B, 1, none⟩ = some b ∧ w.cell? ⟨B, 2, none⟩ = some c ∧ w.cell? ⟨b1, o1, none⟩ = some d ∧ w.cell? ⟨b1, o2, none⟩ = some e ∧ Below w0.heap.size w0 w) (hr : LRow w0 pa na ca pb nb cb pc nc cc l) :
    Calls Try.prog 13 #[.agg #[.slice pa na ca, .slice pb nb cb, .slice pc nc cc], .int .i64 i, .int .i64 st] w fun e w' => e = .returned (.tuple #[.int .u64 (getV l i st), .int .i64 (findV l i st)]) ∧ Below w.heap.size w w' :=
  scGet_any pa na ca pb nb cb pc nc cc l i st w (hr.keep h.2.2.2.2.2)

set_option maxRecDepth 100000 in
set_option maxHeartbeats 6400000 in
theorem lawNests (p : Option Addr) (n cap : Nat) (ac : List Ac) (sz : Int) (q : Option Addr) (m cq : Nat) (xs : List Int) (w : World) (hr : VRow w 4 p n cap (ac.flatMap acC)) (hx : SRow w .u64 q m cq xs) :
    Calls Try.prog 3 #[.slice p n cap, .int .i64 sz, .slice q m cq] w fun e w' => e = .returned (.bool true) ∧ Below w.heap.size w w' := by
  have hp := Lib.hid (play_any p n cap ac w hr)
  have hm63 := hx.i63.2
  have HXs := Lib.hid hx
  have ht1 : -65 < sz.tmod 65 := Int.lt_tmod_of_pos sz (by decide)
  have ht2 : sz.tmod 65 < 65 := Int.tmod_lt_of_pos sz (by decide)
  obtain ⟨c, hc⟩ : ∃ c, sz.tmod 65 % 65 = c := ⟨_, rfl⟩
  have hcap := Lib.hid (show capB c = true from capB_iff.2 (by omega))
  clear hr hx
  go_enter Try.func3, Try.ntmps3
  go_wp2_with fail
  refine hp.out.mono ?_
  rintro e v ⟨⟨l, rs, pa, na, ca, pb, nb, cb, pc, nc, cc, qi, ni, ci, qr, nr, cr, rfl, hpl, hrow, hI, hR⟩, hb⟩
  have HPl := Lib.hid hpl
  have hni : l.is.length = ni := by
    have h1 := hI.len
    rw [flat_len _ 2 prC_len, pairs_len] at h1
    omega
  have hnr : rs.length = nr := hR.len
  have hrl : rs.length = l.is.length := hpl.len
  have hle := pl_is hpl
  have hni63 : (ni : Int) ≤ 4096 := by omega
  have HXv := Lib.hid (HXs.out.keep hb)
  have hps := Lib.hid (fun w h => push_any pa na ca pb nb cb pc nc cc l c w h)
  have HE := open_any_err hpl.ok hcap.out
  obtain ⟨E, hE⟩ : ∃ E, Hid (openE l c false = E) := ⟨_, Lib.hid rfl⟩
  rw [hE.out] at hps HE
  obtain ⟨x0, hx0⟩ : ∃ x0, Hid (openL l c false = x0) := ⟨_, Lib.hid rfl⟩
  rw [hx0.out] at hps
  go_upto_region 4 with fail
  obtain ⟨w1, hw1⟩ : ∃ w1, v.alloc (.cells #[.slice pa na ca, .slice pb nb cb, .slice pc nc cc] 28) = w1 := ⟨_, rfl⟩
  have hX := OwnL.new v [.slice pa na ca, .slice pb nb cb, .slice pc nc cc] 28
  have hb1 := below_box (w := v) (o := .cells #[.slice pa na ca, .slice pb nb cb, .slice pc nc cc] 28)
  replace hX : OwnL w1 v.heap.size [.slice pa na ca, .slice pb nb cb, .slice pc nc cc] := by rw [← hw1]; exact hX
  rw [hw1] at hb1 ⊢
  have HR := Lib.hid (hrow.keep hb1)
  have HI := Lib.hid (hI.keep hb1)
  have HQ := Lib.hid (hR.keep hb1)
  have HY := Lib.hid (HXv.out.keep hb1)
  have HB := Lib.hid (bthen hb hb1)
  have HX := Lib.hid hX
  obtain ⟨B, hB⟩ : ∃ B, v.heap.size = B := ⟨_, rfl⟩
  rw [hB] at HX ⊢
  have hBl : B < w1.heap.size := cell_lt (HX.out.cell 0 _ rfl)
  clear hw1 hX hb1 hrow hI hR hb hB hpl hp hrl hle hcap HXv HXs
  obtain ⟨y0, y1, y2⟩ := own3c HX.out
  go_wp2_with fail
  refine (hps.out _ HR.out).mono ?_
  rintro e v2 ⟨⟨pa', na', ca', pb', nb', cb', pc', nc', cc', rfl, hrow2⟩, hb2⟩
  have HB2 := Lib.hid hb2
  have HR2 := Lib.hid hrow2
  have hs2 := hb2.size
  clear hb2 hrow2 y0 y1 y2 hps
  rcases HE with rfl | rfl | rfl
  rotate_left
  · go_wp2_with fail
    refine (awake14 _).mono ?_
    rintro e v3 ⟨rfl, hb3⟩
    go_wp2
    go_ret
    exact ⟨rfl, bthen (bthen (bthen HB.out HB2.out) below_box) hb3⟩
  · go_wp2_with fail
    refine (awake14 _).mono ?_
    rintro e v3 ⟨rfl, hb3⟩
    go_wp2
    go_ret
    exact ⟨rfl, bthen (bthen (bthen HB.out HB2.out) below_box) hb3⟩
  have hNs := nst_open hE.out
  rw [hx0.out] at hNs
  go_upto_region 8 with fail
  obtain ⟨w3, hw3⟩ : ∃ w3, v2.alloc (.cells #[.slice pa' na' ca', .slice pb' nb' cb', .slice pc' nc' cc'] 28) = w3 := ⟨_, rfl⟩
  have hX3 := OwnL.new v2 [.slice pa' na' ca', .slice pb' nb' cb', .slice pc' nc' cc'] 28
  have hb3 := below_box (w := v2) (o := .cells #[.slice pa' na' ca', .slice pb' nb' cb', .slice pc' nc' cc'] 28)
  replace hX3 : OwnL w3 v2.heap.size [.slice pa' na' ca', .slice pb' nb' cb', .slice pc' nc' cc'] := by rw [← hw3]; exact hX3
  rw [hw3] at hb3 ⊢
  have HR3 := Lib.hid (HR2.out.keep hb3)
  have HX3 := Lib.hid hX3
  have HB3 := Lib.hid (bthen HB2.out hb3)
  have HNs := Lib.hid hNs
  obtain ⟨B1, hB1⟩ : ∃ B1, v2.heap.size = B1 := ⟨_, rfl⟩
  rw [hB1] at HX3 hs2 ⊢
  clear hw3 hX3 hb3 hB1 HR2 HB2 hNs hE hx0
  go_loopw [13] (fun i wr => ∃ (k : Nat) (x : Loc) (ta : Option Addr) (oa ua : Nat) (tb : Option Addr) (ob ub : Nat) (tc : Option Addr) (oc uc : Nat), k ≤ m ∧ i = .int .i64 k ∧ Nst l x c ∧ OwnL wr B1 [.slice ta oa ua, .slice tb ob ub, .slice tc oc uc] ∧ LRow wr ta oa ua tb ob ub tc oc uc x ∧ Below w1.heap.size w1 wr) (fun i _ => m - (intOf i).toNat)
  case atStart => exact ⟨0, x0, pa', na', ca', pb', nb', cb', pc', nc', cc', by omega, rfl, HNs.out, HX3.out, HR3.out, HB3.out⟩
  case round =>
    clear HNs HX3 HR3 HB3
    obtain ⟨k, x, ta, oa, ua, tb, ob, ub, tc, oc, uc, hk, rfl, hNs, hX1, hrow, hbw⟩ := hrel
    have HNs := Lib.hid hNs
    have HX1 := Lib.hid hX1
    have HRr := Lib.hid hrow
    have HBw := Lib.hid hbw
    have hk0 : (0 : Int) ≤ k := Int.natCast_nonneg _
    have hB1l : B1 < wr.heap.size := cell_lt (hX1.cell 0 _ rfl)
    obtain ⟨y0, y1, y2, z0, z1, z2⟩ := own6 hX1
    clear hNs hX1 hrow hbw
    have hexit : ((k : Int) < m ∧ (k : Int) < 20) ∨ ((k : Int) < m ∧ ¬ (k : Int) < 20) ∨ ¬ (k : Int) < m := by omega
    rcases hexit with ⟨hkm, hk20⟩ | ⟨hkm, hk20⟩ | hkm
    · obtain ⟨r, b, off, hr2, rfl, r0⟩ := (HY.out.keep HBw.out).at_ (show k < m by omega)
      obtain ⟨E1, hE1⟩ : ∃ E1, Hid (roomV x (bits .or .u64 r 1) = E1) := ⟨_, Lib.hid rfl⟩
      obtain ⟨x1, hx1⟩ : ∃ x1, Hid (newL x (bits .or .u64 r 1) = x1) := ⟨_, Lib.hid rfl⟩
      have hnw := Lib.hid (fun w h => scNew_any ta oa ua tb ob ub tc oc uc x (bits .or .u64 r 1) w h)
      rw [hE1.out, hx1.out] at hnw
      clear hr2
      have hSof := Lib.hid (fun W (hB : Below wr.heap.size wr W) => (⟨cell_keep hB y0, cell_keep hB y1, cell_keep hB y2, cell_keep hB r0, hB⟩ : (fun w' => w'.cell? ⟨B1, 0, none⟩ = some (.slice ta oa ua) ∧ w'.cell? ⟨B1, 1, none⟩ = some (.slice tb ob ub) ∧ w'.cell? ⟨B1, 2, none⟩ = some (.slice tc oc uc) ∧ w'.cell? ⟨b, off + k, none⟩ = some (.int .u64 r) ∧ Below wr.heap.size wr w') W))
      go_upto_region 10 with fail
      go_cut [14, 17] (fun th te wx => ∃ (N : Nat) (ra : Option Addr) (ka ea : Nat) (rb : Option Addr) (kb eb : Nat) (rc : Option Addr) (kc ec : Nat), th = .pointer (some ⟨N, 0, none⟩) ∧ te = .int .i64 E1 ∧ OwnL wx N [.slice ra ka ea, .slice rb kb eb, .slice rc kc ec] ∧ LRow wx ra ka ea rb kb eb rc kc ec x1 ∧ wr.heap.size ≤ N ∧ Below wr.heap.size wr wx)
      case first =>
        refine wp_region_held_drew (S := fun w' => w'.cell? ⟨B1, 0, none⟩ = some (.slice ta oa ua) ∧ w'.cell? ⟨B1, 1, none⟩ = some (.slice tb ob ub) ∧ w'.cell? ⟨B1, 2, none⟩ = some (.slice tc oc uc) ∧ w'.cell? ⟨b, off + k, none⟩ = some (.int .u64 r) ∧ Below wr.heap.size wr w') (by kernel_rfl) (hSof.out _ (Below.drew (Below.refl _ _))) (fun hHeld => ?_)
        refine draw_take 0 65 (v := ?_) rfl rfl (by kernel_rfl) (by kernel_rfl) (by kernel_rfl) (fun _ _ _ h => h) (by kernel_rfl) ?hy hHeld ?_
        case hy => (intro w hSw; (try dsimp only at hSw); go_simp; try (with_reducible rfl))
        simp only [Act.put, List.setIfInBounds_toArray, List.set_cons_zero, List.set_cons_succ]
        refine draw_take 1 66 (v := ?_) rfl rfl (by kernel_rfl) (by kernel_rfl) (by kernel_rfl) (fun _ _ _ h => h) (by kernel_rfl) ?hy hHeld ?_
        case hy => (intro w hSw; (try dsimp only at hSw); go_simp; try (with_reducible rfl))
        simp only [Act.put, List.setIfInBounds_toArray, List.set_cons_zero, List.set_cons_succ]
        refine draw_take 2 67 (v := ?_) rfl rfl (by kernel_rfl) (by kernel_rfl) (by kernel_rfl) (fun _ _ _ h => h) (by kernel_rfl) ?hy hHeld ?_
        case hy => (intro w hSw; (try dsimp only at hSw); go_simp; try (with_reducible rfl))
        simp only [Act.put, List.setIfInBounds_toArray, List.set_cons_zero, List.set_cons_succ]
        refine draw_take 3 68 (v := ?_) rfl rfl (by kernel_rfl) (by kernel_rfl) (by kernel_rfl) (fun _ _ _ h => h) (by kernel_rfl) ?hy hHeld ?_
        case hy => (intro w hSw; (try dsimp only at hSw); go_simp; try (with_reducible rfl))
        simp only [Act.put, List.setIfInBounds_toArray, List.set_cons_zero, List.set_cons_succ]
        refine draw_take 4 69 (v := ?_) rfl rfl (by kernel_rfl) (by kernel_rfl) (by kernel_rfl) (fun _ _ _ h => h) (by kernel_rfl) ?hy hHeld ?_
        case hy => (intro w hSw; (try dsimp only at hSw); go_simp; try (with_reducible rfl))
        simp only [Act.put, List.setIfInBounds_toArray, List.set_cons_zero, List.set_cons_succ]
        refine draw_take 5 70 (v := ?_) rfl rfl (by kernel_rfl) (by kernel_rfl) (by kernel_rfl) (fun _ _ _ h => h) (by kernel_rfl) ?hy hHeld ?_
        case hy => (intro w hSw; (try dsimp only at hSw); go_simp; try (with_reducible rfl))
        simp only [Act.put, List.setIfInBounds_toArray, List.set_cons_zero, List.set_cons_succ]
        refine wpAnyH_ready (rs := [6, 12]) (by kernel_rfl) (by simp) ?_
        refine AllReadyH.cons rfl (fun K hK => ?_) (AllReadyH.cons rfl (fun K hK => ?_) AllReadyH.nil)
        · go_simp
          (go_at_call 11; refine (hnw.out _ (HRr.out.keep ((Below.refl _ _).drew))).mono ?_; rintro e w2 ⟨⟨ra, ka, ea, rb, kb, eb, rc, kc, ec, rfl, hrow⟩, hbq⟩)
          have hb2 : Below wr.heap.size wr w2 := (Below.refl _ _).drew.trans (by simpa using hbq)
          go_wp2_with fail
          refine hK.out _ _ (hSof.out _ ((Below.refl _ _).drew.trans (by simpa using hbq))) (fun hHeld => ?_)
          clear hK K
          try simp only [Act.put, List.setIfInBounds_toArray, List.set_cons_zero, List.set_cons_succ]
          refine draw_take 7 64 (v := ?_) rfl rfl (by kernel_rfl) (by kernel_rfl) (by kernel_rfl) (fun _ _ _ h => h) (by kernel_rfl) ?hy hHeld ?_
          case hy => (intro w hSw; (try dsimp only at hSw); go_simp; try (with_reducible rfl))
          simp only [Act.put, List.setIfInBounds_toArray, List.set_cons_zero, List.set_cons_succ]
          refine draw_take 8 72 (v := ?_) rfl rfl (by kernel_rfl) (by kernel_rfl) (by kernel_rfl) (fun _ _ _ h => h) (by kernel_rfl) ?hy hHeld ?_
          case hy => (intro w hSw; (try dsimp only at hSw); go_simp; try (with_reducible rfl))
          simp only [Act.put, List.setIfInBounds_toArray, List.set_cons_zero, List.set_cons_succ]
          refine draw_take 9 73 (v := ?_) rfl rfl (by kernel_rfl) (by kernel_rfl) (by kernel_rfl) (fun _ _ _ h => h) (by kernel_rfl) ?hy hHeld ?_
          case hy => (intro w hSw; (try dsimp only at hSw); go_simp; try (with_reducible rfl))
          simp only [Act.put, List.setIfInBounds_toArray, List.set_cons_zero, List.set_cons_succ]
          refine draw_take 10 74 (v := ?_) rfl rfl (by kernel_rfl) (by kernel_rfl) (by kernel_rfl) (fun _ _ _ h => h) (by kernel_rfl) ?hy hHeld ?_
          case hy => (intro w hSw; (try dsimp only at hSw); go_simp; try (with_reducible rfl))
          simp only [Act.put, List.setIfInBounds_toArray, List.set_cons_zero, List.set_cons_succ]
          refine draw_take 11 75 (v := ?_) rfl rfl (by kernel_rfl) (by kernel_rfl) (by kernel_rfl) (fun _ _ _ h => h) (by kernel_rfl) ?hy hHeld ?_
          case hy => (intro w hSw; (try dsimp only at hSw); go_simp; try (with_reducible rfl))
          simp only [Act.put, List.setIfInBounds_toArray, List.set_cons_zero, List.set_cons_succ]
          refine wpAnyH_ready (rs := [12]) (by kernel_rfl) (by simp) ?_
          refine AllReadyH.cons rfl (fun K hK => ?_) AllReadyH.nil
          go_simp
          refine hK.out _ _ (hSof.out _ (bthen hb2 below_box)) (fun hHeld => ?_)
          clear hK K
          try simp only [Act.put, List.setIfInBounds_toArray, List.set_cons_zero, List.set_cons_succ]
          refine wpAnyH_ready (rs := [13]) (by kernel_rfl) (by simp) ?_
          refine AllReadyH.cons rfl (fun K hK => ?_) AllReadyH.nil
          go_simp
          refine hK.out _ _ (hSof.out _ (bthen hb2 below_box)) (fun hHeld => ?_)
          clear hK K
          try simp only [Act.put, List.setIfInBounds_toArray, List.set_cons_zero, List.set_cons_succ]
          refine draw_take 14 15 (v := ?_) rfl rfl (by kernel_rfl) (by kernel_rfl) (by kernel_rfl) (fun _ _ _ h => h) (by kernel_rfl) ?hy hHeld ?_
          case hy => (intro w hSw; (try dsimp only at hSw); go_simp; try (with_reducible rfl))
          simp only [Act.put, List.setIfInBounds_toArray, List.set_cons_zero, List.set_cons_succ]
          refine draw_take 15 16 (v := ?_) rfl rfl (by kernel_rfl) (by kernel_rfl) (by kernel_rfl) (fun _ _ _ h => h) (by kernel_rfl) ?hy hHeld ?_
          case hy => (intro w hSw; (try dsimp only at hSw); go_simp; try (with_reducible rfl))
          simp only [Act.put, List.setIfInBounds_toArray, List.set_cons_zero, List.set_cons_succ]
          refine draw_take 16 17 (v := ?_) rfl rfl (by kernel_rfl) (by kernel_rfl) (by kernel_rfl) (fun _ _ _ h => h) (by kernel_rfl) ?hy hHeld ?_
          case hy => (intro w hSw; (try dsimp only at hSw); go_simp; try (with_reducible rfl))
          simp only [Act.put, List.setIfInBounds_toArray, List.set_cons_zero, List.set_cons_succ]
          refine wpAnyH_done (by kernel_rfl) ?_ _
          go_wp2_with fail
          go_meet
          exact ⟨_, ra, ka, ea, rb, kb, eb, rc, kc, ec, rfl, rfl, OwnL.new _ _ _, hrow.keep below_box, hb2.size, bthen hb2 below_box⟩
        · go_simp
          refine hK.out _ _ (hSof.out _ ((Below.refl _ _).drew.alloc (by simp) _)) (fun hHeld => ?_)
          clear hK K
          try simp only [Act.put, List.setIfInBounds_toArray, List.set_cons_zero, List.set_cons_succ]
          refine wpAnyH_ready (rs := [6]) (by kernel_rfl) (by simp) ?_
          refine AllReadyH.cons rfl (fun K hK => ?_) AllReadyH.nil
          go_simp
          (go_at_call 11; refine (hnw.out _ (HRr.out.keep ((Below.refl _ _).drew.alloc (by simp) _))).mono ?_; rintro e w2 ⟨⟨ra, ka, ea, rb, kb, eb, rc, kc, ec, rfl, hrow⟩, hbq⟩)
          have hb2 : Below wr.heap.size wr w2 := ((Below.refl _ _).drew.alloc (by simp) _).trans (hbq.mono (by simp))
          have ho3 := (OwnL.new wr.drew [.slice none 0 0, .slice none 0 0, .slice none 0 0] 28).keep hbq (by simp)
          simp only [World.size_drew] at ho3
          have HO3 := Lib.hid ho3
          obtain ⟨d0, d1, d2, f0, f1, f2⟩ := own6 ho3
          clear ho3
          go_wp2_with fail
          refine hK.out _ _ (hSof.out _ hb2) (fun hHeld => ?_)
          clear hK K
          try simp only [Act.put, List.setIfInBounds_toArray, List.set_cons_zero, List.set_cons_succ]
          refine draw_take 7 64 (v := ?_) rfl rfl (by kernel_rfl) (by kernel_rfl) (by kernel_rfl) (fun _ _ _ h => h) (by kernel_rfl) ?hy hHeld ?_
          case hy => (intro w hSw; (try dsimp only at hSw); go_simp; try (with_reducible rfl))
          simp only [Act.put, List.setIfInBounds_toArray, List.set_cons_zero, List.set_cons_succ]
          refine draw_take 8 72 (v := ?_) rfl rfl (by kernel_rfl) (by kernel_rfl) (by kernel_rfl) (fun _ _ _ h => h) (by kernel_rfl) ?hy hHeld ?_
          case hy => (intro w hSw; (try dsimp only at hSw); go_simp; try (with_reducible rfl))
          simp only [Act.put, List.setIfInBounds_toArray, List.set_cons_zero, List.set_cons_succ]
          refine draw_take 9 73 (v := ?_) rfl rfl (by kernel_rfl) (by kernel_rfl) (by kernel_rfl) (fun _ _ _ h => h) (by kernel_rfl) ?hy hHeld ?_
          case hy => (intro w hSw; (try dsimp only at hSw); go_simp; try (with_reducible rfl))
          simp only [Act.put, List.setIfInBounds_toArray, List.set_cons_zero, List.set_cons_succ]
          refine draw_take 10 74 (v := ?_) rfl rfl (by kernel_rfl) (by kernel_rfl) (by kernel_rfl) (fun _ _ _ h => h) (by kernel_rfl) ?hy hHeld ?_
          case hy => (intro w hSw; (try dsimp only at hSw); go_simp; try (with_reducible rfl))
          simp only [Act.put, List.setIfInBounds_toArray, List.set_cons_zero, List.set_cons_succ]
          refine draw_take 11 75 (v := ?_) rfl rfl (by kernel_rfl) (by kernel_rfl) (by kernel_rfl) (fun _ _ _ h => h) (by kernel_rfl) ?hy hHeld ?_
          case hy => (intro w hSw; (try dsimp only at hSw); go_simp; try (with_reducible rfl))
          simp only [Act.put, List.setIfInBounds_toArray, List.set_cons_zero, List.set_cons_succ]
          refine wpAnyH_ready (rs := [13]) (by kernel_rfl) (by simp) ?_
          refine AllReadyH.cons rfl (fun K hK => ?_) AllReadyH.nil
          go_simp
          refine hK.out _ _ (hSof.out _ (set3_below hb2 (Nat.le_refl _))) (fun hHeld => ?_)
          clear hK K
          try simp only [Act.put, List.setIfInBounds_toArray, List.set_cons_zero, List.set_cons_succ]
          refine draw_take 14 15 (v := ?_) rfl rfl (by kernel_rfl) (by kernel_rfl) (by kernel_rfl) (fun _ _ _ h => h) (by kernel_rfl) ?hy hHeld ?_
          case hy => (intro w hSw; (try dsimp only at hSw); go_simp; try (with_reducible rfl))
          simp only [Act.put, List.setIfInBounds_toArray, List.set_cons_zero, List.set_cons_succ]
          refine draw_take 15 16 (v := ?_) rfl rfl (by kernel_rfl) (by kernel_rfl) (by kernel_rfl) (fun _ _ _ h => h) (by kernel_rfl) ?hy hHeld ?_
          case hy => (intro w hSw; (try dsimp only at hSw); go_simp; try (with_reducible rfl))
          simp only [Act.put, List.setIfInBounds_toArray, List.set_cons_zero, List.set_cons_succ]
          refine draw_take 16 17 (v := ?_) rfl rfl (by kernel_rfl) (by kernel_rfl) (by kernel_rfl) (fun _ _ _ h => h) (by kernel_rfl) ?hy hHeld ?_
          case hy => (intro w hSw; (try dsimp only at hSw); go_simp; try (with_reducible rfl))
          simp only [Act.put, List.setIfInBounds_toArray, List.set_cons_zero, List.set_cons_succ]
          refine wpAnyH_done (by kernel_rfl) ?_ _
          go_wp2_with fail
          go_meet
          exact ⟨_, ra, ka, ea, rb, kb, eb, rc, kc, ec, rfl, rfl, set3_own HO3.out, hrow.set3 HO3.out _ _ _, Nat.le_refl _, set3_below hb2 (Nat.le_refl _)⟩
      case rest =>
        obtain ⟨N, ra, ka, ea, rb, kb, eb, rc, kc, ec, rfl, rfl, hN, hrow, hge, hbc⟩ := hcut
        have HN := Lib.hid hN
        have HRc := Lib.hid hrow
        have HBc := Lib.hid hbc
        have HX2 := Lib.hid (HX1.out.keep hbc hB1l)
        clear hN hrow hbc y0 y1 y2 z0 z1 z2
        obtain ⟨y0, y1, y2, z0, z1, z2⟩ := own6 HX2.out
        obtain ⟨v0, v1, v2, u0, u1, u2⟩ := own6 HN.out
        by_cases hE0 : E1 = 0
        · subst hE0
          have hN2 := nst_new HNs.out hE1.out
          rw [hx1.out] at hN2
          have HN2 := Lib.hid hN2
          clear hN2
          go_wp2
          go_roundw
          case rel => exact ⟨k + 1, x1, ra, ka, ea, rb, kb, eb, rc, kc, ec, by omega, by go_num, HN2.out, set3_own HX2.out, HRc.out.set3 HX2.out _ _ _, set3_below (bthen HBw.out HBc.out) (by omega)⟩
          case measure => simp [intOf]; omega
        · have hE2 : (E1 == 0) = false := beq_eq_false_iff_ne.2 hE0
          go_wp2
          go_roundw
          case rel => exact ⟨k + 1, x, ta, oa, ua, tb, ob, ub, tc, oc, uc, by omega, by go_num, HNs.out, HX2.out, HRr.out.keep HBc.out, bthen HBw.out HBc.out⟩
          case measure => simp [intOf]; omega
    all_goals
      obtain ⟨hp0, ex, hpl2, hok2⟩ := nst_pop HNs.out
      have hpop := Lib.hid (fun w h => scPop_any ta oa ua tb ob ub tc oc uc x w h)
      rw [hp0, hpl2] at hpop
      have HOk2 := Lib.hid hok2
      clear hp0 hpl2 hok2
      go_wp2_with fail
      refine (hpop.out _ HRr.out).mono ?_
      rintro e4 v4 ⟨⟨sa, ja, ia, sb, jb, ib, sc, jc, ic, rfl, hrow4⟩, hb4⟩
      have HR4 := Lib.hid hrow4
      have HB4 := Lib.hid (bthen HBw.out hb4)
      have HX4 := Lib.hid (HX.out.keep HB4.out hBl)
      obtain rfl : ja = na := by have h1 := hrow4.lens; have h2 := HR.out.lens; simp only at h1; omega
      obtain rfl : jb = nb := by have h1 := hrow4.lens; have h2 := HR.out.lens; simp only at h1; omega
      clear hrow4 hb4 y0 y1 y2 z0 z1 z2
      have hBl4 : B < v4.heap.size := cell_lt (HX4.out.cell 0 _ rfl)
      obtain ⟨y0, y1, y2⟩ := own3c HX4.out
      go_upto_region 17 with fail
      obtain ⟨w5, hw5⟩ : ∃ w5, v4.alloc (.cells #[.slice sa ja ia, .slice sb jb ib, .slice sc jc ic] 28) = w5 := ⟨_, rfl⟩
      have hX5 := OwnL.new v4 [.slice sa ja ia, .slice sb jb ib, .slice sc jc ic] 28
      have hb5 := below_box (w := v4) (o := .cells #[.slice sa ja ia, .slice sb jb ib, .slice sc jc ic] 28)
      replace hX5 : OwnL w5 v4.heap.size [.slice sa ja ia, .slice sb jb ib, .slice sc jc ic] := by rw [← hw5]; exact hX5
      rw [hw5] at hb5 ⊢
      have HR5 := Lib.hid (HR4.out.keep hb5)
      have HB5 := Lib.hid (bthen HB4.out hb5)
      have HX5 := Lib.hid hX5
      obtain ⟨B5, hB5⟩ : ∃ B5, v4.heap.size = B5 := ⟨_, rfl⟩
      rw [hB5] at HX5 hBl4 ⊢
      have hB5l : B5 < w5.heap.size := cell_lt (HX5.out.cell 0 _ rfl)
      have HX6 := Lib.hid (HX.out.keep HB5.out hBl)
      have hBl5 : B < w5.heap.size := cell_lt (HX6.out.cell 0 _ rfl)
      clear hw5 hX5 hb5 hB5 y0 y1 y2 HX4
      go_loopw [20] (fun i W => ∃ j : Nat, j ≤ ni ∧ i = .int .i64 j ∧ Below w5.heap.size w5 W) (fun i _ => ni - (intOf i).toNat)
      case atStart => exact ⟨0, by omega, rfl, Below.refl _ _⟩
      case round =>
        obtain ⟨j, hj, rfl, hb⟩ := hrel
        have HXa := Lib.hid (HX6.out.keep hb hBl5)
        have HXb := Lib.hid (HX5.out.keep hb hB5l)
        have HRa := Lib.hid (HR.out.keep (bthen HB5.out hb))
        have HRb := Lib.hid (HR5.out.keep hb)
        have HIa := Lib.hid (HI.out.keep (bthen HB5.out hb))
        have HQa := Lib.hid (HQ.out.keep (bthen HB5.out hb))
        have HBr := Lib.hid hb
        obtain ⟨x0, x1, x2⟩ := own3c HXa.out
        obtain ⟨v0, v1, v2⟩ := own3c HXb.out
        clear hb
        by_cases hlt : j < ni
        · have hlt2 : (j : Int) < ni := by omega
          obtain ⟨pr, b, off, hx, rfl, p0, p1⟩ := pair_at HIa.out hlt
          obtain ⟨r, b2, off2, hr2, rfl, r0⟩ := HQa.out.at_ (show j < nr from by have := HPl.out.len; omega)
          have hj0 : (0 : Int) ≤ j := Int.natCast_nonneg _
          have hnr2 : (j : Int) < nr := by have := HPl.out.len; omega
          rw [pairs_get] at hx
          obtain ⟨i1, hi1⟩ : ∃ i1, l.is[j]? = some i1 := ⟨_, List.getElem?_eq_getElem (by omega)⟩
          rw [hi1] at hx
          obtain rfl : (i1, ((0 + j : Nat) : Int) + 1) = pr := Option.some.inj hx
          simp only [Nat.zero_add] at p0 p1
          have HG := Lib.hid (get_issued HPl.out hi1)
          have HF := Lib.hid (nst_find HPl.out.ok HOk2.out (iss_pair hi1))
          obtain ⟨F, hF⟩ : ∃ F, Hid (findV l i1 ((j : Int) + 1) = F) := ⟨_, Lib.hid rfl⟩
          obtain ⟨V, hV⟩ : ∃ V, Hid (getV l i1 ((j : Int) + 1) = V) := ⟨_, Lib.hid rfl⟩
          have hg := Lib.hid (fun W (h : W.cell? ⟨B, 0, none⟩ = some (.slice pa ja ca) ∧ W.cell? ⟨B, 1, none⟩ = some (.slice pb jb cb) ∧ W.cell? ⟨B, 2, none⟩ = some (.slice pc nc cc) ∧ W.cell? ⟨b, off + j * 2, none⟩ = some (.int .i64 i1) ∧ W.cell? ⟨b, off + j * 2 + 1, none⟩ = some (.int .i64 ((j : Int) + 1)) ∧ Below wr.heap.size wr W) => scGet_heldN pa ja ca pb jb cb pc nc cc l i1 ((j : Int) + 1) h HRa.out)
          have hg2 := Lib.hid (fun W (h : W.cell? ⟨B5, 0, none⟩ = some (.slice sa ja ia) ∧ W.cell? ⟨B5, 1, none⟩ = some (.slice sb jb ib) ∧ W.cell? ⟨B5, 2, none⟩ = some (.slice sc jc ic) ∧ W.cell? ⟨b, off + j * 2, none⟩ = some (.int .i64 i1) ∧ W.cell? ⟨b, off + j * 2 + 1, none⟩ = some (.int .i64 ((j : Int) + 1)) ∧ Below wr.heap.size wr W) => scGet_heldN sa ja ia sb jb ib sc jc ic ⟨l.sl, l.sc, l.is ++ ex⟩ i1 ((j : Int) + 1) h HRb.out)
          rw [hF.out, hV.out] at hg
          rw [HF.out.1, HF.out.2, hF.out, hV.out] at hg2
          have HD : F = 0 ∧ V = r ∨ F = 7 ∨ F = 8 := by
            rcases HG.out with ⟨h1, h2⟩ | h1 | h1
            · refine .inl ⟨hF.out.symm.trans h1, ?_⟩
              rw [hr2] at h2
              exact (hV.out.symm.trans (Option.some.inj h2).symm)
            · exact .inr (.inl (hF.out.symm.trans h1))
            · exact .inr (.inr (hF.out.symm.trans h1))
          clear hx hi1 HG HF hr2
          rcases HD with ⟨rfl, rfl⟩ | rfl | rfl
          all_goals
            go_upto_region 19 with fail
            go_region_held3 (fun w' => w'.cell? ⟨B, 0, none⟩ = some (.slice pa ja ca) ∧ w'.cell? ⟨B, 1, none⟩ = some (.slice pb jb cb) ∧ w'.cell? ⟨B, 2, none⟩ = some (.slice pc nc cc) ∧ w'.cell? ⟨b, off + j * 2, none⟩ = some (.int .i64 i1) ∧ w'.cell? ⟨b, off + j * 2 + 1, none⟩ = some (.int .i64 ((j : Int) + 1)) ∧ Below wr.heap.size wr w')
              (first | exact ⟨x0, x1, x2, p0, p1, Below.drew (Below.refl _ _)⟩ | (exact held5_keep ‹_› hbq) | assumption)
              ((go_at_call 13; refine (hg.out _ ?_).mono ?_; (assumption); rintro e w' ⟨rfl, hbq⟩))
            rename_i hH
            have hb6 := hH.2.2.2.2.2
            have t0 := cell_keep hb6 v0
            have t1 := cell_keep hb6 v1
            have t2 := cell_keep hb6 v2
            have p2 := cell_keep hb6 p0
            have p3 := cell_keep hb6 p1
            have r1 := cell_keep hb6 r0
            clear hH
            go_upto_region 20 with fail
            go_region_held3 (fun w' => w'.cell? ⟨B5, 0, none⟩ = some (.slice sa ja ia) ∧ w'.cell? ⟨B5, 1, none⟩ = some (.slice sb jb ib) ∧ w'.cell? ⟨B5, 2, none⟩ = some (.slice sc jc ic) ∧ w'.cell? ⟨b, off + j * 2, none⟩ = some (.int .i64 i1) ∧ w'.cell? ⟨b, off + j * 2 + 1, none⟩ = some (.int .i64 ((j : Int) + 1)) ∧ Below wr.heap.size wr w')
              (first | exact ⟨t0, t1, t2, p2, p3, Below.drew hb6⟩ | (exact held5_keep ‹_› hbq) | assumption)
              ((go_at_call 13; refine (hg2.out _ ?_).mono ?_; (assumption); rintro e w' ⟨rfl, hbq⟩))
            rename_i hH
            have hb7 := hH.2.2.2.2.2
            have r2 := cell_keep hb7 r0
            have hB8 := bthen HBr.out hb7
            clear hH
            go_wp2
            go_roundw
            case rel => exact ⟨j + 1, by omega, by go_num, hB8⟩
            case measure => simp [intOf]; omega
        · obtain rfl : j = ni := by omega
          go_wp2_with fail
          refine (awake14 _).mono ?_
          rintro e v6 ⟨rfl, hb6⟩
          go_wp2
          go_ret
          exact ⟨rfl, bthen (bthen (bthen HB.out HB5.out) HBr.out) hb6⟩
end Go.Proofs.Ytapfbnhcndifhaa
