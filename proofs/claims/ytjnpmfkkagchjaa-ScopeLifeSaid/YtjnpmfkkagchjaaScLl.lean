/- The law ScopeLife of layer 14. -/
import Derived.Test.YtjnpmfkkagchjaaScPz
import Derived.Test.YtjnpmfkkagchjaaScPa
import Derived.Test.YtjnpmfkkagchjaaScJ
import Derived.Test.YtjnpmfkkagchjaaScF
import Derived.Test.YtjnpmfkkagchjaaScEq
set_option linter.unusedVariables false
set_option linter.unusedSimpArgs false
namespace Go.Proofs.Ytjnpmfkkagchjaa
open Go.RowKit
attribute [local go_sem] eq_pair

theorem scGet_held {B b1 o1 o2 : Nat} {a b c d e : Value} {w0 w : World} (pa : Option Addr) (na ca : Nat) (pb : Option Addr) (nb cb : Nat) (pc : Option Addr) (nc cc : Nat) (l : Loc) (i st : Int) (h : w.cell? ⟨B, 0, none⟩ = some a ∧ w.cell? ⟨B, 1, none⟩ = some b ∧ w.cell? ⟨B, 2, none⟩ = some c ∧ w.cell? ⟨b1, o1, none⟩ = some d ∧ w.cell? ⟨b1, o2, none⟩ = some e ∧ Below w0.heap.size w0 w) (hr : LRow w0 pa na ca pb nb cb pc nc cc l) :
    Calls Try.prog 27 #[.agg #[.slice pa na ca, .slice pb nb cb, .slice pc nc cc], .int .i64 i, .int .i64 st] w fun e w' => e = .returned (.tuple #[.int .u64 (getV l i st), .int .i64 (findV l i st)]) ∧ Below w.heap.size w w' :=
  scGet_any pa na ca pb nb cb pc nc cc l i st w (hr.keep h.2.2.2.2.2)

set_option maxRecDepth 100000 in
set_option maxHeartbeats 6400000 in
theorem lawLife (p : Option Addr) (n cap : Nat) (ac : List Ac) (ix st : Int) (w : World) (hr : VRow w 4 p n cap (ac.flatMap acC)) :
    Calls Try.prog 6 #[.slice p n cap, .int .i64 ix, .int .i64 st] w fun e w' => e = .returned (.bool true) ∧ Below w.heap.size w w' := by
  have hp := Lib.hid (play_any p n cap ac w hr)
  clear hr
  go_enter Try.func6, Try.ntmps6
  go_wp2_with fail
  refine hp.out.mono ?_
  rintro e v ⟨⟨l, rs, pa, na, ca, pb, nb, cb, pc, nc, cc, qi, ni, ci, qr, nr, cr, rfl, hpl, hrow, hI, hR⟩, hb⟩
  have HPl := Lib.hid hpl
  have hni : l.is.length = ni := by
    have h1 := hI.len
    rw [flat_len _ 2 prC_len, pairs_len] at h1
    omega
  have hnr : rs.length = nr := hR.len
  have hrl : rs.length = l.is.length := hpl.len
  have hle := pl_is hpl
  have hni63 : (ni : Int) ≤ 4096 := by omega
  go_wp2
  obtain ⟨w1, hw1⟩ : ∃ w1, v.alloc (.cells #[.slice pa na ca, .slice pb nb cb, .slice pc nc cc] 26) = w1 := ⟨_, rfl⟩
  have hX := OwnL.new v [.slice pa na ca, .slice pb nb cb, .slice pc nc cc] 26
  have hb1 := below_box (w := v) (o := .cells #[.slice pa na ca, .slice pb nb cb, .slice pc nc cc] 26)
  replace hX : OwnL w1 v.heap.size [.slice pa na ca, .slice pb nb cb, .slice pc nc cc] := by rw [← hw1]; exact hX
  rw [hw1] at hb1 ⊢
  have HR := Lib.hid (hrow.keep hb1)
  have HI := Lib.hid (hI.keep hb1)
  have HQ := Lib.hid (hR.keep hb1)
  have HB := Lib.hid (bthen hb hb1)
  have HX := Lib.hid hX
  obtain ⟨B, hB⟩ : ∃ B, v.heap.size = B := ⟨_, rfl⟩
  rw [hB] at HX ⊢
  have hBl : B < w1.heap.size := cell_lt (HX.out.cell 0 _ rfl)
  clear hw1 hX hb1 hrow hI hR hb hB hpl hp hrl hle
  go_loopw [11, 12, 13] (fun kn al i wr => ∃ k : Nat, k ≤ ni ∧ kn = .bool (decide ((ix, st) ∈ (pairsFrom 0 l.is).take k)) ∧ al = .int .i64 (aliveV l k) ∧ aliveV l k ≤ k ∧ i = .int .i64 k ∧ Below w1.heap.size w1 wr) (fun _ _ i _ => ni - (intOf i).toNat)
  case atStart => exact ⟨0, by omega, by simp, rfl, by simp [aliveV], rfl, Below.refl _ _⟩
  case round =>
    obtain ⟨k, hk, rfl, rfl, hal, rfl, hb⟩ := hrel
    have HX2 := Lib.hid (HX.out.keep hb hBl)
    have HR2 := Lib.hid (HR.out.keep hb)
    have HI2 := Lib.hid (HI.out.keep hb)
    have HQ2 := Lib.hid (HQ.out.keep hb)
    have HBr := Lib.hid hb
    obtain ⟨x0, x1, x2⟩ := own3c HX2.out
    clear hb
    by_cases hlt : k < ni
    · have hlt2 : (k : Int) < ni := by omega
      obtain ⟨x, b, off, hx, rfl, p0, p1⟩ := pair_at HI2.out hlt
      obtain ⟨r, b2, off2, hr2, rfl, r0⟩ := HQ2.out.at_ (show k < nr from by have := HPl.out.len; omega)
      have hk0 : (0 : Int) ≤ k := Int.natCast_nonneg _
      have hnr2 : (k : Int) < nr := by have := HPl.out.len; omega
      rw [pairs_get] at hx
      obtain ⟨i1, hi1⟩ : ∃ i1, l.is[k]? = some i1 := ⟨_, List.getElem?_eq_getElem (by omega)⟩
      rw [hi1] at hx
      obtain rfl : (i1, ((0 + k : Nat) : Int) + 1) = x := Option.some.inj hx
      simp only [Nat.zero_add] at p0 p1
      have HG := Lib.hid (get_issued HPl.out hi1)
      obtain ⟨F, hF⟩ : ∃ F, Hid (findV l i1 ((k : Int) + 1) = F) := ⟨_, Lib.hid rfl⟩
      obtain ⟨V, hV⟩ : ∃ V, Hid (getV l i1 ((k : Int) + 1) = V) := ⟨_, Lib.hid rfl⟩
      have hg := Lib.hid (fun W (h : W.cell? ⟨B, 0, none⟩ = some (.slice pa na ca) ∧ W.cell? ⟨B, 1, none⟩ = some (.slice pb nb cb) ∧ W.cell? ⟨B, 2, none⟩ = some (.slice pc nc cc) ∧ W.cell? ⟨b, off + k * 2, none⟩ = some (.int .i64 i1) ∧ W.cell? ⟨b, off + k * 2 + 1, none⟩ = some (.int .i64 ((k : Int) + 1)) ∧ Below wr.heap.size wr W) => scGet_held pa na ca pb nb cb pc nc cc l i1 ((k : Int) + 1) h HR2.out)
      rw [hF.out, hV.out] at hg
      have HA := Lib.hid (show aliveV l (k + 1) = aliveV l k + if F = 0 then 1 else 0 from by rw [aliveV, hi1]; simp only [Option.getD_some]; rw [← hF.out])
      have HPr := Lib.hid (show (pairsFrom 0 l.is)[k]? = some (i1, (k : Int) + 1) from by rw [pairs_get, hi1]; simp)
      have HD : F = 0 ∧ V = r ∨ F = 7 ∨ F = 8 := by
        rcases HG.out with ⟨h1, h2⟩ | h1 | h1
        · refine .inl ⟨hF.out.symm.trans h1, ?_⟩
          rw [hr2] at h2
          exact (hV.out.symm.trans (Option.some.inj h2).symm)
        · exact .inr (.inl (hF.out.symm.trans h1))
        · exact .inr (.inr (hF.out.symm.trans h1))
      have HKn := Lib.hid (show decide ((ix, st) ∈ (pairsFrom 0 l.is).take (k + 1)) = (decide ((ix, st) ∈ (pairsFrom 0 l.is).take k) || decide (i1 = ix ∧ (k : Int) + 1 = st)) from by
        rw [List.take_add_one, HPr.out]
        simp [eq_comm])
      obtain ⟨KB, hKB⟩ : ∃ KB, Hid (decide ((ix, st) ∈ (pairsFrom 0 l.is).take k) = KB) := ⟨_, Lib.hid rfl⟩
      rw [hKB.out]
      rw [hKB.out] at HKn
      clear hx hi1 HG hr2
      rcases HD with ⟨rfl, rfl⟩ | rfl | rfl
      all_goals
        cases KB
        all_goals
          go_upto_region 9 with fail
          go_region_held3 (fun w' => w'.cell? ⟨B, 0, none⟩ = some (.slice pa na ca) ∧ w'.cell? ⟨B, 1, none⟩ = some (.slice pb nb cb) ∧ w'.cell? ⟨B, 2, none⟩ = some (.slice pc nc cc) ∧ w'.cell? ⟨b, off + k * 2, none⟩ = some (.int .i64 i1) ∧ w'.cell? ⟨b, off + k * 2 + 1, none⟩ = some (.int .i64 ((k : Int) + 1)) ∧ Below wr.heap.size wr w')
            (first | exact ⟨x0, x1, x2, p0, p1, Below.drew (Below.refl _ _)⟩ | (exact held5_keep ‹_› hbq) | assumption)
            ((go_at_call 27; refine (hg.out _ ?_).mono ?_; (assumption); rintro e w' ⟨rfl, hbq⟩))
          rename_i hH
          have hB4 := bthen HBr.out hH.2.2.2.2.2
          have r1 := cell_keep hH.2.2.2.2.2 r0
          obtain ⟨-, -, -, p2, p3, -⟩ := hH
          have hni2 : k < ni := hlt
          go_wp2
          go_loopw [16] (fun j W => ∃ m : Nat, m ≤ k ∧ j = .int .i64 m ∧ Below w1.heap.size w1 W) (fun j _ => k - (intOf j).toNat)
          case atStart => exact ⟨0, by omega, rfl, hB4⟩
          case round =>
            obtain ⟨m, hm, rfl, hb5⟩ := hrel
            by_cases hlm : m < k
            · have hlm2 : (m : Int) < k := by omega
              have hm0 : (0 : Int) ≤ m := Int.natCast_nonneg _
              have hmn : (m : Int) < ni := by omega
              obtain ⟨y, b', off', hy, hpp, s0, s1⟩ := pair_at (HI.out.keep hb5) (show m < ni by omega)
              cases hpp
              obtain ⟨z, b'', off'', hz, hpp, t0, t1⟩ := pair_at (HI.out.keep hb5) hlt
              cases hpp
              have hne := pairs_apart hy hz hlm
              have hbf : (y.1 == z.1 && y.2 == z.2) = false := by simp [hne]
              have HB5 := Lib.hid hb5
              clear hy hz hb5
              obtain ⟨ya, yb⟩ := y
              obtain ⟨za, zb⟩ := z
              simp only at s0 s1 t0 t1 hbf
              go_wp2
              go_region
              go_wp2
              go_roundw
              case rel => exact ⟨m + 1, by omega, by go_num, HB5.out.drew⟩
              case measure => simp [intOf]; omega
            · go_wp2
              go_roundw
              case rel => exact ⟨k + 1, by omega, by rw [HKn.out]; simp [Bool.beq_eq_decide_eq], by rw [HA.out]; go_num, by rw [HA.out]; simp; try omega, by go_num, hb5⟩
              case measure => simp [intOf]; omega
    · obtain rfl : k = ni := by omega
      have hT : (pairsFrom 0 l.is).take k = pairsFrom 0 l.is := List.take_of_length_le (by rw [pairs_len]; omega)
      obtain ⟨C, hC⟩ : ∃ C, Hid (cnt l.sl = C) := ⟨_, Lib.hid rfl⟩
      have hAl : aliveV l k = C := by rw [← hC.out, ← alive_all HPl.out, hni]
      have HM := Lib.hid (show (refsV l).length = C from by unfold refsV; rw [if_pos HPl.out.ok, refsOf_len, hC.out])
      obtain ⟨KB, hKB⟩ : ∃ KB, Hid (decide ((ix, st) ∈ (pairsFrom 0 l.is).take k) = KB) := ⟨_, Lib.hid rfl⟩
      obtain ⟨F, hF⟩ : ∃ F, Hid (findV l ix st = F) := ⟨_, Lib.hid rfl⟩
      have hFK : KB = true ∨ KB = false ∧ F = 6 := by
        cases hk2 : KB
        · refine .inr ⟨rfl, ?_⟩
          have h1 := hKB.out
          rw [hk2, hT] at h1
          exact hF.out.symm.trans (get_forged HPl.out (of_decide_eq_false h1))
        · exact .inl rfl
      rw [hKB.out, hAl]
      have hg := Lib.hid (scGet_any pa na ca pb nb cb pc nc cc l ix st wr HR2.out)
      rw [hF.out] at hg
      clear hT hAl hal hlt hk
      have hk63 : (k : Int) ≤ 4096 := hni63
      rcases hFK with rfl | ⟨rfl, rfl⟩
      all_goals
        go_wp2_with fail
        refine hg.out.mono ?_
        rintro e v2 ⟨rfl, hb2⟩
        have HR3 := Lib.hid (HR2.out.keep hb2)
        have h0 := cell_keep hb2 x0
        have h1 := cell_keep hb2 x1
        have h2 := cell_keep hb2 x2
        have HB2 := Lib.hid (bthen HBr.out hb2)
        clear hb2 x0 x1 x2
        go_wp2_with fail
        refine (awake14 _).mono ?_
        rintro e v3 ⟨rfl, hb3⟩
        have HR4 := Lib.hid (HR3.out.keep hb3)
        have g0 := cell_keep hb3 h0
        have g1 := cell_keep hb3 h1
        have g2 := cell_keep hb3 h2
        have HB3 := Lib.hid (bthen HB2.out hb3)
        clear hb3 h0 h1 h2
        go_wp2_with fail
        refine (scRefs_any pa na ca pb nb cb pc nc cc l _ HR4.out).mono ?_
        rintro e v4 ⟨⟨qR, mR, cR, rfl, hqR⟩, hb4⟩
        obtain rfl : mR = C := hqR.len.symm.trans HM.out
        go_wp2
        go_ret
        exact ⟨rfl, HB.out.trans ((bthen HB3.out hb4).mono HB.out.size)⟩
end Go.Proofs.Ytjnpmfkkagchjaa
