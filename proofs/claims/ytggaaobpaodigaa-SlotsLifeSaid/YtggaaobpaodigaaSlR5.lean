/- The block of SlotsLife that looks at all pairs that were issued. -/
import Derived.Test.YtggaaobpaodigaaSlR0
import Derived.Test.YtggaaobpaodigaaSlZ
import Derived.Test.YtggaaobpaodigaaDraw
import Derived.ChangeKeysEq
import Derived.Deep.DeepCutAuto
set_option linter.unusedVariables false
set_option linter.unusedSimpArgs false
namespace Go.Proofs.Ytggaaobpaodigaa
open Go.RowKit

set_option maxRecDepth 20000 in
theorem eq_pair15 (w : World) (a b c d : Int) : (Op.equalIn 10000 35 (.agg #[.int .i64 a, .int .i64 b]) (.agg #[.int .i64 c, .int .i64 d])).run Try.prog w = .ok (a == c && b == d) w := by
  have hu : Try.prog.underlying 35 = some (.array 2 3) := by kernel_rfl
  have hi : Try.prog.underlying 3 = some (.int .i64) := by kernel_rfl
  have hc : Try.prog.cellsOf 3 = 1 := by kernel_rfl
  have e : ∀ x y : Int, (Op.equalIn 9999 3 (.int .i64 x) (.int .i64 y)).run Try.prog w = .ok (x == y) w := fun x y => run_equalIn_int (P := Try.prog) w 9998 3 .i64 .i64 x y hi
  obtain ⟨i, hin⟩ : ∃ i, Try.prog.info? 3 = some i := by
    cases h : Try.prog.info? 3 with
    | none => have := infoInt; rw [h] at this; cases this
    | some i => exact ⟨i, rfl⟩
  have h := run_equalIn_array (P := Try.prog) w 9999 #[.int .i64 a, .int .i64 b] #[.int .i64 c, .int .i64 d] hu hin
  refine h.trans ?_
  rw [hc, show List.range 2 = [0, 1] from rfl]
  generalize hD : (9999 : Nat) = D at e ⊢
  clear h hD
  have p0 : ∀ x y : Int, ((Go.part 3 #[.int .i64 x, .int .i64 y] (0 * 1)).run Try.prog w) = .ok (.int .i64 x) w := fun x y => by kernel_rfl
  have p1 : ∀ x y : Int, ((Go.part 3 #[.int .i64 x, .int .i64 y] (1 * 1)).run Try.prog w) = .ok (.int .i64 y) w := fun x y => by kernel_rfl
  simp only [Op.eqItems, Sem.run_bind, p0, e, Result.andThen_ok]
  cases h1 : (a == c)
  · simp
  · simp only [Bool.not_true, Bool.false_eq_true, if_false, Sem.run_bind, p1, e, Result.andThen_ok]
    cases h2 : (b == d) <;> simp
attribute [local go_sem] eq_pair15

theorem get15_held {B b1 o1 o2 : Nat} {a d e : Value} {w0 w : World} (p : Option Addr) (n c : Nat) (t : List En) (i q : Int) (h : w.cell? ⟨B, 0, none⟩ = some a ∧ w.cell? ⟨b1, o1, none⟩ = some d ∧ w.cell? ⟨b1, o2, none⟩ = some e ∧ Below w0.heap.size w0 w) (hr : VRow w0 3 p n c (t.flatMap enC)) (hwf : WfT t) :
    Calls Try.prog 7 #[.agg #[.slice p n c], .int .i64 i, .int .i64 q] w fun e w' => e = .returned (.tuple #[.int .u64 (getT t i q), .int .i64 (findE t i q)]) ∧ Below w.heap.size w w' :=
  slGet_any p n c t i q w (hr.keep h.2.2.2) hwf
theorem held3p_keep {B b1 o1 o2 : Nat} {a d e : Value} {w0 w w' : World} (h : w.cell? ⟨B, 0, none⟩ = some a ∧ w.cell? ⟨b1, o1, none⟩ = some d ∧ w.cell? ⟨b1, o2, none⟩ = some e ∧ Below w0.heap.size w0 w) (hb : Below w.heap.size w w') :
    w'.cell? ⟨B, 0, none⟩ = some a ∧ w'.cell? ⟨b1, o1, none⟩ = some d ∧ w'.cell? ⟨b1, o2, none⟩ = some e ∧ Below w0.heap.size w0 w' := ⟨cell_keep hb h.1, cell_keep hb h.2.1, cell_keep hb h.2.2.1, bthen h.2.2.2 hb⟩

set_option maxRecDepth 100000 in
set_option maxHeartbeats 6400000 in
theorem blk3 {Q : Exit → Act → World → Prop} (hP : ∀ c (a : Act) d v W, Q (.panic c) (a.put d v) W → Q (.panic c) a W) {w wc : World} {B0 BT L1 : Nat} {pt : Option Addr} {nt ct : Nat} {t1 : List En} {ai : Option Addr} {bi : Nat} {i1 : List (Int × Int)} {ar : Option Addr} {br : Nat} {r1 : List Int} {ag : Option Addr} {bg : Nat} {g1 : List Bool} (hL63 : (L1 : Int) ≤ 121) (HLe : Hid (LS w wc B0 BT pt nt ct t1 ai L1 bi i1 ar L1 br r1 ag L1 bg g1)) (HFe : Hid (Lf t1 i1 r1 g1))
    {u0 u1 u2 u7 u8 u9 u10 u11 u12 u13 u14 u15 u16 u17 u19 u20 u21 u22 u23 u24 u25 u26 u27 u28 u29 u30 u31 u32 u33 u34 u35 u36 u37 u38 u39 u40 u41 u42 u43 u44 u45 u46 u47 u48 u49 u50 u51 u52 u53 u54 u55 u56 u57 u58 u59 u60 u61 u62 u63 u64 u65 u66 u67 u68 u69 u70 u71 u72 u73 u74 u75 u76 u77 u78 u79 u80 u81 u82 u83 u84 u85 u86 u87 u88 u89 u90 u91 u92 u93 u94 u95 u96 u97 u98 u99 u100 u101 u102 u103 u104 u105 u106 u107 u108 u109 u110 u111 u112 u113 u114 u115 u116 u117 u118 u119 u120 u121 u122 u123 u124 u125 u126 u127 u128 u129 u130 u131 u132 u133 u134 u135 u136 u137 u138 u139 u140 u141 u142 u143 u144 u145 u146 u147 u148 u149 u150 u151 u152 u153 u154 u155 u156 u157 u158 u159 u160 u161 u162 u163 u164 u165 u166 u167 u168 u169 u170 u171 u172 u173 u174 u175 u176 u177 u178 u179 u180 u181 u182 u183 u184 u185 u186 u187 u188 u189 u190 u191 u192 u193 u194 u195 u196 u197 u198 u199 u200 u201 u202 u203 u204 u205 u206 u207 u208 u209 u210 u211 u212 u213 u214 u215 u216 u217 u218 u219 u220 u221 u222 u223 u224 u225 u226 u227 u228 u229 u230 u231 u232 u233 u234 u235 u236 : Value}
    (hK : ∀ W : World, LS w W B0 BT pt nt ct t1 ai L1 bi i1 ar L1 br r1 ag L1 bg g1 → ∀ (v2 v19 v20 v166 v167 v168 v169 v170 v171 v172 v173 v174 v175 v176 v177 v178 v179 v180 v181 v182 v183 v184 v185 v186 v187 v188 v189 v190 v191 v192 v193 v194 v195 v196 v197 v198 v199 v200 v201 v202 v203 v204 v205 v206 v207 v208 v209 v210 v211 v212 v213 v214 v215 v216 v217 v218 v219 v220 v221 v222 v223 v224 v225 v226 v227 v228 v229 v230 v231 : Value), Q .normal ⟨#[u0, u1, v2, .pointer (some ⟨BT, 0, none⟩), .slice ai L1 bi, .slice ar L1 br, .slice ag L1 bg, u7, u8, u9, u10, u11, u12, u13, u14, u15, u16, u17, .int .i64 L1, v19, v20, u21, u22, u23, u24, u25, u26, u27, u28, u29, u30, u31, u32, u33, u34, u35, u36, u37, u38, u39, u40, u41, u42, u43, u44, u45, u46, u47, u48, u49, u50, u51, u52, u53, u54, u55, u56, u57, u58, u59, u60, u61, u62, u63, u64, u65, u66, u67, u68, u69, u70, u71, u72, u73, u74, u75, u76, u77, u78, u79, u80, u81, u82, u83, u84, u85, u86, u87, u88, u89, u90, u91, u92, u93, u94, u95, u96, u97, u98, u99, u100, u101, u102, u103, u104, u105, u106, u107, u108, u109, u110, u111, u112, u113, u114, u115, u116, u117, u118, u119, u120, u121, u122, u123, u124, u125, u126, u127, u128, u129, u130, u131, u132, u133, u134, u135, u136, u137, u138, u139, u140, u141, u142, u143, u144, u145, u146, u147, u148, u149, u150, u151, u152, u153, u154, u155, u156, u157, u158, u159, u160, u161, u162, u163, u164, u165, v166, v167, v168, v169, v170, v171, v172, v173, v174, v175, v176, v177, v178, v179, v180, v181, v182, v183, v184, v185, v186, v187, v188, v189, v190, v191, v192, v193, v194, v195, v196, v197, v198, v199, v200, v201, v202, v203, v204, v205, v206, v207, v208, v209, v210, v211, v212, v213, v214, v215, v216, v217, v218, v219, v220, v221, v222, v223, v224, v225, v226, v227, v228, v229, v230, v231, u232, u233, u234, u235, u236], []⟩ W) :
    Code.wp Try.prog (blkL 3) Q ⟨#[u0, u1, u2, .pointer (some ⟨BT, 0, none⟩), .slice ai L1 bi, .slice ar L1 br, .slice ag L1 bg, u7, u8, u9, u10, u11, u12, u13, u14, u15, u16, u17, .int .i64 0, u19, u20, u21, u22, u23, u24, u25, u26, u27, u28, u29, u30, u31, u32, u33, u34, u35, u36, u37, u38, u39, u40, u41, u42, u43, u44, u45, u46, u47, u48, u49, u50, u51, u52, u53, u54, u55, u56, u57, u58, u59, u60, u61, u62, u63, u64, u65, u66, u67, u68, u69, u70, u71, u72, u73, u74, u75, u76, u77, u78, u79, u80, u81, u82, u83, u84, u85, u86, u87, u88, u89, u90, u91, u92, u93, u94, u95, u96, u97, u98, u99, u100, u101, u102, u103, u104, u105, u106, u107, u108, u109, u110, u111, u112, u113, u114, u115, u116, u117, u118, u119, u120, u121, u122, u123, u124, u125, u126, u127, u128, u129, u130, u131, u132, u133, u134, u135, u136, u137, u138, u139, u140, u141, u142, u143, u144, u145, u146, u147, u148, u149, u150, u151, u152, u153, u154, u155, u156, u157, u158, u159, u160, u161, u162, u163, u164, u165, u166, u167, u168, u169, u170, u171, u172, u173, u174, u175, u176, u177, u178, u179, u180, u181, u182, u183, u184, u185, u186, u187, u188, u189, u190, u191, u192, u193, u194, u195, u196, u197, u198, u199, u200, u201, u202, u203, u204, u205, u206, u207, u208, u209, u210, u211, u212, u213, u214, u215, u216, u217, u218, u219, u220, u221, u222, u223, u224, u225, u226, u227, u228, u229, u230, u231, u232, u233, u234, u235, u236], []⟩ wc := by
  conv => arg 2; whnf
  have HK := Lib.hid hK
  have HP := Lib.hid hP
  clear hK hP
  go_wp2_with fail
  go_loopw [18] (fun i W => ∃ m : Nat, m ≤ L1 ∧ i = .int .i64 m ∧ Below wc.heap.size wc W) (fun i _ => L1 - (RowKit.intOf i).toNat)
  case atStart => exact ⟨0, by omega, rfl, Below.refl _ _⟩
  case round =>
    obtain ⟨m, hm, rfl, hbm⟩ := hrel
    have HLm := Lib.hid (HLe.out.keep hbm)
    have HBm := Lib.hid hbm
    have hm0 : (0 : Int) ≤ m := Int.natCast_nonneg _
    clear hbm
    by_cases hmL : m < L1
    · have hm2 : (m : Int) < L1 := by omega
      obtain ⟨ii, gg, ib, hpx, rfl, j0, j1⟩ := HLm.out.pair hmL
      obtain ⟨rr, rb, hrx, rfl, r0, -⟩ := HLm.out.ref hmL
      obtain ⟨fx, fb, hfx, rfl, f0, -⟩ := HLm.out.flag hmL
      have T0 := HLm.out.box.cell 0 _ rfl
      have HRT := Lib.hid (vrowS HLm.out.T)
      obtain ⟨F, hF⟩ : ∃ F, Hid (findE t1 ii gg = F) := ⟨_, Lib.hid rfl⟩
      obtain ⟨V, hV⟩ : ∃ V, Hid (getT t1 ii gg = V) := ⟨_, Lib.hid rfl⟩
      have hg := Lib.hid (fun W' (h : W'.cell? ⟨BT, 0, none⟩ = some (.slice pt nt ct) ∧ W'.cell? ⟨ib, m * 2, none⟩ = some (.int .i64 ii) ∧ W'.cell? ⟨ib, m * 2 + 1, none⟩ = some (.int .i64 gg) ∧ Below wr.heap.size wr W') => get15_held pt nt ct t1 ii gg h HRT.out HFe.out.wf)
      rw [hF.out, hV.out] at hg
      have HD : (fx = false ∧ F = 0 ∧ V = rr) ∨ (fx = true ∧ F = 8) := by
        cases fx with
        | true => exact .inr ⟨rfl, hF.out.symm.trans (HFe.out.dead hpx hfx)⟩
        | false =>
          obtain ⟨h1, h2, -⟩ := HFe.out.live hpx hfx
          rw [hrx] at h2
          exact .inl ⟨rfl, hF.out.symm.trans h1, hV.out.symm.trans (Option.some.inj h2).symm⟩
      obtain ⟨Z, hZ⟩ : ∃ Z : Nat, (L1 : Int) - 1 = Z := ⟨L1 - 1, by omega⟩
      obtain ⟨i9, g9, ib9, hpz, e9, z0, z1⟩ := HLm.out.pair (show Z < L1 by omega)
      obtain rfl : ib = ib9 := by cases e9; rfl
      have hNe : m < Z → (ii == i9 && gg == g9) = false := by
        intro hlt
        cases hh : (ii == i9 && gg == g9) with
        | false => rfl
        | true =>
          simp only [Bool.and_eq_true, beq_iff_eq] at hh
          have := HFe.out.ne m Z (ii, gg) hpx (by rw [hpz, hh.1, hh.2])
          omega
      have HNe := Lib.hid hNe
      clear hrx hfx hpx hpz e9 hNe
      rcases HD with ⟨rfl, rfl, rfl⟩ | ⟨rfl, rfl⟩
      all_goals
        go_upto_region 35 with fail
        refine wp_region_held_drew (S := fun W' => W'.cell? ⟨BT, 0, none⟩ = some (.slice pt nt ct) ∧ W'.cell? ⟨ib, m * 2, none⟩ = some (.int .i64 ii) ∧ W'.cell? ⟨ib, m * 2 + 1, none⟩ = some (.int .i64 gg) ∧ Below wr.heap.size wr W') (by kernel_rfl) ⟨T0, j0, j1, Below.drew (Below.refl _ _)⟩ (fun hHeld => ?_)
        refine draw_take 0 173 (v := ?_) rfl rfl (by kernel_rfl) (by kernel_rfl) (by kernel_rfl) (fun c a W h => HP.out c a _ _ W h) (by kernel_rfl) ?hy hHeld ?_
        case hy => (intro w hSw; (try dsimp only at hSw); go_simp; try (with_reducible rfl))
        simp only [Act.put, List.setIfInBounds_toArray, List.set_cons_zero, List.set_cons_succ]
        refine draw_take 1 174 (v := ?_) rfl rfl (by kernel_rfl) (by kernel_rfl) (by kernel_rfl) (fun c a W h => HP.out c a _ _ W h) (by kernel_rfl) ?hy hHeld ?_
        case hy => (intro w hSw; (try dsimp only at hSw); go_simp; try (with_reducible rfl))
        simp only [Act.put, List.setIfInBounds_toArray, List.set_cons_zero, List.set_cons_succ]
        refine draw_take 2 175 (v := ?_) rfl rfl (by kernel_rfl) (by kernel_rfl) (by kernel_rfl) (fun c a W h => HP.out c a _ _ W h) (by kernel_rfl) ?hy hHeld ?_
        case hy => (intro w hSw; (try dsimp only at hSw); go_simp; try (with_reducible rfl))
        simp only [Act.put, List.setIfInBounds_toArray, List.set_cons_zero, List.set_cons_succ]
        refine draw_take 3 176 (v := ?_) rfl rfl (by kernel_rfl) (by kernel_rfl) (by kernel_rfl) (fun c a W h => HP.out c a _ _ W h) (by kernel_rfl) ?hy hHeld ?_
        case hy => (intro w hSw; (try dsimp only at hSw); go_simp; try (with_reducible rfl))
        simp only [Act.put, List.setIfInBounds_toArray, List.set_cons_zero, List.set_cons_succ]
        refine draw_take 4 177 (v := ?_) rfl rfl (by kernel_rfl) (by kernel_rfl) (by kernel_rfl) (fun c a W h => HP.out c a _ _ W h) (by kernel_rfl) ?hy hHeld ?_
        case hy => (intro w hSw; (try dsimp only at hSw); go_simp; try (with_reducible rfl))
        simp only [Act.put, List.setIfInBounds_toArray, List.set_cons_zero, List.set_cons_succ]
        refine draw_take 5 178 (v := ?_) rfl rfl (by kernel_rfl) (by kernel_rfl) (by kernel_rfl) (fun c a W h => HP.out c a _ _ W h) (by kernel_rfl) ?hy hHeld ?_
        case hy => (intro w hSw; (try dsimp only at hSw); go_simp; try (with_reducible rfl))
        simp only [Act.put, List.setIfInBounds_toArray, List.set_cons_zero, List.set_cons_succ]
        refine draw_take 6 179 (v := ?_) rfl rfl (by kernel_rfl) (by kernel_rfl) (by kernel_rfl) (fun c a W h => HP.out c a _ _ W h) (by kernel_rfl) ?hy hHeld ?_
        case hy => (intro w hSw; (try dsimp only at hSw); go_simp; try (with_reducible rfl))
        simp only [Act.put, List.setIfInBounds_toArray, List.set_cons_zero, List.set_cons_succ]
        refine draw_take 7 180 (v := ?_) rfl rfl (by kernel_rfl) (by kernel_rfl) (by kernel_rfl) (fun c a W h => HP.out c a _ _ W h) (by kernel_rfl) ?hy hHeld ?_
        case hy => (intro w hSw; (try dsimp only at hSw); go_simp; try (with_reducible rfl))
        simp only [Act.put, List.setIfInBounds_toArray, List.set_cons_zero, List.set_cons_succ]
        refine draw_take 8 181 (v := ?_) rfl rfl (by kernel_rfl) (by kernel_rfl) (by kernel_rfl) (fun c a W h => HP.out c a _ _ W h) (by kernel_rfl) ?hy hHeld ?_
        case hy => (intro w hSw; (try dsimp only at hSw); go_simp; try (with_reducible rfl))
        simp only [Act.put, List.setIfInBounds_toArray, List.set_cons_zero, List.set_cons_succ]
        refine draw_take 9 182 (v := ?_) rfl rfl (by kernel_rfl) (by kernel_rfl) (by kernel_rfl) (fun c a W h => HP.out c a _ _ W h) (by kernel_rfl) ?hy hHeld ?_
        case hy => (intro w hSw; (try dsimp only at hSw); go_simp; try (with_reducible rfl))
        simp only [Act.put, List.setIfInBounds_toArray, List.set_cons_zero, List.set_cons_succ]
        refine draw_take 10 183 (v := ?_) rfl rfl (by kernel_rfl) (by kernel_rfl) (by kernel_rfl) (fun c a W h => HP.out c a _ _ W h) (by kernel_rfl) ?hy hHeld ?_
        case hy => (intro w hSw; (try dsimp only at hSw); go_simp; try (with_reducible rfl))
        simp only [Act.put, List.setIfInBounds_toArray, List.set_cons_zero, List.set_cons_succ]
        refine wpAnyH_ready (rs := [11]) (by kernel_rfl) (by simp) ?_
        refine AllReadyH.cons rfl (fun K hK => ?_) AllReadyH.nil
        go_simp
        (go_at_call 7; refine (hg.out _ hHeld).mono ?_; rintro e w2 ⟨rfl, hbq⟩)
        go_wp2_with fail
        refine hK.out _ _ (held3p_keep hHeld hbq) (fun hHeld => ?_)
        clear hK K
        try simp only [Act.put, List.setIfInBounds_toArray, List.set_cons_zero, List.set_cons_succ]
        refine draw_take 12 172 (v := ?_) rfl rfl (by kernel_rfl) (by kernel_rfl) (by kernel_rfl) (fun c a W h => HP.out c a _ _ W h) (by kernel_rfl) ?hy hHeld ?_
        case hy => (intro w hSw; (try dsimp only at hSw); go_simp; try (with_reducible rfl))
        simp only [Act.put, List.setIfInBounds_toArray, List.set_cons_zero, List.set_cons_succ]
        refine draw_take 13 185 (v := ?_) rfl rfl (by kernel_rfl) (by kernel_rfl) (by kernel_rfl) (fun c a W h => HP.out c a _ _ W h) (by kernel_rfl) ?hy hHeld ?_
        case hy => (intro w hSw; (try dsimp only at hSw); go_simp; try (with_reducible rfl))
        simp only [Act.put, List.setIfInBounds_toArray, List.set_cons_zero, List.set_cons_succ]
        refine draw_take 14 186 (v := ?_) rfl rfl (by kernel_rfl) (by kernel_rfl) (by kernel_rfl) (fun c a W h => HP.out c a _ _ W h) (by kernel_rfl) ?hy hHeld ?_
        case hy => (intro w hSw; (try dsimp only at hSw); go_simp; try (with_reducible rfl))
        simp only [Act.put, List.setIfInBounds_toArray, List.set_cons_zero, List.set_cons_succ]
        refine draw_take 15 19 (v := ?_) rfl rfl (by kernel_rfl) (by kernel_rfl) (by kernel_rfl) (fun c a W h => HP.out c a _ _ W h) (by kernel_rfl) ?hy hHeld ?_
        case hy => (intro w hSw; (try dsimp only at hSw); go_simp; try (with_reducible rfl))
        simp only [Act.put, List.setIfInBounds_toArray, List.set_cons_zero, List.set_cons_succ]
        refine draw_take 16 20 (v := ?_) rfl rfl (by kernel_rfl) (by kernel_rfl) (by kernel_rfl) (fun c a W h => HP.out c a _ _ W h) (by kernel_rfl) ?hy hHeld ?_
        case hy => (intro w hSw; (try dsimp only at hSw); go_simp; try (with_reducible rfl))
        simp only [Act.put, List.setIfInBounds_toArray, List.set_cons_zero, List.set_cons_succ]
        refine wpAnyH_done (by kernel_rfl) ?_ _
        have hb6 := hHeld.2.2.2
        have j2 := cell_keep hb6 j0
        have j3 := cell_keep hb6 j1
        have f1 := cell_keep hb6 f0
        have r1 := cell_keep hb6 r0
        have z2 := cell_keep hb6 z0
        have z3 := cell_keep hb6 z1
        have HB7 := Lib.hid (bthen HBm.out hb6)
        clear hHeld hg hbq hb6 j0 j1 f0 r0 z0 z1 T0 HRT HLm
        by_cases hmz : m < Z
        · have hmz2 : (m : Int) < Z := by omega
          have hne := HNe.out hmz
          go_upto_region 38 with fail
          go_quiet (fail)
          go_wp2
          go_roundw
          case rel => exact ⟨m + 1, by omega, by go_num, below_drewN HB7.out _⟩
          case measure => simp [RowKit.intOf]; omega
        · have hmz2 : ¬ (m : Int) < Z := by omega
          go_upto_region 38 with fail
          go_quiet (fail)
          go_wp2
          go_roundw
          case rel => exact ⟨m + 1, by omega, by go_num, below_drewN HB7.out _⟩
          case measure => simp [RowKit.intOf]; omega
    · obtain rfl : m = L1 := by omega
      go_wp2_with fail
      exact HK.out _ HLm.out _ _ _ _ _ _ _ _ _ _ _ _ _ _ _ _ _ _ _ _ _ _ _ _ _ _ _ _ _ _ _ _ _ _ _ _ _ _ _ _ _ _ _ _ _ _ _ _ _ _ _ _ _ _ _ _ _ _ _ _ _ _ _ _ _ _ _ _ _
end Go.Proofs.Ytggaaobpaodigaa
