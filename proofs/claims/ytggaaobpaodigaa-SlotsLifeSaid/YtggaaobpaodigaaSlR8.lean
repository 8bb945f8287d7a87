/- An arm of SlotsLife's switch. -/
import Derived.Test.YtggaaobpaodigaaSlR2
import Derived.Test.YtggaaobpaodigaaSlR6
import Derived.Deep.DeepCutAuto
set_option linter.unusedVariables false
set_option linter.unusedSimpArgs false
namespace Go.Proofs.Ytggaaobpaodigaa
open Go.RowKit

set_option maxRecDepth 100000 in
set_option maxHeartbeats 6400000 in
theorem arm_set {Q : Exit → Act → World → Prop} (hP : ∀ c (a : Act) d v W, Q (.panic c) (a.put d v) W → Q (.panic c) a W) {w wr : World} {B0 BT : Nat} {p : Option Addr} {n c : Nat} {t : List En} {qi : Option Addr} {ni ci : Nat} {is : List (Int × Int)} {qr : Option Addr} {cr : Nat} {rs : List Int} {qg : Option Addr} {cg : Nat} {gn : List Bool} {ab ao n0 c0 k J : Nat} {rf : Int} (hk0 : (0 : Int) ≤ k) (hkm : (k : Int) < n0) (hnk : ni ≤ k) (hk120 : k ≤ 120) (hk20 : (k : Int) < 120) (HL : Hid (LS w wr B0 BT p n c t qi ni ci is qr ni cr rs qg ni cg gn)) (HF : Hid (Lf t is rs gn)) (HWx : Hid ((Lit.int .u64 rf).wf = true)) (HA : Hid (∀ W, Below w.heap.size w W → W.cell? ⟨ab, ao + k * 3 + 2, none⟩ = some (.int .u64 rf))) (hJ : 0 < ni → J < ni)
    {u1 u2 u10 u11 u12 u13 u14 u15 u16 u17 u18 u19 u20 u21 u22 u23 u24 u25 u26 u27 u28 u29 u30 u31 u32 u33 u34 u35 u36 u37 u38 u39 u40 u41 u42 u43 u44 u45 u46 u47 u48 u49 u50 u51 u52 u54 u55 u56 u57 u58 u59 u60 u61 u62 u63 u64 u65 u66 u67 u68 u69 u70 u71 u72 u73 u74 u75 u76 u77 u78 u79 u80 u81 u82 u83 u84 u85 u86 u88 u89 u90 u91 u92 u93 u94 u95 u96 u97 u98 u99 u100 u101 u102 u103 u104 u105 u106 u107 u108 u109 u110 u111 u112 u113 u114 u115 u116 u117 u118 u119 u120 u121 u122 u123 u124 u125 u126 u127 u128 u129 u130 u131 u132 u133 u134 u135 u136 u137 u138 u139 u140 u141 u142 u143 u144 u145 u146 u147 u148 u149 u150 u151 u152 u153 u154 u155 u156 u157 u158 u159 u160 u161 u162 u163 u164 u165 u166 u167 u168 u169 u170 u171 u172 u173 u174 u175 u176 u177 u178 u179 u180 u181 u182 u183 u184 u185 u186 u187 u188 u189 u190 u191 u192 u193 u194 u195 u196 u197 u198 u199 u200 u201 u202 u203 u204 u205 u206 u207 u208 u209 u210 u211 u212 u213 u214 u215 u216 u217 u218 u219 u220 u221 u222 u223 u224 u225 u226 u227 u228 u229 u230 u231 u232 u233 u234 u235 u236 : Value}
    (hN : ∀ (L1 : Nat) (pt : Option Addr) (nt ct : Nat) (t1 : List En) (ai : Option Addr) (bi : Nat) (i1 : List (Int × Int)) (ar : Option Addr) (br : Nat) (r1 : List Int) (ag : Option Addr) (bg : Nat) (g1 : List Bool) (W : World), L1 ≤ k + 1 → Lf t1 i1 r1 g1 → LS w W B0 BT pt nt ct t1 ai L1 bi i1 ar L1 br r1 ag L1 bg g1 → ∀ (v16 v17 v54 v55 v56 v57 v58 v59 v60 v61 v62 v63 v64 v65 v66 v67 v68 v69 v70 v71 v72 v73 v74 v75 v76 v77 v78 v79 v80 v81 v82 v83 v84 v85 v86 v124 v125 : Value), Q .normal ⟨#[.slice (some ⟨ab, ao, none⟩) n0 c0, u1, u2, .pointer (some ⟨BT, 0, none⟩), .slice ai L1 bi, .slice ar L1 br, .slice ag L1 bg, .int .i64 k, .int .i64 ni, .int .i64 J, u10, u11, u12, u13, u14, u15, v16, v17, u18, u19, u20, u21, u22, u23, u24, u25, u26, u27, u28, u29, u30, u31, u32, u33, u34, u35, u36, u37, u38, u39, u40, u41, u42, u43, u44, u45, u46, u47, u48, u49, u50, u51, u52, .int .i64 3, v54, v55, v56, v57, v58, v59, v60, v61, v62, v63, v64, v65, v66, v67, v68, v69, v70, v71, v72, v73, v74, v75, v76, v77, v78, v79, v80, v81, v82, v83, v84, v85, v86, .bool false, u88, u89, u90, u91, u92, u93, u94, u95, u96, u97, u98, u99, u100, u101, u102, u103, u104, u105, u106, u107, u108, u109, u110, u111, u112, u113, u114, u115, u116, u117, u118, u119, u120, u121, u122, u123, v124, v125, u126, u127, u128, u129, u130, u131, u132, u133, u134, u135, u136, u137, u138, u139, u140, u141, u142, u143, u144, u145, u146, u147, u148, u149, u150, u151, u152, u153, u154, u155, u156, u157, u158, u159, u160, u161, u162, u163, u164, u165, u166, u167, u168, u169, u170, u171, u172, u173, u174, u175, u176, u177, u178, u179, u180, u181, u182, u183, u184, u185, u186, u187, u188, u189, u190, u191, u192, u193, u194, u195, u196, u197, u198, u199, u200, u201, u202, u203, u204, u205, u206, u207, u208, u209, u210, u211, u212, u213, u214, u215, u216, u217, u218, u219, u220, u221, u222, u223, u224, u225, u226, u227, u228, u229, u230, u231, u232, u233, u234, u235, u236], []⟩ W)
    (hC : ∀ W : World, LS w W B0 BT p n c t qi ni ci is qr ni cr rs qg ni cg gn → ∀ (v16 v17 v54 v55 v56 v57 v58 v59 v60 v61 v62 v63 v64 v65 v66 v67 v68 v69 v70 v71 v72 v73 v74 v75 v76 v77 v78 v79 v80 v81 v82 v83 v84 v85 v86 v124 v125 : Value), Q (.exit 1) ⟨#[.slice (some ⟨ab, ao, none⟩) n0 c0, u1, u2, .pointer (some ⟨BT, 0, none⟩), .slice qi ni ci, .slice qr ni cr, .slice qg ni cg, .int .i64 k, .int .i64 ni, .int .i64 J, u10, u11, u12, u13, u14, u15, v16, v17, u18, u19, u20, u21, u22, u23, u24, u25, u26, u27, u28, u29, u30, u31, u32, u33, u34, u35, u36, u37, u38, u39, u40, u41, u42, u43, u44, u45, u46, u47, u48, u49, u50, u51, u52, .int .i64 3, v54, v55, v56, v57, v58, v59, v60, v61, v62, v63, v64, v65, v66, v67, v68, v69, v70, v71, v72, v73, v74, v75, v76, v77, v78, v79, v80, v81, v82, v83, v84, v85, v86, .bool false, u88, u89, u90, u91, u92, u93, u94, u95, u96, u97, u98, u99, u100, u101, u102, u103, u104, u105, u106, u107, u108, u109, u110, u111, u112, u113, u114, u115, u116, u117, u118, u119, u120, u121, u122, u123, v124, v125, u126, u127, u128, u129, u130, u131, u132, u133, u134, u135, u136, u137, u138, u139, u140, u141, u142, u143, u144, u145, u146, u147, u148, u149, u150, u151, u152, u153, u154, u155, u156, u157, u158, u159, u160, u161, u162, u163, u164, u165, u166, u167, u168, u169, u170, u171, u172, u173, u174, u175, u176, u177, u178, u179, u180, u181, u182, u183, u184, u185, u186, u187, u188, u189, u190, u191, u192, u193, u194, u195, u196, u197, u198, u199, u200, u201, u202, u203, u204, u205, u206, u207, u208, u209, u210, u211, u212, u213, u214, u215, u216, u217, u218, u219, u220, u221, u222, u223, u224, u225, u226, u227, u228, u229, u230, u231, u232, u233, u234, u235, u236], []⟩ W) :
    Code.wp Try.prog (conL 87) Q ⟨#[.slice (some ⟨ab, ao, none⟩) n0 c0, u1, u2, .pointer (some ⟨BT, 0, none⟩), .slice qi ni ci, .slice qr ni cr, .slice qg ni cg, .int .i64 k, .int .i64 ni, .int .i64 J, u10, u11, u12, u13, u14, u15, u16, u17, u18, u19, u20, u21, u22, u23, u24, u25, u26, u27, u28, u29, u30, u31, u32, u33, u34, u35, u36, u37, u38, u39, u40, u41, u42, u43, u44, u45, u46, u47, u48, u49, u50, u51, u52, .int .i64 3, u54, u55, u56, u57, u58, u59, u60, u61, u62, u63, u64, u65, u66, u67, u68, u69, u70, u71, u72, u73, u74, u75, u76, u77, u78, u79, u80, u81, u82, u83, u84, u85, u86, .bool false, u88, u89, u90, u91, u92, u93, u94, u95, u96, u97, u98, u99, u100, u101, u102, u103, u104, u105, u106, u107, u108, u109, u110, u111, u112, u113, u114, u115, u116, u117, u118, u119, u120, u121, u122, u123, u124, u125, u126, u127, u128, u129, u130, u131, u132, u133, u134, u135, u136, u137, u138, u139, u140, u141, u142, u143, u144, u145, u146, u147, u148, u149, u150, u151, u152, u153, u154, u155, u156, u157, u158, u159, u160, u161, u162, u163, u164, u165, u166, u167, u168, u169, u170, u171, u172, u173, u174, u175, u176, u177, u178, u179, u180, u181, u182, u183, u184, u185, u186, u187, u188, u189, u190, u191, u192, u193, u194, u195, u196, u197, u198, u199, u200, u201, u202, u203, u204, u205, u206, u207, u208, u209, u210, u211, u212, u213, u214, u215, u216, u217, u218, u219, u220, u221, u222, u223, u224, u225, u226, u227, u228, u229, u230, u231, u232, u233, u234, u235, u236], []⟩ wr := by
  conv => arg 2; whnf
  have HN := Lib.hid hN
  have HC := Lib.hid hC
  have HP := Lib.hid hP
  clear hN hC hP
  have a2 := HA.out _ HL.out.bel
  by_cases hni : 0 < ni
  rotate_left
  · obtain rfl : ni = 0 := by omega
    go_wp2_with fail
    exact HC.out _ HL.out _ _ _ _ _ _ _ _ _ _ _ _ _ _ _ _ _ _ _ _ _ _ _ _ _ _ _ _ _ _ _ _ _ _ _ _ _
  have hnz : ((ni : Int) == 0) = false := by simp; omega
  have hJi := hJ hni
  have hJ2 : (J : Int) < ni := by omega
  have hJ0 : (0 : Int) ≤ J := Int.natCast_nonneg _
  obtain ⟨ii, gg, ib, hpx, rfl, j0, j1⟩ := HL.out.pair hJi
  obtain ⟨rr, rb, hrx, rfl, r0, -⟩ := HL.out.ref hJi
  obtain ⟨fx, fb, hfx, rfl, f0, -⟩ := HL.out.flag hJi
  have HRw := Lib.hid (vrowS HL.out.T)
  have y0 := HL.out.box.cell 0 _ rfl
  obtain ⟨F, hF⟩ : ∃ F, Hid (findE t ii gg = F) := ⟨_, Lib.hid rfl⟩
  obtain ⟨TT, hTT⟩ : ∃ x, Hid (setT t ii gg rf = x) := ⟨_, Lib.hid rfl⟩
  have hcl := Lib.hid (fun w h => slSet_any p n c t ii gg rf w h HF.out.wf HWx.out)
  rw [hTT.out, hF.out] at hcl
  have HD : (fx = false ∧ F = 0 ∧ Lf TT is (rs.set J rf) gn) ∨ (fx = true ∧ F = 8) := by
    cases fx with
    | true => exact .inr ⟨rfl, hF.out.symm.trans (HF.out.dead hpx hfx)⟩
    | false => exact .inl ⟨rfl, hF.out.symm.trans (HF.out.live hpx hfx).1, hTT.out ▸ HF.out.set hpx hfx HWx.out⟩
  clear hrx hfx hpx hJ
  go_upto_region 14 with fail
  refine reg14 (fun c a d v W h => by first | exact HP.out c a d v W h | (cases d <;> exact h)) hJ0 hJ2 j0 j1 hk0 hkm a2 hcl y0 HL.out.hi HRw ?_
  intro N q m d wc hN hft hge hbc v56 v57 v58 v59 v60 v61 v62 v63 v64 v65 v66 v67 v68 v69 v70 v71 v72 v73 v74 v75
  have HL3 := Lib.hid (HL.out.keep hbc)
  have HFt := Lib.hid hft
  have n0 := hN.cell 0 _ rfl
  have f1 := cell_keep hbc f0
  have r1 := cell_keep hbc r0
  have a3 := cell_keep hbc a2
  clear hN hft hbc y0 a2 f0 r0 j0 j1 HRw hcl
  have y0 := HL3.out.box.cell 0 _ rfl
  have y1 := HL3.out.box.free 0
  have HLs := Lib.hid (HL3.out.store HFt.out.o)
  have u0 := fun i => HL3.out.R.frozenAt i
  have hfb := (HL3.out.R.lt rb rfl)
  have hBTB := HL3.out.mid
  rcases HD with ⟨rfl, rfl, hlf⟩ | ⟨rfl, rfl⟩
  · have HLf := Lib.hid hlf
    clear hlf
    have hrb : rb ≠ BT := by omega
    go_upto_region 16 with fail
    go_region
    go_wp2_with fail
    exact HN.out ni q m d TT _ ci is _ cr (rs.set J rf) _ cg gn _ (by omega) HLf.out ((HLs.out.setR J rf).keep (Below.refl _ _).drew) _ _ _ _ _ _ _ _ _ _ _ _ _ _ _ _ _ _ _ _ _ _ _ _ _ _ _ _ _ _ _ _ _ _ _ _ _
  · go_wp2_with fail
    exact HN.out ni p n c t _ ci is _ cr rs _ cg gn _ (by omega) HF.out HL3.out _ _ _ _ _ _ _ _ _ _ _ _ _ _ _ _ _ _ _ _ _ _ _ _ _ _ _ _ _ _ _ _ _ _ _ _ _
end Go.Proofs.Ytggaaobpaodigaa
