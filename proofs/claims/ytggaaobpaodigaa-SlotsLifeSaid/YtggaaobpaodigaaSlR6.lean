/- An arm of SlotsLife's switch. -/
import Derived.Test.YtggaaobpaodigaaSlR3
import Derived.Test.YtggaaobpaodigaaSlR4
import Derived.Test.YtggaaobpaodigaaSlT
import Derived.Deep.DeepCutAuto
set_option linter.unusedVariables false
set_option linter.unusedSimpArgs false
namespace Go.Proofs.Ytggaaobpaodigaa
open Go.RowKit

def findC (n : Nat) : Code → Option Code
  | .cond (.tmp m) a b => match Nat.beq m n with
    | true => some (.cond (.tmp m) a b)
    | false => match findC n a with
      | some c => some c
      | none => findC n b
  | .cond _ a b => match findC n a with
    | some c => some c
    | none => findC n b
  | .seq a b => match findC n b with
    | some c => some c
    | none => findC n a
  | .block _ c => findC n c
  | .loop c => findC n c
  | .scope c => findC n c
  | _ => none
noncomputable def conL (n : Nat) : Code := ((Try.f3.body.bind (findC n)).getD .skip)

set_option maxRecDepth 100000 in
set_option maxHeartbeats 6400000 in
theorem arm_new {Q : Exit → Act → World → Prop} (hP : ∀ c (a : Act) d v W, Q (.panic c) (a.put d v) W → Q (.panic c) a W) {w wr : World} {B0 BT : Nat} {p : Option Addr} {n c : Nat} {t : List En} {qi : Option Addr} {ni ci : Nat} {is : List (Int × Int)} {qr : Option Addr} {cr : Nat} {rs : List Int} {qg : Option Addr} {cg : Nat} {gn : List Bool} {ab ao n0 c0 k J : Nat} {rf : Int} (hk0 : (0 : Int) ≤ k) (hkm : (k : Int) < n0) (hnk : ni ≤ k) (hk120 : k ≤ 120) (hk20 : (k : Int) < 120) (HL : Hid (LS w wr B0 BT p n c t qi ni ci is qr ni cr rs qg ni cg gn)) (HF : Hid (Lf t is rs gn)) (HWx : Hid ((Lit.int .u64 rf).wf = true)) (HA : Hid (∀ W, Below w.heap.size w W → W.cell? ⟨ab, ao + k * 3 + 2, none⟩ = some (.int .u64 rf))) 
    {u1 u2 u10 u11 u12 u13 u14 u15 u16 u17 u18 u19 u20 u21 u22 u23 u24 u25 u26 u27 u28 u29 u30 u31 u32 u33 u34 u35 u36 u37 u38 u39 u40 u41 u42 u43 u44 u45 u46 u47 u48 u49 u50 u51 u52 u53 u54 u55 u56 u57 u58 u59 u60 u61 u62 u63 u64 u65 u66 u67 u68 u69 u70 u71 u72 u73 u74 u75 u76 u77 u78 u79 u80 u81 u82 u83 u84 u85 u86 u88 u89 u90 u91 u92 u93 u94 u95 u96 u97 u98 u99 u100 u101 u102 u103 u104 u105 u106 u107 u108 u109 u110 u111 u112 u113 u114 u115 u116 u117 u118 u119 u120 u121 u122 u123 u124 u125 u126 u127 u128 u129 u130 u131 u132 u133 u134 u135 u136 u137 u138 u139 u140 u141 u142 u143 u144 u145 u146 u147 u148 u149 u150 u151 u152 u153 u154 u155 u156 u157 u158 u159 u160 u161 u162 u163 u164 u165 u166 u167 u168 u169 u170 u171 u172 u173 u174 u175 u176 u177 u178 u179 u180 u181 u182 u183 u184 u185 u186 u187 u188 u189 u190 u191 u192 u193 u194 u195 u196 u197 u198 u199 u200 u201 u202 u203 u204 u205 u206 u207 u208 u209 u210 u211 u212 u213 u214 u215 u216 u217 u218 u219 u220 u221 u222 u223 u224 u225 u226 u227 u228 u229 u230 u231 u232 u233 u234 u235 u236 : Value}
    (hN : ∀ (L1 : Nat) (pt : Option Addr) (nt ct : Nat) (t1 : List En) (ai : Option Addr) (bi : Nat) (i1 : List (Int × Int)) (ar : Option Addr) (br : Nat) (r1 : List Int) (ag : Option Addr) (bg : Nat) (g1 : List Bool) (W : World), L1 ≤ k + 1 → Lf t1 i1 r1 g1 → LS w W B0 BT pt nt ct t1 ai L1 bi i1 ar L1 br r1 ag L1 bg g1 → ∀ (v2 v10 v11 v12 v13 v90 v91 v92 v93 v94 v95 v96 v97 v98 v99 v100 v101 v102 v103 v104 v105 v106 v107 v108 v109 v110 v111 v112 v113 v114 v115 v116 v117 v118 v119 v120 v121 v122 v123 : Value), Q .normal ⟨#[.slice (some ⟨ab, ao, none⟩) n0 c0, u1, v2, .pointer (some ⟨BT, 0, none⟩), .slice ai L1 bi, .slice ar L1 br, .slice ag L1 bg, .int .i64 k, .int .i64 ni, .int .i64 J, v10, v11, v12, v13, u14, u15, u16, u17, u18, u19, u20, u21, u22, u23, u24, u25, u26, u27, u28, u29, u30, u31, u32, u33, u34, u35, u36, u37, u38, u39, u40, u41, u42, u43, u44, u45, u46, u47, u48, u49, u50, u51, u52, u53, u54, u55, u56, u57, u58, u59, u60, u61, u62, u63, u64, u65, u66, u67, u68, u69, u70, u71, u72, u73, u74, u75, u76, u77, u78, u79, u80, u81, u82, u83, u84, u85, u86, .bool true, u88, u89, v90, v91, v92, v93, v94, v95, v96, v97, v98, v99, v100, v101, v102, v103, v104, v105, v106, v107, v108, v109, v110, v111, v112, v113, v114, v115, v116, v117, v118, v119, v120, v121, v122, v123, u124, u125, u126, u127, u128, u129, u130, u131, u132, u133, u134, u135, u136, u137, u138, u139, u140, u141, u142, u143, u144, u145, u146, u147, u148, u149, u150, u151, u152, u153, u154, u155, u156, u157, u158, u159, u160, u161, u162, u163, u164, u165, u166, u167, u168, u169, u170, u171, u172, u173, u174, u175, u176, u177, u178, u179, u180, u181, u182, u183, u184, u185, u186, u187, u188, u189, u190, u191, u192, u193, u194, u195, u196, u197, u198, u199, u200, u201, u202, u203, u204, u205, u206, u207, u208, u209, u210, u211, u212, u213, u214, u215, u216, u217, u218, u219, u220, u221, u222, u223, u224, u225, u226, u227, u228, u229, u230, u231, u232, u233, u234, u235, u236], []⟩ W)
    (hC : ∀ W : World, LS w W B0 BT p n c t qi ni ci is qr ni cr rs qg ni cg gn → ∀ (v2 v10 v11 v12 v13 v90 v91 v92 v93 v94 v95 v96 v97 v98 v99 v100 v101 v102 v103 v104 v105 v106 v107 v108 v109 v110 v111 v112 v113 v114 v115 v116 v117 v118 v119 v120 v121 v122 v123 : Value), Q (.exit 1) ⟨#[.slice (some ⟨ab, ao, none⟩) n0 c0, u1, v2, .pointer (some ⟨BT, 0, none⟩), .slice qi ni ci, .slice qr ni cr, .slice qg ni cg, .int .i64 k, .int .i64 ni, .int .i64 J, v10, v11, v12, v13, u14, u15, u16, u17, u18, u19, u20, u21, u22, u23, u24, u25, u26, u27, u28, u29, u30, u31, u32, u33, u34, u35, u36, u37, u38, u39, u40, u41, u42, u43, u44, u45, u46, u47, u48, u49, u50, u51, u52, u53, u54, u55, u56, u57, u58, u59, u60, u61, u62, u63, u64, u65, u66, u67, u68, u69, u70, u71, u72, u73, u74, u75, u76, u77, u78, u79, u80, u81, u82, u83, u84, u85, u86, .bool true, u88, u89, v90, v91, v92, v93, v94, v95, v96, v97, v98, v99, v100, v101, v102, v103, v104, v105, v106, v107, v108, v109, v110, v111, v112, v113, v114, v115, v116, v117, v118, v119, v120, v121, v122, v123, u124, u125, u126, u127, u128, u129, u130, u131, u132, u133, u134, u135, u136, u137, u138, u139, u140, u141, u142, u143, u144, u145, u146, u147, u148, u149, u150, u151, u152, u153, u154, u155, u156, u157, u158, u159, u160, u161, u162, u163, u164, u165, u166, u167, u168, u169, u170, u171, u172, u173, u174, u175, u176, u177, u178, u179, u180, u181, u182, u183, u184, u185, u186, u187, u188, u189, u190, u191, u192, u193, u194, u195, u196, u197, u198, u199, u200, u201, u202, u203, u204, u205, u206, u207, u208, u209, u210, u211, u212, u213, u214, u215, u216, u217, u218, u219, u220, u221, u222, u223, u224, u225, u226, u227, u228, u229, u230, u231, u232, u233, u234, u235, u236], []⟩ W) :
    Code.wp Try.prog (conL 87) Q ⟨#[.slice (some ⟨ab, ao, none⟩) n0 c0, u1, u2, .pointer (some ⟨BT, 0, none⟩), .slice qi ni ci, .slice qr ni cr, .slice qg ni cg, .int .i64 k, .int .i64 ni, .int .i64 J, u10, u11, u12, u13, u14, u15, u16, u17, u18, u19, u20, u21, u22, u23, u24, u25, u26, u27, u28, u29, u30, u31, u32, u33, u34, u35, u36, u37, u38, u39, u40, u41, u42, u43, u44, u45, u46, u47, u48, u49, u50, u51, u52, u53, u54, u55, u56, u57, u58, u59, u60, u61, u62, u63, u64, u65, u66, u67, u68, u69, u70, u71, u72, u73, u74, u75, u76, u77, u78, u79, u80, u81, u82, u83, u84, u85, u86, .bool true, u88, u89, u90, u91, u92, u93, u94, u95, u96, u97, u98, u99, u100, u101, u102, u103, u104, u105, u106, u107, u108, u109, u110, u111, u112, u113, u114, u115, u116, u117, u118, u119, u120, u121, u122, u123, u124, u125, u126, u127, u128, u129, u130, u131, u132, u133, u134, u135, u136, u137, u138, u139, u140, u141, u142, u143, u144, u145, u146, u147, u148, u149, u150, u151, u152, u153, u154, u155, u156, u157, u158, u159, u160, u161, u162, u163, u164, u165, u166, u167, u168, u169, u170, u171, u172, u173, u174, u175, u176, u177, u178, u179, u180, u181, u182, u183, u184, u185, u186, u187, u188, u189, u190, u191, u192, u193, u194, u195, u196, u197, u198, u199, u200, u201, u202, u203, u204, u205, u206, u207, u208, u209, u210, u211, u212, u213, u214, u215, u216, u217, u218, u219, u220, u221, u222, u223, u224, u225, u226, u227, u228, u229, u230, u231, u232, u233, u234, u235, u236], []⟩ wr := by
  conv => arg 2; whnf
  have HN := Lib.hid hN
  have HC := Lib.hid hC
  have HP := Lib.hid hP
  clear hN hC hP
  obtain ⟨iI, hinI, hI0, hI1, hI2⟩ := info_parts infoPr15
  have a2 := HA.out _ HL.out.bel
  have hnw := Lib.hid (fun w h => slNew_any p n c t rf w h HF.out.wf HWx.out)
  have HRw := Lib.hid (vrowS HL.out.T)
  obtain ⟨TT, hTT⟩ : ∃ x, Hid (newT t rf = x) := ⟨_, Lib.hid rfl⟩
  obtain ⟨AT, hAT⟩ : ∃ x, Hid (newN t = x) := ⟨_, Lib.hid rfl⟩
  obtain ⟨GE, hGE⟩ : ∃ x, Hid (newG t = x) := ⟨_, Lib.hid rfl⟩
  obtain ⟨EE, hEE⟩ : ∃ x, Hid (newE t = x) := ⟨_, Lib.hid rfl⟩
  have hEc := newE_or HF.out.ok
  rw [hTT.out, hAT.out, hGE.out, hEE.out] at hnw
  rw [hEE.out] at hEc
  have HEc := Lib.hid hEc
  have y0 := HL.out.box.cell 0 _ rfl
  clear hEc
  go_upto_region 19 with fail
  refine reg19 (fun c a d v W h => by first | exact HP.out c a d v W h | (cases d <;> exact h)) hk0 hkm a2 hnw y0 HL.out.hi HRw ?_
  intro N q m d wc hN hft hge hbc v90 v91 v92 v93 v94 v95 v96 v97 v98 v99 v100 v101
  have HL3 := Lib.hid (HL.out.keep hbc)
  have HFt := Lib.hid hft
  have HNb := Lib.hid hN
  clear hN hft hbc y0 a2 hnw HRw
  rcases HEc.out with rfl | rfl
  rotate_left
  · go_wp2_with fail
    exact HC.out _ HL3.out _ _ _ _ _ _ _ _ _ _ _ _ _ _ _ _ _ _ _ _ _ _ _ _ _ _ _ _ _ _ _ _ _ _ _ _ _ _ _
  · have n0 := HNb.out.cell 0 _ rfl
    have y0 := HL3.out.box.cell 0 _ rfl
    have y1 := HL3.out.box.free 0
    have HLf := HF.out.new (r := rf) hEE.out HWx.out
    rw [hTT.out, hAT.out, hGE.out] at HLf
    replace HLf := Lib.hid HLf
    go_upto_region 24 with fail
    obtain ⟨w4, hw4⟩ : ∃ w4, wc.setCell ⟨BT, 0, none⟩ (.slice q m d) = w4 := ⟨_, rfl⟩
    have HL4 := Lib.hid (show LS w w4 B0 BT q m d TT qi ni ci is qr ni cr rs qg ni cg gn from by rw [← hw4]; exact HL3.out.store HFt.out.o)
    rw [hw4]
    clear hw4 n0 y0 y1 HNb HFt HL3 HL
    have hni63 : (ni : Int) ≤ 121 := by omega
    refine reg24 (fun c a d v W h => by first | exact HP.out c a d v W h | (cases d <;> exact h)) hk0 hkm hni63 HL4.out (fun W hB => HA.out W hB) ?_
    intro q1 d1 q2 d2 q3 d3 w9 hls v107 v108 v109 v110 v111 v112 v113 v114 v115 v116 v117 v118 v119 v120 v121 v122 v123
    go_wp2_with fail
    exact HN.out (ni + 1) q m d TT q1 d1 (is ++ [(AT, GE)]) q2 d2 (rs ++ [rf]) q3 d3 (gn ++ [false]) _ (by omega) HLf.out hls _ _ _ _ _ _ _ _ _ _ _ _ _ _ _ _ _ _ _ _ _ _ _ _ _ _ _ _ _ _ _ _ _ _ _ _ _ _ _
end Go.Proofs.Ytggaaobpaodigaa
