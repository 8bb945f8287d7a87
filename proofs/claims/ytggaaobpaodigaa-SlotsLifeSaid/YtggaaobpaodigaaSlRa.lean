/- An arm of SlotsLife's switch. -/
import Derived.Test.YtggaaobpaodigaaSlR5
import Derived.Test.YtggaaobpaodigaaSlR9
import Derived.Deep.DeepCutAuto
import Derived.Deep.CutBlock
set_option linter.unusedVariables false
set_option linter.unusedSimpArgs false
namespace Go.Proofs.Ytggaaobpaodigaa
open Go.RowKit

def findL : Code → Option Code
  | .loop c => some c
  | .seq a b => match findL a with
    | some c => some c
    | none => findL b
  | .cond _ a b => match findL a with
    | some c => some c
    | none => findL b
  | .block _ c => findL c
  | .scope c => findL c
  | _ => none
noncomputable def bodL : Code := ((Try.f3.body.bind findL).getD .skip)

set_option maxRecDepth 100000 in
set_option maxHeartbeats 6400000 in
theorem rnd_any {Q : Exit → Act → World → Prop} (hP : ∀ c (a : Act) d v W, Q (.panic c) (a.put d v) W → Q (.panic c) a W) {w wr : World} {B0 BT : Nat} {p0 : Option Addr} {n0 c0 : Nat} {ac : List Ac15} {p : Option Addr} {n c : Nat} {t : List En} {qi : Option Addr} {ni ci : Nat} {is : List (Int × Int)} {qr : Option Addr} {cr : Nat} {rs : List Int} {qg : Option Addr} {cg : Nat} {gn : List Bool} {k : Nat} (hn63 : (n0 : Int) ≤ 9223372036854775807) (hk : k ≤ n0) (hnk : ni ≤ k) (hk120 : k ≤ 120) (HL : Hid (LS w wr B0 BT p n c t qi ni ci is qr ni cr rs qg ni cg gn)) (HF : Hid (Lf t is rs gn)) (Hr : Hid (∀ w', Below w.heap.size w w' → VRow w' 3 p0 n0 c0 (ac.flatMap aC))) (Hwf : Hid (∀ (k : Nat) (a : Ac15), ac[k]? = some a → (Lit.int .u64 a.rf).wf = true))
    {u1 u2 u8 u9 u10 u11 u12 u13 u14 u15 u16 u17 u18 u19 u20 u21 u22 u23 u24 u25 u26 u27 u28 u29 u30 u31 u32 u33 u34 u35 u36 u37 u38 u39 u40 u41 u42 u43 u44 u45 u46 u47 u48 u49 u50 u51 u52 u53 u54 u55 u56 u57 u58 u59 u60 u61 u62 u63 u64 u65 u66 u67 u68 u69 u70 u71 u72 u73 u74 u75 u76 u77 u78 u79 u80 u81 u82 u83 u84 u85 u86 u87 u88 u89 u90 u91 u92 u93 u94 u95 u96 u97 u98 u99 u100 u101 u102 u103 u104 u105 u106 u107 u108 u109 u110 u111 u112 u113 u114 u115 u116 u117 u118 u119 u120 u121 u122 u123 u124 u125 u126 u127 u128 u129 u130 u131 u132 u133 u134 u135 u136 u137 u138 u139 u140 u141 u142 u143 u144 u145 u146 u147 u148 u149 u150 u151 u152 u153 u154 u155 u156 u157 u158 u159 u160 u161 u162 u163 u164 u165 u166 u167 u168 u169 u170 u171 u172 u173 u174 u175 u176 u177 u178 u179 u180 u181 u182 u183 u184 u185 u186 u187 u188 u189 u190 u191 u192 u193 u194 u195 u196 u197 u198 u199 u200 u201 u202 u203 u204 u205 u206 u207 u208 u209 u210 u211 u212 u213 u214 u215 u216 u217 u218 u219 u220 u221 u222 u223 u224 u225 u226 u227 u228 u229 u230 u231 u232 u233 u234 u235 u236 : Value}
    (hN : ∀ (L1 : Nat) (pt : Option Addr) (nt ct : Nat) (t1 : List En) (ai : Option Addr) (bi : Nat) (i1 : List (Int × Int)) (ar : Option Addr) (br : Nat) (r1 : List Int) (ag : Option Addr) (bg : Nat) (g1 : List Bool) (W : World), k + 1 ≤ n0 → L1 ≤ k + 1 → k + 1 ≤ 120 → Lf t1 i1 r1 g1 → LS w W B0 BT pt nt ct t1 ai L1 bi i1 ar L1 br r1 ag L1 bg g1 → ∀ (v2 v8 v9 v10 v11 v12 v13 v14 v15 v16 v17 v18 v19 v20 v21 v22 v23 v24 v25 v26 v27 v28 v29 v30 v31 v32 v33 v34 v35 v36 v37 v38 v39 v40 v41 v42 v43 v44 v45 v46 v47 v48 v49 v50 v51 v52 v53 v54 v55 v56 v57 v58 v59 v60 v61 v62 v63 v64 v65 v66 v67 v68 v69 v70 v71 v72 v73 v74 v75 v76 v77 v78 v79 v80 v81 v82 v83 v84 v85 v86 v87 v88 v89 v90 v91 v92 v93 v94 v95 v96 v97 v98 v99 v100 v101 v102 v103 v104 v105 v106 v107 v108 v109 v110 v111 v112 v113 v114 v115 v116 v117 v118 v119 v120 v121 v122 v123 v124 v125 v126 v127 v128 v129 v130 v131 v132 v133 v134 v135 v136 v137 v138 v139 v140 v141 v142 v143 v144 v145 v146 v147 v148 v149 v150 v151 v152 v153 v154 v155 v156 v157 v158 v159 v160 v161 v162 v163 v164 v165 v166 v167 v168 v169 v170 v171 v172 v173 v174 v175 v176 v177 v178 v179 v180 v181 v182 v183 v184 v185 v186 v187 v188 v189 v190 v191 v192 v193 v194 v195 v196 v197 v198 v199 v200 v201 v202 v203 v204 v205 v206 v207 v208 v209 v210 v211 v212 v213 v214 v215 v216 v217 v218 v219 v220 v221 v222 v223 v224 v225 v226 v227 v228 v229 v230 v231 : Value), Q .normal ⟨#[.slice p0 n0 c0, u1, v2, .pointer (some ⟨BT, 0, none⟩), .slice ai L1 bi, .slice ar L1 br, .slice ag L1 bg, .int .i64 (k + 1 : Nat), v8, v9, v10, v11, v12, v13, v14, v15, v16, v17, v18, v19, v20, v21, v22, v23, v24, v25, v26, v27, v28, v29, v30, v31, v32, v33, v34, v35, v36, v37, v38, v39, v40, v41, v42, v43, v44, v45, v46, v47, v48, v49, v50, v51, v52, v53, v54, v55, v56, v57, v58, v59, v60, v61, v62, v63, v64, v65, v66, v67, v68, v69, v70, v71, v72, v73, v74, v75, v76, v77, v78, v79, v80, v81, v82, v83, v84, v85, v86, v87, v88, v89, v90, v91, v92, v93, v94, v95, v96, v97, v98, v99, v100, v101, v102, v103, v104, v105, v106, v107, v108, v109, v110, v111, v112, v113, v114, v115, v116, v117, v118, v119, v120, v121, v122, v123, v124, v125, v126, v127, v128, v129, v130, v131, v132, v133, v134, v135, v136, v137, v138, v139, v140, v141, v142, v143, v144, v145, v146, v147, v148, v149, v150, v151, v152, v153, v154, v155, v156, v157, v158, v159, v160, v161, v162, v163, v164, v165, v166, v167, v168, v169, v170, v171, v172, v173, v174, v175, v176, v177, v178, v179, v180, v181, v182, v183, v184, v185, v186, v187, v188, v189, v190, v191, v192, v193, v194, v195, v196, v197, v198, v199, v200, v201, v202, v203, v204, v205, v206, v207, v208, v209, v210, v211, v212, v213, v214, v215, v216, v217, v218, v219, v220, v221, v222, v223, v224, v225, v226, v227, v228, v229, v230, v231, u232, u233, u234, u235, u236], []⟩ W)
    (hE : ∀ (v21 v22 v23 v24 v25 v26 v27 v28 : Value), Q (.exit 0) ⟨#[.slice p0 n0 c0, u1, u2, .pointer (some ⟨BT, 0, none⟩), .slice qi ni ci, .slice qr ni cr, .slice qg ni cg, .int .i64 k, u8, u9, u10, u11, u12, u13, u14, u15, u16, u17, u18, u19, u20, v21, v22, v23, v24, v25, v26, v27, v28, u29, u30, u31, u32, u33, u34, u35, u36, u37, u38, u39, u40, u41, u42, u43, u44, u45, u46, u47, u48, u49, u50, u51, u52, u53, u54, u55, u56, u57, u58, u59, u60, u61, u62, u63, u64, u65, u66, u67, u68, u69, u70, u71, u72, u73, u74, u75, u76, u77, u78, u79, u80, u81, u82, u83, u84, u85, u86, u87, u88, u89, u90, u91, u92, u93, u94, u95, u96, u97, u98, u99, u100, u101, u102, u103, u104, u105, u106, u107, u108, u109, u110, u111, u112, u113, u114, u115, u116, u117, u118, u119, u120, u121, u122, u123, u124, u125, u126, u127, u128, u129, u130, u131, u132, u133, u134, u135, u136, u137, u138, u139, u140, u141, u142, u143, u144, u145, u146, u147, u148, u149, u150, u151, u152, u153, u154, u155, u156, u157, u158, u159, u160, u161, u162, u163, u164, u165, u166, u167, u168, u169, u170, u171, u172, u173, u174, u175, u176, u177, u178, u179, u180, u181, u182, u183, u184, u185, u186, u187, u188, u189, u190, u191, u192, u193, u194, u195, u196, u197, u198, u199, u200, u201, u202, u203, u204, u205, u206, u207, u208, u209, u210, u211, u212, u213, u214, u215, u216, u217, u218, u219, u220, u221, u222, u223, u224, u225, u226, u227, u228, u229, u230, u231, u232, u233, u234, u235, u236], []⟩ wr) :
    Code.wp Try.prog bodL Q ⟨#[.slice p0 n0 c0, u1, u2, .pointer (some ⟨BT, 0, none⟩), .slice qi ni ci, .slice qr ni cr, .slice qg ni cg, .int .i64 k, u8, u9, u10, u11, u12, u13, u14, u15, u16, u17, u18, u19, u20, u21, u22, u23, u24, u25, u26, u27, u28, u29, u30, u31, u32, u33, u34, u35, u36, u37, u38, u39, u40, u41, u42, u43, u44, u45, u46, u47, u48, u49, u50, u51, u52, u53, u54, u55, u56, u57, u58, u59, u60, u61, u62, u63, u64, u65, u66, u67, u68, u69, u70, u71, u72, u73, u74, u75, u76, u77, u78, u79, u80, u81, u82, u83, u84, u85, u86, u87, u88, u89, u90, u91, u92, u93, u94, u95, u96, u97, u98, u99, u100, u101, u102, u103, u104, u105, u106, u107, u108, u109, u110, u111, u112, u113, u114, u115, u116, u117, u118, u119, u120, u121, u122, u123, u124, u125, u126, u127, u128, u129, u130, u131, u132, u133, u134, u135, u136, u137, u138, u139, u140, u141, u142, u143, u144, u145, u146, u147, u148, u149, u150, u151, u152, u153, u154, u155, u156, u157, u158, u159, u160, u161, u162, u163, u164, u165, u166, u167, u168, u169, u170, u171, u172, u173, u174, u175, u176, u177, u178, u179, u180, u181, u182, u183, u184, u185, u186, u187, u188, u189, u190, u191, u192, u193, u194, u195, u196, u197, u198, u199, u200, u201, u202, u203, u204, u205, u206, u207, u208, u209, u210, u211, u212, u213, u214, u215, u216, u217, u218, u219, u220, u221, u222, u223, u224, u225, u226, u227, u228, u229, u230, u231, u232, u233, u234, u235, u236], []⟩ wr := by
  conv => arg 2; whnf
  have HN := Lib.hid hN
  have HE := Lib.hid hE
  have HP := Lib.hid hP
  clear hN hE hP
  have hk0 : (0 : Int) ≤ k := Int.natCast_nonneg _
  have hexit : ((k : Int) < n0 ∧ (k : Int) < 120) ∨ ((k : Int) < n0 ∧ ¬ (k : Int) < 120) ∨ ¬ (k : Int) < n0 := by omega
  rcases hexit with ⟨hkm, hk20⟩ | hexit2
  · obtain ⟨x, ab, ao, hx, rfl, c0', c1', c2'⟩ := act15_at (Hr.out w (Below.refl _ _)) (show k < n0 by omega)
    have HWx := Lib.hid (Hwf.out k x hx)
    obtain ⟨kd, wh, rf⟩ := x
    simp only at c0' c1' c2'
    have HA := Lib.hid (fun W (h : Below w.heap.size w W) => (⟨cell_keep h c0', cell_keep h c1', cell_keep h c2'⟩ : W.cell? ⟨ab, ao + k * 3, none⟩ = some (.int .i64 kd) ∧ W.cell? ⟨ab, ao + k * 3 + 1, none⟩ = some (.int .i64 wh) ∧ W.cell? ⟨ab, ao + k * 3 + 2, none⟩ = some (.int .u64 rf)))
    clear hx c0' c1' c2'
    obtain ⟨a0, a1, a2⟩ := HA.out _ HL.out.bel
    go_upto_region 10 with fail
    go_upto_if 34 with fail
    go_cut [9] from 35 to 45 (fun tj wx => ∃ J : Nat, tj = .int .i64 J ∧ (0 < ni → J < ni) ∧ wr = wx)
    case first =>
      by_cases hni : 0 < ni
      · have hni2 : (0 : Int) < ni := by omega
        have ht5 : -(ni : Int) < wh.tmod ni := Int.lt_tmod_of_pos wh hni2
        have ht6 : wh.tmod ni < ni := Int.tmod_lt_of_pos wh hni2
        have hJ0 : 0 ≤ wh.tmod ni % ni := Int.emod_nonneg _ (by omega)
        have hJ1 : wh.tmod ni % ni < ni := Int.emod_lt_of_pos _ hni2
        have hJ4 : ¬ (ni : Int) = 0 := by omega
        have hJ5 : (wh.tmod ni + ni).tmod ni = wh.tmod ni % ni := by rw [Int.tmod_eq_emod_of_nonneg (by omega), Int.add_emod_right]
        obtain ⟨J, hJ⟩ : ∃ J : Nat, wh.tmod ni % ni = J := ⟨(wh.tmod ni % ni).toNat, by omega⟩
        go_wp2_with fail
        go_meet
        exact ⟨J, rfl, fun _ => by omega, rfl⟩
      · go_wp2_with fail
        go_meet
        exact ⟨0, by simp, fun h => absurd h hni, rfl⟩
    case rest =>
      obtain ⟨J, rfl, hJ, rfl⟩ := hcut
      have ht1 : -4 < kd.tmod 4 := Int.lt_tmod_of_pos kd (by decide)
      have ht2 : kd.tmod 4 < 4 := Int.tmod_lt_of_pos kd (by decide)
      obtain ⟨K, hK⟩ : ∃ K, (kd.tmod 4 + 4) % 4 = K := ⟨_, rfl⟩
      have hKc : K = 0 ∨ K = 1 ∨ K = 2 ∨ K = 3 := by omega
      go_upto_block 2 with fail
      try rw [hK]
      clear ht1 ht2 hK a0 a1
      have HAa := Lib.hid (fun W hB => (HA.out W hB).2.2)
      refine sw_any (fun c a d v W h => by first | exact HP.out c a d v W h | (cases d <;> exact h)) hk0 hkm hnk hk120 hk20 HL HF HWx HAa hKc hJ ?_ ?_
      · intro L1 pt nt ct t1 ai bi i1 ar br r1 ag bg g1 W hL1 hlf hls v2 v10 v11 v12 v13 v14 v15 v16 v17 v54 v55 v56 v57 v58 v59 v60 v61 v62 v63 v64 v65 v66 v67 v68 v69 v70 v71 v72 v73 v74 v75 v76 v77 v78 v79 v80 v81 v82 v83 v84 v85 v86 v87 v88 v89 v90 v91 v92 v93 v94 v95 v96 v97 v98 v99 v100 v101 v102 v103 v104 v105 v106 v107 v108 v109 v110 v111 v112 v113 v114 v115 v116 v117 v118 v119 v120 v121 v122 v123 v124 v125 v126 v127 v128 v129 v130 v131 v132 v133 v134 v135 v136 v137 v138 v139 v140 v141 v142 v143 v144 v145 v146 v147 v148 v149 v150 v151 v152 v153 v154 v155 v156 v157 v158 v159 v160 v161 v162 v163 v164 v165
        have HLe := Lib.hid hls
        have HFe := Lib.hid hlf
        clear hls hlf HL HF hJ hKc
        have hL63 : (L1 : Int) ≤ 121 := by omega
        go_upto_block 3 with fail
        refine blk3 (fun c a d v W h => by first | exact HP.out c a d v W h | (cases d <;> exact h)) hL63 HLe HFe ?_
        intro W2 hls y2 y19 y20 y166 y167 y168 y169 y170 y171 y172 y173 y174 y175 y176 y177 y178 y179 y180 y181 y182 y183 y184 y185 y186 y187 y188 y189 y190 y191 y192 y193 y194 y195 y196 y197 y198 y199 y200 y201 y202 y203 y204 y205 y206 y207 y208 y209 y210 y211 y212 y213 y214 y215 y216 y217 y218 y219 y220 y221 y222 y223 y224 y225 y226 y227 y228 y229 y230 y231
        go_wp2_with fail
        exact HN.out L1 pt nt ct t1 ai bi i1 ar br r1 ag bg g1 W2 (by omega) hL1 (by omega) HFe.out hls _ _ _ _ _ _ _ _ _ _ _ _ _ _ _ _ _ _ _ _ _ _ _ _ _ _ _ _ _ _ _ _ _ _ _ _ _ _ _ _ _ _ _ _ _ _ _ _ _ _ _ _ _ _ _ _ _ _ _ _ _ _ _ _ _ _ _ _ _ _ _ _ _ _ _ _ _ _ _ _ _ _ _ _ _ _ _ _ _ _ _ _ _ _ _ _ _ _ _ _ _ _ _ _ _ _ _ _ _ _ _ _ _ _ _ _ _ _ _ _ _ _ _ _ _ _ _ _ _ _ _ _ _ _ _ _ _ _ _ _ _ _ _ _ _ _ _ _ _ _ _ _ _ _ _ _ _ _ _ _ _ _ _ _ _ _ _ _ _ _ _ _ _ _ _ _ _ _ _ _ _ _ _ _ _ _ _ _ _ _ _ _ _ _ _ _ _ _ _ _ _ _ _ _ _ _ _ _ _ _ _ _ _ _ _ _ _ _ _ _ _ _ _ _ _
      · intro W hls v2 v10 v11 v12 v13 v14 v15 v16 v17 v54 v55 v56 v57 v58 v59 v60 v61 v62 v63 v64 v65 v66 v67 v68 v69 v70 v71 v72 v73 v74 v75 v76 v77 v78 v79 v80 v81 v82 v83 v84 v85 v86 v87 v88 v89 v90 v91 v92 v93 v94 v95 v96 v97 v98 v99 v100 v101 v102 v103 v104 v105 v106 v107 v108 v109 v110 v111 v112 v113 v114 v115 v116 v117 v118 v119 v120 v121 v122 v123 v124 v125 v126 v127 v128 v129 v130 v131 v132 v133 v134 v135 v136 v137 v138 v139 v140 v141 v142 v143 v144 v145 v146 v147 v148 v149 v150 v151 v152 v153 v154 v155 v156 v157 v158 v159 v160 v161 v162 v163 v164 v165
        go_wp2_with fail
        exact HN.out ni p n c t qi ci is qr cr rs qg cg gn W (by omega) (by omega) (by omega) HF.out hls _ _ _ _ _ _ _ _ _ _ _ _ _ _ _ _ _ _ _ _ _ _ _ _ _ _ _ _ _ _ _ _ _ _ _ _ _ _ _ _ _ _ _ _ _ _ _ _ _ _ _ _ _ _ _ _ _ _ _ _ _ _ _ _ _ _ _ _ _ _ _ _ _ _ _ _ _ _ _ _ _ _ _ _ _ _ _ _ _ _ _ _ _ _ _ _ _ _ _ _ _ _ _ _ _ _ _ _ _ _ _ _ _ _ _ _ _ _ _ _ _ _ _ _ _ _ _ _ _ _ _ _ _ _ _ _ _ _ _ _ _ _ _ _ _ _ _ _ _ _ _ _ _ _ _ _ _ _ _ _ _ _ _ _ _ _ _ _ _ _ _ _ _ _ _ _ _ _ _ _ _ _ _ _ _ _ _ _ _ _ _ _ _ _ _ _ _ _ _ _ _ _ _ _ _ _ _ _ _ _ _ _ _ _ _ _ _ _ _ _ _ _ _ _ _
  · rcases hexit2 with ⟨hkm, hk20⟩ | hkm
    all_goals
      go_wp2_with fail
      exact HE.out _ _ _ _ _ _ _ _
end Go.Proofs.Ytggaaobpaodigaa
