/- An arm of SlotsLife's switch. -/
import Derived.Test.YtggaaobpaodigaaSlRa
import Derived.Deep.DeepCutAuto
import Derived.Deep.CutBlock
set_option linter.unusedVariables false
set_option linter.unusedSimpArgs false
namespace Go.Proofs.Ytggaaobpaodigaa
open Go.RowKit

set_option maxRecDepth 100000 in
set_option maxHeartbeats 6400000 in
theorem lawLife15 (p0 : Option Addr) (n0 c0 : Nat) (ac : List Ac15) (w : World) (hr : VRow w 3 p0 n0 c0 (ac.flatMap aC)) (hwf : ∀ (k : Nat) (a : Ac15), ac[k]? = some a → (Lit.int .u64 a.rf).wf = true) :
    Calls Try.prog 3 #[.slice p0 n0 c0] w fun e w' => e = .returned (.bool true) ∧ Below w.heap.size w w' := by
  have Hr := Lib.hid (fun w' (h : Below w.heap.size w w') => hr.keep h)
  have hn63 := hr.i63.2
  have Hwf := Lib.hid hwf
  obtain ⟨iI, hinI, hI0, hI1, hI2⟩ := info_parts infoPr15
  obtain ⟨iR, hinR, hR0, hR1, hR2⟩ := info_parts infoU
  obtain ⟨iG, hinG, hG0, hG1, hG2⟩ := info_parts infoBo
  clear hr hwf
  go_enter Try.func3, Try.ntmps3
  go_upto_region 6 with fail
  obtain ⟨w1, hw1⟩ : ∃ w1, w.alloc (.cells #[.slice none 0 0] 25) = w1 := ⟨_, rfl⟩
  have hX := OwnL.new w [.slice none 0 0] 25
  rw [hw1] at hX ⊢
  have hBT := boxLt hX
  have HL := Lib.hid (show LS w w1 w1.heap.size w.heap.size none 0 0 [] none 0 0 [] none 0 0 [] none 0 0 [] from
    ⟨hX, World.ownsRow_nil _ _ _ _, World.ownsRow_nil _ _ _ _, World.ownsRow_nil _ _ _ _, World.ownsRow_nil _ _ _ _, by rw [← hw1]; exact below_box, Nat.le_refl _, hBT, Nat.le_refl _⟩)
  obtain ⟨BT, hB⟩ : ∃ BT, w.heap.size = BT := ⟨_, rfl⟩
  rw [hB] at HL ⊢
  obtain ⟨B0, hB0⟩ : ∃ B0, w1.heap.size = B0 := ⟨_, rfl⟩
  rw [hB0] at HL
  clear hw1 hX hBT hB hB0
  go_loopw [4, 5, 6, 7] (fun ti tr tg i wr => ∃ (k ni : Nat) (p : Option Addr) (n c : Nat) (t : List En) (qi : Option Addr) (ci : Nat) (is : List (Int × Int)) (qr : Option Addr) (cr : Nat) (rs : List Int) (qg : Option Addr) (cg : Nat) (gn : List Bool), k ≤ n0 ∧ ni ≤ k ∧ k ≤ 120 ∧ ti = .slice qi ni ci ∧ tr = .slice qr ni cr ∧ tg = .slice qg ni cg ∧ i = .int .i64 k ∧ Lf t is rs gn ∧ LS w wr B0 BT p n c t qi ni ci is qr ni cr rs qg ni cg gn) (fun _ _ _ i _ => n0 - (RowKit.intOf i).toNat)
  case atStart => exact ⟨0, 0, none, 0, 0, [], none, 0, [], none, 0, [], none, 0, [], by omega, by omega, by omega, rfl, rfl, rfl, rfl, Lf.zero, HL.out⟩
  case round =>
    clear HL
    obtain ⟨k, ni, p, n, c, t, qi, ci, is, qr, cr, rs, qg, cg, gn, hk, hnk, hk120, rfl, rfl, rfl, rfl, hlf, hls⟩ := hrel
    have HL := Lib.hid hls
    have HF := Lib.hid hlf
    refine rnd_any (fun _ _ d _ _ h => by cases d <;> exact h) hn63 hk hnk hk120 HL HF Hr Hwf ?_ ?_
    · intro L1 pt nt ct t1 ai bi i1 ar br r1 ag bg g1 W hk1 hL1 hk2 hlf2 hls2 v2 v8 v9 v10 v11 v12 v13 v14 v15 v16 v17 v18 v19 v20 v21 v22 v23 v24 v25 v26 v27 v28 v29 v30 v31 v32 v33 v34 v35 v36 v37 v38 v39 v40 v41 v42 v43 v44 v45 v46 v47 v48 v49 v50 v51 v52 v53 v54 v55 v56 v57 v58 v59 v60 v61 v62 v63 v64 v65 v66 v67 v68 v69 v70 v71 v72 v73 v74 v75 v76 v77 v78 v79 v80 v81 v82 v83 v84 v85 v86 v87 v88 v89 v90 v91 v92 v93 v94 v95 v96 v97 v98 v99 v100 v101 v102 v103 v104 v105 v106 v107 v108 v109 v110 v111 v112 v113 v114 v115 v116 v117 v118 v119 v120 v121 v122 v123 v124 v125 v126 v127 v128 v129 v130 v131 v132 v133 v134 v135 v136 v137 v138 v139 v140 v141 v142 v143 v144 v145 v146 v147 v148 v149 v150 v151 v152 v153 v154 v155 v156 v157 v158 v159 v160 v161 v162 v163 v164 v165 v166 v167 v168 v169 v170 v171 v172 v173 v174 v175 v176 v177 v178 v179 v180 v181 v182 v183 v184 v185 v186 v187 v188 v189 v190 v191 v192 v193 v194 v195 v196 v197 v198 v199 v200 v201 v202 v203 v204 v205 v206 v207 v208 v209 v210 v211 v212 v213 v214 v215 v216 v217 v218 v219 v220 v221 v222 v223 v224 v225 v226 v227 v228 v229 v230 v231
      dsimp only [Exit.then]
      go_roundw
      case rel => exact ⟨k + 1, L1, pt, nt, ct, t1, ai, bi, i1, ar, br, r1, ag, bg, g1, hk1, hL1, hk2, rfl, rfl, rfl, rfl, hlf2, hls2⟩
      case measure => simp [RowKit.intOf]; omega
    · intro v21 v22 v23 v24 v25 v26 v27 v28
      have HOk := Lib.hid HF.out.ok
      have hv := Lib.hid (fun W h => slValid_any p n c t W h)
      rw [HOk.out] at hv
      go_wp2_with fail
      refine (awake15 _).mono ?_
      rintro e v6 ⟨rfl, hb6⟩
      have HL6 := Lib.hid (HL.out.keep hb6)
      have y0 := HL6.out.box.cell 0 _ rfl
      clear hb6
      go_wp2_with fail
      refine (hv.out _ (vrowS HL6.out.T)).mono ?_
      rintro e v7 ⟨rfl, hb7⟩
      go_wp2
      go_ret
      exact ⟨rfl, bthen HL6.out.bel hb7⟩
end Go.Proofs.Ytggaaobpaodigaa
