/- A region of SlotsLife. -/
import Derived.Test.YtggaaobpaodigaaSlR0
import Derived.Test.YtggaaobpaodigaaSlZ
import Derived.Test.YtggaaobpaodigaaDraw
set_option linter.unusedVariables false
set_option linter.unusedSimpArgs false
namespace Go.Proofs.Ytggaaobpaodigaa
open Go.RowKit

set_option maxRecDepth 100000 in
set_option maxHeartbeats 6400000 in
theorem reg24 {Q : Exit → Act → World → Prop} (hP : ∀ c (a : Act) d v W, Q (.panic c) (a.put d v) W → Q (.panic c) a W) {w wr : World} {B0 BT : Nat} {p : Option Addr} {n c : Nat} {t : List En} {qi : Option Addr} {ni ci : Nat} {is : List (Int × Int)} {qr : Option Addr} {cr : Nat} {rs : List Int} {qg : Option Addr} {cg : Nat} {gn : List Bool} {ab ao n0 c0 k : Nat} {AT GE rf : Int} (hk0 : (0 : Int) ≤ k) (hkm : (k : Int) < n0) (hni63 : (ni : Int) ≤ 121)
    (HL : LS w wr B0 BT p n c t qi ni ci is qr ni cr rs qg ni cg gn) (hA : ∀ W, Below w.heap.size w W → W.cell? ⟨ab, ao + k * 3 + 2, none⟩ = some (.int .u64 rf))
    {u1 u2 u3 u8 u9 u10 u13 u14 u15 u16 u17 u18 u19 u20 u21 u22 u23 u24 u25 u26 u27 u28 u29 u30 u31 u32 u33 u34 u35 u36 u37 u38 u39 u40 u41 u42 u43 u44 u45 u46 u47 u48 u49 u50 u51 u52 u53 u54 u55 u56 u57 u58 u59 u60 u61 u62 u63 u64 u65 u66 u67 u68 u69 u70 u71 u72 u73 u74 u75 u76 u77 u78 u79 u80 u81 u82 u83 u84 u85 u86 u87 u88 u89 u90 u91 u92 u93 u94 u95 u96 u97 u98 u99 u100 u101 u102 u103 u104 u105 u106 u107 u108 u109 u110 u111 u112 u113 u114 u115 u116 u117 u118 u119 u120 u121 u122 u123 u124 u125 u126 u127 u128 u129 u130 u131 u132 u133 u134 u135 u136 u137 u138 u139 u140 u141 u142 u143 u144 u145 u146 u147 u148 u149 u150 u151 u152 u153 u154 u155 u156 u157 u158 u159 u160 u161 u162 u163 u164 u165 u166 u167 u168 u169 u170 u171 u172 u173 u174 u175 u176 u177 u178 u179 u180 u181 u182 u183 u184 u185 u186 u187 u188 u189 u190 u191 u192 u193 u194 u195 u196 u197 u198 u199 u200 u201 u202 u203 u204 u205 u206 u207 u208 u209 u210 u211 u212 u213 u214 u215 u216 u217 u218 u219 u220 u221 u222 u223 u224 u225 u226 u227 u228 u229 u230 u231 u232 u233 u234 u235 u236 : Value}
    (hK : ∀ (q1 : Option Addr) (d1 : Nat) (q2 : Option Addr) (d2 : Nat) (q3 : Option Addr) (d3 : Nat) (W : World), LS w W B0 BT p n c t q1 (ni + 1) d1 (is ++ [(AT, GE)]) q2 (ni + 1) d2 (rs ++ [rf]) q3 (ni + 1) d3 (gn ++ [false]) → ∀ (v107 v108 v109 v110 v111 v112 v113 v114 v115 v116 v117 v118 v119 v120 v121 v122 v123 : Value), Q .normal ⟨#[.slice (some ⟨ab, ao, none⟩) n0 c0, u1, u2, u3, .slice q1 (ni + 1) d1, .slice q2 (ni + 1) d2, .slice q3 (ni + 1) d3, .int .i64 k, u8, u9, u10, .int .i64 AT, .int .i64 GE, u13, u14, u15, u16, u17, u18, u19, u20, u21, u22, u23, u24, u25, u26, u27, u28, u29, u30, u31, u32, u33, u34, u35, u36, u37, u38, u39, u40, u41, u42, u43, u44, u45, u46, u47, u48, u49, u50, u51, u52, u53, u54, u55, u56, u57, u58, u59, u60, u61, u62, u63, u64, u65, u66, u67, u68, u69, u70, u71, u72, u73, u74, u75, u76, u77, u78, u79, u80, u81, u82, u83, u84, u85, u86, u87, u88, u89, u90, u91, u92, u93, u94, u95, u96, u97, u98, u99, u100, u101, u102, u103, u104, u105, u106, v107, v108, v109, v110, v111, v112, v113, v114, v115, v116, v117, v118, v119, v120, v121, v122, v123, u124, u125, u126, u127, u128, u129, u130, u131, u132, u133, u134, u135, u136, u137, u138, u139, u140, u141, u142, u143, u144, u145, u146, u147, u148, u149, u150, u151, u152, u153, u154, u155, u156, u157, u158, u159, u160, u161, u162, u163, u164, u165, u166, u167, u168, u169, u170, u171, u172, u173, u174, u175, u176, u177, u178, u179, u180, u181, u182, u183, u184, u185, u186, u187, u188, u189, u190, u191, u192, u193, u194, u195, u196, u197, u198, u199, u200, u201, u202, u203, u204, u205, u206, u207, u208, u209, u210, u211, u212, u213, u214, u215, u216, u217, u218, u219, u220, u221, u222, u223, u224, u225, u226, u227, u228, u229, u230, u231, u232, u233, u234, u235, u236], []⟩ W) :
    Code.wp Try.prog (regL 24) Q ⟨#[.slice (some ⟨ab, ao, none⟩) n0 c0, u1, u2, u3, .slice qi ni ci, .slice qr ni cr, .slice qg ni cg, .int .i64 k, u8, u9, u10, .int .i64 AT, .int .i64 GE, u13, u14, u15, u16, u17, u18, u19, u20, u21, u22, u23, u24, u25, u26, u27, u28, u29, u30, u31, u32, u33, u34, u35, u36, u37, u38, u39, u40, u41, u42, u43, u44, u45, u46, u47, u48, u49, u50, u51, u52, u53, u54, u55, u56, u57, u58, u59, u60, u61, u62, u63, u64, u65, u66, u67, u68, u69, u70, u71, u72, u73, u74, u75, u76, u77, u78, u79, u80, u81, u82, u83, u84, u85, u86, u87, u88, u89, u90, u91, u92, u93, u94, u95, u96, u97, u98, u99, u100, u101, u102, u103, u104, u105, u106, u107, u108, u109, u110, u111, u112, u113, u114, u115, u116, u117, u118, u119, u120, u121, u122, u123, u124, u125, u126, u127, u128, u129, u130, u131, u132, u133, u134, u135, u136, u137, u138, u139, u140, u141, u142, u143, u144, u145, u146, u147, u148, u149, u150, u151, u152, u153, u154, u155, u156, u157, u158, u159, u160, u161, u162, u163, u164, u165, u166, u167, u168, u169, u170, u171, u172, u173, u174, u175, u176, u177, u178, u179, u180, u181, u182, u183, u184, u185, u186, u187, u188, u189, u190, u191, u192, u193, u194, u195, u196, u197, u198, u199, u200, u201, u202, u203, u204, u205, u206, u207, u208, u209, u210, u211, u212, u213, u214, u215, u216, u217, u218, u219, u220, u221, u222, u223, u224, u225, u226, u227, u228, u229, u230, u231, u232, u233, u234, u235, u236], []⟩ wr := by
  conv => arg 2; whnf
  have HK := Lib.hid hK
  clear hK
  have HA := Lib.hid hA
  clear hA
  obtain ⟨iI, hinI, hI0, hI1, hI2⟩ := info_parts infoPr15
  obtain ⟨iR, hinR, hR0, hR1, hR2⟩ := info_parts infoU
  obtain ⟨iG, hinG, hG0, hG1, hG2⟩ := info_parts infoBo
  refine wp_region_held_drew (S := fun w' => w'.cell? ⟨ab, ao + k * 3 + 2, none⟩ = some (.int .u64 rf)) (by kernel_rfl) (HA.out _ (HL.bel.drew)) (fun hHeld => ?_)
  have HQ0 := Lib.hid (HL.keep (Below.refl _ _).drew)
  clear HL
  obtain ⟨W0, hW0⟩ : ∃ W, wr.drew = W := ⟨_, rfl⟩
  rw [hW0] at hHeld HQ0 ⊢
  clear hW0
  refine draw_take 0 107 (v := ?_) rfl rfl (by kernel_rfl) (by kernel_rfl) (by kernel_rfl) (fun c a W h => hP c a _ _ W h) (by kernel_rfl) ?hy hHeld ?_
  case hy => (intro w hSw; (try dsimp only at hSw); go_simp; try (with_reducible rfl))
  simp only [Act.put, List.setIfInBounds_toArray, List.set_cons_zero, List.set_cons_succ]
  refine draw_take 1 108 (v := ?_) rfl rfl (by kernel_rfl) (by kernel_rfl) (by kernel_rfl) (fun c a W h => hP c a _ _ W h) (by kernel_rfl) ?hy hHeld ?_
  case hy => (intro w hSw; (try dsimp only at hSw); go_simp; try (with_reducible rfl))
  simp only [Act.put, List.setIfInBounds_toArray, List.set_cons_zero, List.set_cons_succ]
  refine draw_take 2 109 (v := ?_) rfl rfl (by kernel_rfl) (by kernel_rfl) (by kernel_rfl) (fun c a W h => hP c a _ _ W h) (by kernel_rfl) ?hy hHeld ?_
  case hy => (intro w hSw; (try dsimp only at hSw); go_simp; try (with_reducible rfl))
  simp only [Act.put, List.setIfInBounds_toArray, List.set_cons_zero, List.set_cons_succ]
  refine draw_take 3 110 (v := ?_) rfl rfl (by kernel_rfl) (by kernel_rfl) (by kernel_rfl) (fun c a W h => hP c a _ _ W h) (by kernel_rfl) ?hy hHeld ?_
  case hy => (intro w hSw; (try dsimp only at hSw); go_simp; try (with_reducible rfl))
  simp only [Act.put, List.setIfInBounds_toArray, List.set_cons_zero, List.set_cons_succ]
  refine draw_take 6 113 (v := ?_) rfl rfl (by kernel_rfl) (by kernel_rfl) (by kernel_rfl) (fun c a W h => hP c a _ _ W h) (by kernel_rfl) ?hy hHeld ?_
  case hy => (intro w hSw; (try dsimp only at hSw); go_simp; try (with_reducible rfl))
  simp only [Act.put, List.setIfInBounds_toArray, List.set_cons_zero, List.set_cons_succ]
  refine draw_take 7 114 (v := ?_) rfl rfl (by kernel_rfl) (by kernel_rfl) (by kernel_rfl) (fun c a W h => hP c a _ _ W h) (by kernel_rfl) ?hy hHeld ?_
  case hy => (intro w hSw; (try dsimp only at hSw); go_simp; try (with_reducible rfl))
  simp only [Act.put, List.setIfInBounds_toArray, List.set_cons_zero, List.set_cons_succ]
  refine draw_take 8 115 (v := ?_) rfl rfl (by kernel_rfl) (by kernel_rfl) (by kernel_rfl) (fun c a W h => hP c a _ _ W h) (by kernel_rfl) ?hy hHeld ?_
  case hy => (intro w hSw; (try dsimp only at hSw); go_simp; try (with_reducible rfl))
  simp only [Act.put, List.setIfInBounds_toArray, List.set_cons_zero, List.set_cons_succ]
  refine draw_take 9 116 (v := ?_) rfl rfl (by kernel_rfl) (by kernel_rfl) (by kernel_rfl) (fun c a W h => hP c a _ _ W h) (by kernel_rfl) ?hy hHeld ?_
  case hy => (intro w hSw; (try dsimp only at hSw); go_simp; try (with_reducible rfl))
  simp only [Act.put, List.setIfInBounds_toArray, List.set_cons_zero, List.set_cons_succ]
  refine draw_take 10 117 (v := ?_) rfl rfl (by kernel_rfl) (by kernel_rfl) (by kernel_rfl) (fun c a W h => hP c a _ _ W h) (by kernel_rfl) ?hy hHeld ?_
  case hy => (intro w hSw; (try dsimp only at hSw); go_simp; try (with_reducible rfl))
  simp only [Act.put, List.setIfInBounds_toArray, List.set_cons_zero, List.set_cons_succ]
  refine draw_take 11 118 (v := ?_) rfl rfl (by kernel_rfl) (by kernel_rfl) (by kernel_rfl) (fun c a W h => hP c a _ _ W h) (by kernel_rfl) ?hy hHeld ?_
  case hy => (intro w hSw; (try dsimp only at hSw); go_simp; try (with_reducible rfl))
  simp only [Act.put, List.setIfInBounds_toArray, List.set_cons_zero, List.set_cons_succ]
  refine draw_take 14 121 (v := ?_) rfl rfl (by kernel_rfl) (by kernel_rfl) (by kernel_rfl) (fun c a W h => hP c a _ _ W h) (by kernel_rfl) ?hy hHeld ?_
  case hy => (intro w hSw; (try dsimp only at hSw); go_simp; try (with_reducible rfl))
  simp only [Act.put, List.setIfInBounds_toArray, List.set_cons_zero, List.set_cons_succ]
  refine wpAnyH_ready (rs := [4, 12, 15]) (by kernel_rfl) (by simp) ?_
  refine AllReadyH.cons rfl (fun K hK => ?_) (AllReadyH.cons rfl (fun K hK => ?_) (AllReadyH.cons rfl (fun K hK => ?_) AllReadyH.nil))
  · go_simp
    refine hK.out _ _ ((HA.out _ (bthen HQ0.out.bel below_box))) (fun hHeld => ?_)
    clear hK K
    try simp only [Act.put, List.setIfInBounds_toArray, List.set_cons_zero, List.set_cons_succ]
    have HQ1 := Lib.hid (HQ0.out.keep (below_box (o := .cells #[.int .i64 AT, .int .i64 GE] 35)))
    have HP11 := Lib.hid (show PB (W0.alloc (.cells #[.int .i64 AT, .int .i64 GE] 35)) W0.heap.size [.int .i64 AT, .int .i64 GE] 35 from heap_alloc_new _ _)
    obtain ⟨W1, hW1⟩ : ∃ W, W0.alloc (.cells #[.int .i64 AT, .int .i64 GE] 35) = W := ⟨_, rfl⟩
    rw [hW1] at hHeld HQ1 HP11 ⊢
    clear hW1
    refine wpAnyH_ready (rs := [5, 12, 15]) (by kernel_rfl) (by simp) ?_
    refine AllReadyH.cons rfl (fun K hK => ?_) (AllReadyH.cons rfl (fun K hK => ?_) (AllReadyH.cons rfl (fun K hK => ?_) AllReadyH.nil))
    · refine step_append_vrow (by rfl) (.tmp 107) (.tmp 111) 26 rfl B0 35 iI _ 2 16 Try.underlying26 hinI hI0 hI1 hI2 rfl (by decide) (.slice qi ni ci) ni (is.flatMap prD) rfl HQ1.out.I (some ⟨_, 0, none⟩) 1 1 [.int .i64 AT, .int .i64 GE] rfl (HP11.out.row rfl) (by simp [Value.oneCell']) (by unfold maxLen; omega) (by omega) HQ1.out.hi ?_
      intro q1 d1 W2 hown hgrow _
      have HQ2 := Lib.hid (HQ1.out.appI (x := (AT, GE)) hown hgrow)
      refine hK.out _ _ ((HA.out _ HQ2.out.bel)) (fun hHeld => ?_)
      clear hK K hown hgrow
      try simp only [Act.put, List.setIfInBounds_toArray, List.set_cons_zero, List.set_cons_succ]
      refine wpAnyH_ready (rs := [12, 15]) (by kernel_rfl) (by simp) ?_
      refine AllReadyH.cons rfl (fun K hK => ?_) (AllReadyH.cons rfl (fun K hK => ?_) AllReadyH.nil)
      · go_simp
        refine hK.out _ _ ((HA.out _ (bthen HQ2.out.bel below_box))) (fun hHeld => ?_)
        clear hK K
        try simp only [Act.put, List.setIfInBounds_toArray, List.set_cons_zero, List.set_cons_succ]
        have HQ3 := Lib.hid (HQ2.out.keep (below_box (o := .cells #[.int .u64 rf] 29)))
        have HP23 := Lib.hid (show PB (W2.alloc (.cells #[.int .u64 rf] 29)) W2.heap.size [.int .u64 rf] 29 from heap_alloc_new _ _)
        obtain ⟨W3, hW3⟩ : ∃ W, W2.alloc (.cells #[.int .u64 rf] 29) = W := ⟨_, rfl⟩
        rw [hW3] at hHeld HQ3 HP23 ⊢
        clear hW3
        refine wpAnyH_ready (rs := [13, 15]) (by kernel_rfl) (by simp) ?_
        refine AllReadyH.cons rfl (fun K hK => ?_) (AllReadyH.cons rfl (fun K hK => ?_) AllReadyH.nil)
        · refine step_append_vrow (by rfl) (.tmp 113) (.tmp 119) 27 rfl B0 29 iR _ 1 8 Try.underlying27 hinR hR0 hR1 hR2 rfl (by decide) (.slice qr ni cr) ni (ivals .u64 rs) rfl HQ3.out.R (some ⟨_, 0, none⟩) 1 1 [.int .u64 rf] rfl (HP23.out.row rfl) (by simp [Value.oneCell']) (by unfold maxLen; omega) (by omega) HQ3.out.hi ?_
          intro q2 d2 W4 hown hgrow _
          have HQ4 := Lib.hid (HQ3.out.appR hown hgrow)
          refine hK.out _ _ ((HA.out _ HQ4.out.bel)) (fun hHeld => ?_)
          clear hK K hown hgrow
          try simp only [Act.put, List.setIfInBounds_toArray, List.set_cons_zero, List.set_cons_succ]
          refine wpAnyH_ready (rs := [15]) (by kernel_rfl) (by simp) ?_
          refine AllReadyH.cons rfl (fun K hK => ?_) AllReadyH.nil
          · go_simp
            refine hK.out _ _ ((HA.out _ (bthen HQ4.out.bel below_box))) (fun hHeld => ?_)
            clear hK K
            try simp only [Act.put, List.setIfInBounds_toArray, List.set_cons_zero, List.set_cons_succ]
            have HQ5 := Lib.hid (HQ4.out.keep (below_box (o := .cells #[.bool false] 4)))
            have HP35 := Lib.hid (show PB (W4.alloc (.cells #[.bool false] 4)) W4.heap.size [.bool false] 4 from heap_alloc_new _ _)
            obtain ⟨W5, hW5⟩ : ∃ W, W4.alloc (.cells #[.bool false] 4) = W := ⟨_, rfl⟩
            rw [hW5] at hHeld HQ5 HP35 ⊢
            clear hW5
            refine wpAnyH_ready (rs := [16]) (by kernel_rfl) (by simp) ?_
            refine AllReadyH.cons rfl (fun K hK => ?_) AllReadyH.nil
            · refine step_append_vrow (by rfl) (.tmp 121) (.tmp 122) 28 rfl B0 4 iG _ 1 1 Try.underlying28 hinG hG0 hG1 hG2 rfl (by decide) (.slice qg ni cg) ni (bvals gn) rfl HQ5.out.G (some ⟨_, 0, none⟩) 1 1 [.bool false] rfl (HP35.out.row rfl) (by simp [Value.oneCell']) (by unfold maxLen; omega) (by omega) HQ5.out.hi ?_
              intro q3 d3 W6 hown hgrow _
              have HQ6 := Lib.hid (HQ5.out.appG hown hgrow)
              refine hK.out _ _ ((HA.out _ HQ6.out.bel)) (fun hHeld => ?_)
              clear hK K hown hgrow
              try simp only [Act.put, List.setIfInBounds_toArray, List.set_cons_zero, List.set_cons_succ]
              refine draw_take 17 4 (v := ?_) rfl rfl (by kernel_rfl) (by kernel_rfl) (by kernel_rfl) (fun c a W h => hP c a _ _ W h) (by kernel_rfl) ?hy hHeld ?_
              case hy => (intro w hSw; (try dsimp only at hSw); go_simp; try (with_reducible rfl))
              simp only [Act.put, List.setIfInBounds_toArray, List.set_cons_zero, List.set_cons_succ]
              refine draw_take 18 5 (v := ?_) rfl rfl (by kernel_rfl) (by kernel_rfl) (by kernel_rfl) (fun c a W h => hP c a _ _ W h) (by kernel_rfl) ?hy hHeld ?_
              case hy => (intro w hSw; (try dsimp only at hSw); go_simp; try (with_reducible rfl))
              simp only [Act.put, List.setIfInBounds_toArray, List.set_cons_zero, List.set_cons_succ]
              refine draw_take 19 6 (v := ?_) rfl rfl (by kernel_rfl) (by kernel_rfl) (by kernel_rfl) (fun c a W h => hP c a _ _ W h) (by kernel_rfl) ?hy hHeld ?_
              case hy => (intro w hSw; (try dsimp only at hSw); go_simp; try (with_reducible rfl))
              simp only [Act.put, List.setIfInBounds_toArray, List.set_cons_zero, List.set_cons_succ]
              refine wpAnyH_done (by kernel_rfl) ?_ _
              exact HK.out q1 d1 q2 d2 q3 d3 _ HQ6.out _ _ _ _ _ _ _ _ _ _ _ _ _ _ _ _ _
        · go_simp
          refine hK.out _ _ ((HA.out _ (bthen HQ3.out.bel below_box))) (fun hHeld => ?_)
          clear hK K
          try simp only [Act.put, List.setIfInBounds_toArray, List.set_cons_zero, List.set_cons_succ]
          have HQ4 := Lib.hid (HQ3.out.keep (below_box (o := .cells #[.bool false] 4)))
          have HP34 := Lib.hid (show PB (W3.alloc (.cells #[.bool false] 4)) W3.heap.size [.bool false] 4 from heap_alloc_new _ _)
          have HP24 := Lib.hid (HP23.out.keep (below_box (o := .cells #[.bool false] 4)))
          obtain ⟨W4, hW4⟩ : ∃ W, W3.alloc (.cells #[.bool false] 4) = W := ⟨_, rfl⟩
          rw [hW4] at hHeld HQ4 HP24 HP34 ⊢
          clear hW4
          refine wpAnyH_ready (rs := [13]) (by kernel_rfl) (by simp) ?_
          refine AllReadyH.cons rfl (fun K hK => ?_) AllReadyH.nil
          · refine step_append_vrow (by rfl) (.tmp 113) (.tmp 119) 27 rfl B0 29 iR _ 1 8 Try.underlying27 hinR hR0 hR1 hR2 rfl (by decide) (.slice qr ni cr) ni (ivals .u64 rs) rfl HQ4.out.R (some ⟨_, 0, none⟩) 1 1 [.int .u64 rf] rfl (HP24.out.row rfl) (by simp [Value.oneCell']) (by unfold maxLen; omega) (by omega) HQ4.out.hi ?_
            intro q2 d2 W5 hown hgrow _
            have HQ5 := Lib.hid (HQ4.out.appR hown hgrow)
            have HP35 := Lib.hid (HP34.out.grown HQ4.out.R hgrow (by decide))
            refine hK.out _ _ ((HA.out _ HQ5.out.bel)) (fun hHeld => ?_)
            clear hK K hown hgrow
            try simp only [Act.put, List.setIfInBounds_toArray, List.set_cons_zero, List.set_cons_succ]
            refine wpAnyH_ready (rs := [16]) (by kernel_rfl) (by simp) ?_
            refine AllReadyH.cons rfl (fun K hK => ?_) AllReadyH.nil
            · refine step_append_vrow (by rfl) (.tmp 121) (.tmp 122) 28 rfl B0 4 iG _ 1 1 Try.underlying28 hinG hG0 hG1 hG2 rfl (by decide) (.slice qg ni cg) ni (bvals gn) rfl HQ5.out.G (some ⟨_, 0, none⟩) 1 1 [.bool false] rfl (HP35.out.row rfl) (by simp [Value.oneCell']) (by unfold maxLen; omega) (by omega) HQ5.out.hi ?_
              intro q3 d3 W6 hown hgrow _
              have HQ6 := Lib.hid (HQ5.out.appG hown hgrow)
              refine hK.out _ _ ((HA.out _ HQ6.out.bel)) (fun hHeld => ?_)
              clear hK K hown hgrow
              try simp only [Act.put, List.setIfInBounds_toArray, List.set_cons_zero, List.set_cons_succ]
              refine draw_take 17 4 (v := ?_) rfl rfl (by kernel_rfl) (by kernel_rfl) (by kernel_rfl) (fun c a W h => hP c a _ _ W h) (by kernel_rfl) ?hy hHeld ?_
              case hy => (intro w hSw; (try dsimp only at hSw); go_simp; try (with_reducible rfl))
              simp only [Act.put, List.setIfInBounds_toArray, List.set_cons_zero, List.set_cons_succ]
              refine draw_take 18 5 (v := ?_) rfl rfl (by kernel_rfl) (by kernel_rfl) (by kernel_rfl) (fun c a W h => hP c a _ _ W h) (by kernel_rfl) ?hy hHeld ?_
              case hy => (intro w hSw; (try dsimp only at hSw); go_simp; try (with_reducible rfl))
              simp only [Act.put, List.setIfInBounds_toArray, List.set_cons_zero, List.set_cons_succ]
              refine draw_take 19 6 (v := ?_) rfl rfl (by kernel_rfl) (by kernel_rfl) (by kernel_rfl) (fun c a W h => hP c a _ _ W h) (by kernel_rfl) ?hy hHeld ?_
              case hy => (intro w hSw; (try dsimp only at hSw); go_simp; try (with_reducible rfl))
              simp only [Act.put, List.setIfInBounds_toArray, List.set_cons_zero, List.set_cons_succ]
              refine wpAnyH_done (by kernel_rfl) ?_ _
              exact HK.out q1 d1 q2 d2 q3 d3 _ HQ6.out _ _ _ _ _ _ _ _ _ _ _ _ _ _ _ _ _
      · go_simp
        refine hK.out _ _ ((HA.out _ (bthen HQ2.out.bel below_box))) (fun hHeld => ?_)
        clear hK K
        try simp only [Act.put, List.setIfInBounds_toArray, List.set_cons_zero, List.set_cons_succ]
        have HQ3 := Lib.hid (HQ2.out.keep (below_box (o := .cells #[.bool false] 4)))
        have HP33 := Lib.hid (show PB (W2.alloc (.cells #[.bool false] 4)) W2.heap.size [.bool false] 4 from heap_alloc_new _ _)
        obtain ⟨W3, hW3⟩ : ∃ W, W2.alloc (.cells #[.bool false] 4) = W := ⟨_, rfl⟩
        rw [hW3] at hHeld HQ3 HP33 ⊢
        clear hW3
        refine wpAnyH_ready (rs := [12]) (by kernel_rfl) (by simp) ?_
        refine AllReadyH.cons rfl (fun K hK => ?_) AllReadyH.nil
        · go_simp
          refine hK.out _ _ ((HA.out _ (bthen HQ3.out.bel below_box))) (fun hHeld => ?_)
          clear hK K
          try simp only [Act.put, List.setIfInBounds_toArray, List.set_cons_zero, List.set_cons_succ]
          have HQ4 := Lib.hid (HQ3.out.keep (below_box (o := .cells #[.int .u64 rf] 29)))
          have HP24 := Lib.hid (show PB (W3.alloc (.cells #[.int .u64 rf] 29)) W3.heap.size [.int .u64 rf] 29 from heap_alloc_new _ _)
          have HP34 := Lib.hid (HP33.out.keep (below_box (o := .cells #[.int .u64 rf] 29)))
          obtain ⟨W4, hW4⟩ : ∃ W, W3.alloc (.cells #[.int .u64 rf] 29) = W := ⟨_, rfl⟩
          rw [hW4] at hHeld HQ4 HP34 HP24 ⊢
          clear hW4
          refine wpAnyH_ready (rs := [13]) (by kernel_rfl) (by simp) ?_
          refine AllReadyH.cons rfl (fun K hK => ?_) AllReadyH.nil
          · refine step_append_vrow (by rfl) (.tmp 113) (.tmp 119) 27 rfl B0 29 iR _ 1 8 Try.underlying27 hinR hR0 hR1 hR2 rfl (by decide) (.slice qr ni cr) ni (ivals .u64 rs) rfl HQ4.out.R (some ⟨_, 0, none⟩) 1 1 [.int .u64 rf] rfl (HP24.out.row rfl) (by simp [Value.oneCell']) (by unfold maxLen; omega) (by omega) HQ4.out.hi ?_
            intro q2 d2 W5 hown hgrow _
            have HQ5 := Lib.hid (HQ4.out.appR hown hgrow)
            have HP35 := Lib.hid (HP34.out.grown HQ4.out.R hgrow (by decide))
            refine hK.out _ _ ((HA.out _ HQ5.out.bel)) (fun hHeld => ?_)
            clear hK K hown hgrow
            try simp only [Act.put, List.setIfInBounds_toArray, List.set_cons_zero, List.set_cons_succ]
            refine wpAnyH_ready (rs := [16]) (by kernel_rfl) (by simp) ?_
            refine AllReadyH.cons rfl (fun K hK => ?_) AllReadyH.nil
            · refine step_append_vrow (by rfl) (.tmp 121) (.tmp 122) 28 rfl B0 4 iG _ 1 1 Try.underlying28 hinG hG0 hG1 hG2 rfl (by decide) (.slice qg ni cg) ni (bvals gn) rfl HQ5.out.G (some ⟨_, 0, none⟩) 1 1 [.bool false] rfl (HP35.out.row rfl) (by simp [Value.oneCell']) (by unfold maxLen; omega) (by omega) HQ5.out.hi ?_
              intro q3 d3 W6 hown hgrow _
              have HQ6 := Lib.hid (HQ5.out.appG hown hgrow)
              refine hK.out _ _ ((HA.out _ HQ6.out.bel)) (fun hHeld => ?_)
              clear hK K hown hgrow
              try simp only [Act.put, List.setIfInBounds_toArray, List.set_cons_zero, List.set_cons_succ]
              refine draw_take 17 4 (v := ?_) rfl rfl (by kernel_rfl) (by kernel_rfl) (by kernel_rfl) (fun c a W h => hP c a _ _ W h) (by kernel_rfl) ?hy hHeld ?_
              case hy => (intro w hSw; (try dsimp only at hSw); go_simp; try (with_reducible rfl))
              simp only [Act.put, List.setIfInBounds_toArray, List.set_cons_zero, List.set_cons_succ]
              refine draw_take 18 5 (v := ?_) rfl rfl (by kernel_rfl) (by kernel_rfl) (by kernel_rfl) (fun c a W h => hP c a _ _ W h) (by kernel_rfl) ?hy hHeld ?_
              case hy => (intro w hSw; (try dsimp only at hSw); go_simp; try (with_reducible rfl))
              simp only [Act.put, List.setIfInBounds_toArray, List.set_cons_zero, List.set_cons_succ]
              refine draw_take 19 6 (v := ?_) rfl rfl (by kernel_rfl) (by kernel_rfl) (by kernel_rfl) (fun c a W h => hP c a _ _ W h) (by kernel_rfl) ?hy hHeld ?_
              case hy => (intro w hSw; (try dsimp only at hSw); go_simp; try (with_reducible rfl))
              simp only [Act.put, List.setIfInBounds_toArray, List.set_cons_zero, List.set_cons_succ]
              refine wpAnyH_done (by kernel_rfl) ?_ _
              exact HK.out q1 d1 q2 d2 q3 d3 _ HQ6.out _ _ _ _ _ _ _ _ _ _ _ _ _ _ _ _ _
    · go_simp
      refine hK.out _ _ ((HA.out _ (bthen HQ1.out.bel below_box))) (fun hHeld => ?_)
      clear hK K
      try simp only [Act.put, List.setIfInBounds_toArray, List.set_cons_zero, List.set_cons_succ]
      have HQ2 := Lib.hid (HQ1.out.keep (below_box (o := .cells #[.int .u64 rf] 29)))
      have HP22 := Lib.hid (show PB (W1.alloc (.cells #[.int .u64 rf] 29)) W1.heap.size [.int .u64 rf] 29 from heap_alloc_new _ _)
      have HP12 := Lib.hid (HP11.out.keep (below_box (o := .cells #[.int .u64 rf] 29)))
      obtain ⟨W2, hW2⟩ : ∃ W, W1.alloc (.cells #[.int .u64 rf] 29) = W := ⟨_, rfl⟩
      rw [hW2] at hHeld HQ2 HP12 HP22 ⊢
      clear hW2
      refine wpAnyH_ready (rs := [5, 15]) (by kernel_rfl) (by simp) ?_
      refine AllReadyH.cons rfl (fun K hK => ?_) (AllReadyH.cons rfl (fun K hK => ?_) AllReadyH.nil)
      · refine step_append_vrow (by rfl) (.tmp 107) (.tmp 111) 26 rfl B0 35 iI _ 2 16 Try.underlying26 hinI hI0 hI1 hI2 rfl (by decide) (.slice qi ni ci) ni (is.flatMap prD) rfl HQ2.out.I (some ⟨_, 0, none⟩) 1 1 [.int .i64 AT, .int .i64 GE] rfl (HP12.out.row rfl) (by simp [Value.oneCell']) (by unfold maxLen; omega) (by omega) HQ2.out.hi ?_
        intro q1 d1 W3 hown hgrow _
        have HQ3 := Lib.hid (HQ2.out.appI (x := (AT, GE)) hown hgrow)
        have HP23 := Lib.hid (HP22.out.grown HQ2.out.I hgrow (by decide))
        refine hK.out _ _ ((HA.out _ HQ3.out.bel)) (fun hHeld => ?_)
        clear hK K hown hgrow
        try simp only [Act.put, List.setIfInBounds_toArray, List.set_cons_zero, List.set_cons_succ]
        refine wpAnyH_ready (rs := [13, 15]) (by kernel_rfl) (by simp) ?_
        refine AllReadyH.cons rfl (fun K hK => ?_) (AllReadyH.cons rfl (fun K hK => ?_) AllReadyH.nil)
        · refine step_append_vrow (by rfl) (.tmp 113) (.tmp 119) 27 rfl B0 29 iR _ 1 8 Try.underlying27 hinR hR0 hR1 hR2 rfl (by decide) (.slice qr ni cr) ni (ivals .u64 rs) rfl HQ3.out.R (some ⟨_, 0, none⟩) 1 1 [.int .u64 rf] rfl (HP23.out.row rfl) (by simp [Value.oneCell']) (by unfold maxLen; omega) (by omega) HQ3.out.hi ?_
          intro q2 d2 W4 hown hgrow _
          have HQ4 := Lib.hid (HQ3.out.appR hown hgrow)
          refine hK.out _ _ ((HA.out _ HQ4.out.bel)) (fun hHeld => ?_)
          clear hK K hown hgrow
          try simp only [Act.put, List.setIfInBounds_toArray, List.set_cons_zero, List.set_cons_succ]
          refine wpAnyH_ready (rs := [15]) (by kernel_rfl) (by simp) ?_
          refine AllReadyH.cons rfl (fun K hK => ?_) AllReadyH.nil
          · go_simp
            refine hK.out _ _ ((HA.out _ (bthen HQ4.out.bel below_box))) (fun hHeld => ?_)
            clear hK K
            try simp only [Act.put, List.setIfInBounds_toArray, List.set_cons_zero, List.set_cons_succ]
            have HQ5 := Lib.hid (HQ4.out.keep (below_box (o := .cells #[.bool false] 4)))
            have HP35 := Lib.hid (show PB (W4.alloc (.cells #[.bool false] 4)) W4.heap.size [.bool false] 4 from heap_alloc_new _ _)
            obtain ⟨W5, hW5⟩ : ∃ W, W4.alloc (.cells #[.bool false] 4) = W := ⟨_, rfl⟩
            rw [hW5] at hHeld HQ5 HP35 ⊢
            clear hW5
            refine wpAnyH_ready (rs := [16]) (by kernel_rfl) (by simp) ?_
            refine AllReadyH.cons rfl (fun K hK => ?_) AllReadyH.nil
            · refine step_append_vrow (by rfl) (.tmp 121) (.tmp 122) 28 rfl B0 4 iG _ 1 1 Try.underlying28 hinG hG0 hG1 hG2 rfl (by decide) (.slice qg ni cg) ni (bvals gn) rfl HQ5.out.G (some ⟨_, 0, none⟩) 1 1 [.bool false] rfl (HP35.out.row rfl) (by simp [Value.oneCell']) (by unfold maxLen; omega) (by omega) HQ5.out.hi ?_
              intro q3 d3 W6 hown hgrow _
              have HQ6 := Lib.hid (HQ5.out.appG hown hgrow)
              refine hK.out _ _ ((HA.out _ HQ6.out.bel)) (fun hHeld => ?_)
              clear hK K hown hgrow
              try simp only [Act.put, List.setIfInBounds_toArray, List.set_cons_zero, List.set_cons_succ]
              refine draw_take 17 4 (v := ?_) rfl rfl (by kernel_rfl) (by kernel_rfl) (by kernel_rfl) (fun c a W h => hP c a _ _ W h) (by kernel_rfl) ?hy hHeld ?_
              case hy => (intro w hSw; (try dsimp only at hSw); go_simp; try (with_reducible rfl))
              simp only [Act.put, List.setIfInBounds_toArray, List.set_cons_zero, List.set_cons_succ]
              refine draw_take 18 5 (v := ?_) rfl rfl (by kernel_rfl) (by kernel_rfl) (by kernel_rfl) (fun c a W h => hP c a _ _ W h) (by kernel_rfl) ?hy hHeld ?_
              case hy => (intro w hSw; (try dsimp only at hSw); go_simp; try (with_reducible rfl))
              simp only [Act.put, List.setIfInBounds_toArray, List.set_cons_zero, List.set_cons_succ]
              refine draw_take 19 6 (v := ?_) rfl rfl (by kernel_rfl) (by kernel_rfl) (by kernel_rfl) (fun c a W h => hP c a _ _ W h) (by kernel_rfl) ?hy hHeld ?_
              case hy => (intro w hSw; (try dsimp only at hSw); go_simp; try (with_reducible rfl))
              simp only [Act.put, List.setIfInBounds_toArray, List.set_cons_zero, List.set_cons_succ]
              refine wpAnyH_done (by kernel_rfl) ?_ _
              exact HK.out q1 d1 q2 d2 q3 d3 _ HQ6.out _ _ _ _ _ _ _ _ _ _ _ _ _ _ _ _ _
        · go_simp
          refine hK.out _ _ ((HA.out _ (bthen HQ3.out.bel below_box))) (fun hHeld => ?_)
          clear hK K
          try simp only [Act.put, List.setIfInBounds_toArray, List.set_cons_zero, List.set_cons_succ]
          have HQ4 := Lib.hid (HQ3.out.keep (below_box (o := .cells #[.bool false] 4)))
          have HP34 := Lib.hid (show PB (W3.alloc (.cells #[.bool false] 4)) W3.heap.size [.bool false] 4 from heap_alloc_new _ _)
          have HP24 := Lib.hid (HP23.out.keep (below_box (o := .cells #[.bool false] 4)))
          obtain ⟨W4, hW4⟩ : ∃ W, W3.alloc (.cells #[.bool false] 4) = W := ⟨_, rfl⟩
          rw [hW4] at hHeld HQ4 HP24 HP34 ⊢
          clear hW4
          refine wpAnyH_ready (rs := [13]) (by kernel_rfl) (by simp) ?_
          refine AllReadyH.cons rfl (fun K hK => ?_) AllReadyH.nil
          · refine step_append_vrow (by rfl) (.tmp 113) (.tmp 119) 27 rfl B0 29 iR _ 1 8 Try.underlying27 hinR hR0 hR1 hR2 rfl (by decide) (.slice qr ni cr) ni (ivals .u64 rs) rfl HQ4.out.R (some ⟨_, 0, none⟩) 1 1 [.int .u64 rf] rfl (HP24.out.row rfl) (by simp [Value.oneCell']) (by unfold maxLen; omega) (by omega) HQ4.out.hi ?_
            intro q2 d2 W5 hown hgrow _
            have HQ5 := Lib.hid (HQ4.out.appR hown hgrow)
            have HP35 := Lib.hid (HP34.out.grown HQ4.out.R hgrow (by decide))
            refine hK.out _ _ ((HA.out _ HQ5.out.bel)) (fun hHeld => ?_)
            clear hK K hown hgrow
            try simp only [Act.put, List.setIfInBounds_toArray, List.set_cons_zero, List.set_cons_succ]
            refine wpAnyH_ready (rs := [16]) (by kernel_rfl) (by simp) ?_
            refine AllReadyH.cons rfl (fun K hK => ?_) AllReadyH.nil
            · refine step_append_vrow (by rfl) (.tmp 121) (.tmp 122) 28 rfl B0 4 iG _ 1 1 Try.underlying28 hinG hG0 hG1 hG2 rfl (by decide) (.slice qg ni cg) ni (bvals gn) rfl HQ5.out.G (some ⟨_, 0, none⟩) 1 1 [.bool false] rfl (HP35.out.row rfl) (by simp [Value.oneCell']) (by unfold maxLen; omega) (by omega) HQ5.out.hi ?_
              intro q3 d3 W6 hown hgrow _
              have HQ6 := Lib.hid (HQ5.out.appG hown hgrow)
              refine hK.out _ _ ((HA.out _ HQ6.out.bel)) (fun hHeld => ?_)
              clear hK K hown hgrow
              try simp only [Act.put, List.setIfInBounds_toArray, List.set_cons_zero, List.set_cons_succ]
              refine draw_take 17 4 (v := ?_) rfl rfl (by kernel_rfl) (by kernel_rfl) (by kernel_rfl) (fun c a W h => hP c a _ _ W h) (by kernel_rfl) ?hy hHeld ?_
              case hy => (intro w hSw; (try dsimp only at hSw); go_simp; try (with_reducible rfl))
              simp only [Act.put, List.setIfInBounds_toArray, List.set_cons_zero, List.set_cons_succ]
              refine draw_take 18 5 (v := ?_) rfl rfl (by kernel_rfl) (by kernel_rfl) (by kernel_rfl) (fun c a W h => hP c a _ _ W h) (by kernel_rfl) ?hy hHeld ?_
              case hy => (intro w hSw; (try dsimp only at hSw); go_simp; try (with_reducible rfl))
              simp only [Act.put, List.setIfInBounds_toArray, List.set_cons_zero, List.set_cons_succ]
              refine draw_take 19 6 (v := ?_) rfl rfl (by kernel_rfl) (by kernel_rfl) (by kernel_rfl) (fun c a W h => hP c a _ _ W h) (by kernel_rfl) ?hy hHeld ?_
              case hy => (intro w hSw; (try dsimp only at hSw); go_simp; try (with_reducible rfl))
              simp only [Act.put, List.setIfInBounds_toArray, List.set_cons_zero, List.set_cons_succ]
              refine wpAnyH_done (by kernel_rfl) ?_ _
              exact HK.out q1 d1 q2 d2 q3 d3 _ HQ6.out _ _ _ _ _ _ _ _ _ _ _ _ _ _ _ _ _
      · go_simp
        refine hK.out _ _ ((HA.out _ (bthen HQ2.out.bel below_box))) (fun hHeld => ?_)
        clear hK K
        try simp only [Act.put, List.setIfInBounds_toArray, List.set_cons_zero, List.set_cons_succ]
        have HQ3 := Lib.hid (HQ2.out.keep (below_box (o := .cells #[.bool false] 4)))
        have HP33 := Lib.hid (show PB (W2.alloc (.cells #[.bool false] 4)) W2.heap.size [.bool false] 4 from heap_alloc_new _ _)
        have HP13 := Lib.hid (HP12.out.keep (below_box (o := .cells #[.bool false] 4)))
        have HP23 := Lib.hid (HP22.out.keep (below_box (o := .cells #[.bool false] 4)))
        obtain ⟨W3, hW3⟩ : ∃ W, W2.alloc (.cells #[.bool false] 4) = W := ⟨_, rfl⟩
        rw [hW3] at hHeld HQ3 HP13 HP23 HP33 ⊢
        clear hW3
        refine wpAnyH_ready (rs := [5]) (by kernel_rfl) (by simp) ?_
        refine AllReadyH.cons rfl (fun K hK => ?_) AllReadyH.nil
        · refine step_append_vrow (by rfl) (.tmp 107) (.tmp 111) 26 rfl B0 35 iI _ 2 16 Try.underlying26 hinI hI0 hI1 hI2 rfl (by decide) (.slice qi ni ci) ni (is.flatMap prD) rfl HQ3.out.I (some ⟨_, 0, none⟩) 1 1 [.int .i64 AT, .int .i64 GE] rfl (HP13.out.row rfl) (by simp [Value.oneCell']) (by unfold maxLen; omega) (by omega) HQ3.out.hi ?_
          intro q1 d1 W4 hown hgrow _
          have HQ4 := Lib.hid (HQ3.out.appI (x := (AT, GE)) hown hgrow)
          have HP24 := Lib.hid (HP23.out.grown HQ3.out.I hgrow (by decide))
          have HP34 := Lib.hid (HP33.out.grown HQ3.out.I hgrow (by decide))
          refine hK.out _ _ ((HA.out _ HQ4.out.bel)) (fun hHeld => ?_)
          clear hK K hown hgrow
          try simp only [Act.put, List.setIfInBounds_toArray, List.set_cons_zero, List.set_cons_succ]
          refine wpAnyH_ready (rs := [13]) (by kernel_rfl) (by simp) ?_
          refine AllReadyH.cons rfl (fun K hK => ?_) AllReadyH.nil
          · refine step_append_vrow (by rfl) (.tmp 113) (.tmp 119) 27 rfl B0 29 iR _ 1 8 Try.underlying27 hinR hR0 hR1 hR2 rfl (by decide) (.slice qr ni cr) ni (ivals .u64 rs) rfl HQ4.out.R (some ⟨_, 0, none⟩) 1 1 [.int .u64 rf] rfl (HP24.out.row rfl) (by simp [Value.oneCell']) (by unfold maxLen; omega) (by omega) HQ4.out.hi ?_
            intro q2 d2 W5 hown hgrow _
            have HQ5 := Lib.hid (HQ4.out.appR hown hgrow)
            have HP35 := Lib.hid (HP34.out.grown HQ4.out.R hgrow (by decide))
            refine hK.out _ _ ((HA.out _ HQ5.out.bel)) (fun hHeld => ?_)
            clear hK K hown hgrow
            try simp only [Act.put, List.setIfInBounds_toArray, List.set_cons_zero, List.set_cons_succ]
            refine wpAnyH_ready (rs := [16]) (by kernel_rfl) (by simp) ?_
            refine AllReadyH.cons rfl (fun K hK => ?_) AllReadyH.nil
            · refine step_append_vrow (by rfl) (.tmp 121) (.tmp 122) 28 rfl B0 4 iG _ 1 1 Try.underlying28 hinG hG0 hG1 hG2 rfl (by decide) (.slice qg ni cg) ni (bvals gn) rfl HQ5.out.G (some ⟨_, 0, none⟩) 1 1 [.bool false] rfl (HP35.out.row rfl) (by simp [Value.oneCell']) (by unfold maxLen; omega) (by omega) HQ5.out.hi ?_
              intro q3 d3 W6 hown hgrow _
              have HQ6 := Lib.hid (HQ5.out.appG hown hgrow)
              refine hK.out _ _ ((HA.out _ HQ6.out.bel)) (fun hHeld => ?_)
              clear hK K hown hgrow
              try simp only [Act.put, List.setIfInBounds_toArray, List.set_cons_zero, List.set_cons_succ]
              refine draw_take 17 4 (v := ?_) rfl rfl (by kernel_rfl) (by kernel_rfl) (by kernel_rfl) (fun c a W h => hP c a _ _ W h) (by kernel_rfl) ?hy hHeld ?_
              case hy => (intro w hSw; (try dsimp only at hSw); go_simp; try (with_reducible rfl))
              simp only [Act.put, List.setIfInBounds_toArray, List.set_cons_zero, List.set_cons_succ]
              refine draw_take 18 5 (v := ?_) rfl rfl (by kernel_rfl) (by kernel_rfl) (by kernel_rfl) (fun c a W h => hP c a _ _ W h) (by kernel_rfl) ?hy hHeld ?_
              case hy => (intro w hSw; (try dsimp only at hSw); go_simp; try (with_reducible rfl))
              simp only [Act.put, List.setIfInBounds_toArray, List.set_cons_zero, List.set_cons_succ]
              refine draw_take 19 6 (v := ?_) rfl rfl (by kernel_rfl) (by kernel_rfl) (by kernel_rfl) (fun c a W h => hP c a _ _ W h) (by kernel_rfl) ?hy hHeld ?_
              case hy => (intro w hSw; (try dsimp only at hSw); go_simp; try (with_reducible rfl))
              simp only [Act.put, List.setIfInBounds_toArray, List.set_cons_zero, List.set_cons_succ]
              refine wpAnyH_done (by kernel_rfl) ?_ _
              exact HK.out q1 d1 q2 d2 q3 d3 _ HQ6.out _ _ _ _ _ _ _ _ _ _ _ _ _ _ _ _ _
    · go_simp
      refine hK.out _ _ ((HA.out _ (bthen HQ1.out.bel below_box))) (fun hHeld => ?_)
      clear hK K
      try simp only [Act.put, List.setIfInBounds_toArray, List.set_cons_zero, List.set_cons_succ]
      have HQ2 := Lib.hid (HQ1.out.keep (below_box (o := .cells #[.bool false] 4)))
      have HP32 := Lib.hid (show PB (W1.alloc (.cells #[.bool false] 4)) W1.heap.size [.bool false] 4 from heap_alloc_new _ _)
      have HP12 := Lib.hid (HP11.out.keep (below_box (o := .cells #[.bool false] 4)))
      obtain ⟨W2, hW2⟩ : ∃ W, W1.alloc (.cells #[.bool false] 4) = W := ⟨_, rfl⟩
      rw [hW2] at hHeld HQ2 HP12 HP32 ⊢
      clear hW2
      refine wpAnyH_ready (rs := [5, 12]) (by kernel_rfl) (by simp) ?_
      refine AllReadyH.cons rfl (fun K hK => ?_) (AllReadyH.cons rfl (fun K hK => ?_) AllReadyH.nil)
      · refine step_append_vrow (by rfl) (.tmp 107) (.tmp 111) 26 rfl B0 35 iI _ 2 16 Try.underlying26 hinI hI0 hI1 hI2 rfl (by decide) (.slice qi ni ci) ni (is.flatMap prD) rfl HQ2.out.I (some ⟨_, 0, none⟩) 1 1 [.int .i64 AT, .int .i64 GE] rfl (HP12.out.row rfl) (by simp [Value.oneCell']) (by unfold maxLen; omega) (by omega) HQ2.out.hi ?_
        intro q1 d1 W3 hown hgrow _
        have HQ3 := Lib.hid (HQ2.out.appI (x := (AT, GE)) hown hgrow)
        have HP33 := Lib.hid (HP32.out.grown HQ2.out.I hgrow (by decide))
        refine hK.out _ _ ((HA.out _ HQ3.out.bel)) (fun hHeld => ?_)
        clear hK K hown hgrow
        try simp only [Act.put, List.setIfInBounds_toArray, List.set_cons_zero, List.set_cons_succ]
        refine wpAnyH_ready (rs := [12]) (by kernel_rfl) (by simp) ?_
        refine AllReadyH.cons rfl (fun K hK => ?_) AllReadyH.nil
        · go_simp
          refine hK.out _ _ ((HA.out _ (bthen HQ3.out.bel below_box))) (fun hHeld => ?_)
          clear hK K
          try simp only [Act.put, List.setIfInBounds_toArray, List.set_cons_zero, List.set_cons_succ]
          have HQ4 := Lib.hid (HQ3.out.keep (below_box (o := .cells #[.int .u64 rf] 29)))
          have HP24 := Lib.hid (show PB (W3.alloc (.cells #[.int .u64 rf] 29)) W3.heap.size [.int .u64 rf] 29 from heap_alloc_new _ _)
          have HP34 := Lib.hid (HP33.out.keep (below_box (o := .cells #[.int .u64 rf] 29)))
          obtain ⟨W4, hW4⟩ : ∃ W, W3.alloc (.cells #[.int .u64 rf] 29) = W := ⟨_, rfl⟩
          rw [hW4] at hHeld HQ4 HP34 HP24 ⊢
          clear hW4
          refine wpAnyH_ready (rs := [13]) (by kernel_rfl) (by simp) ?_
          refine AllReadyH.cons rfl (fun K hK => ?_) AllReadyH.nil
          · refine step_append_vrow (by rfl) (.tmp 113) (.tmp 119) 27 rfl B0 29 iR _ 1 8 Try.underlying27 hinR hR0 hR1 hR2 rfl (by decide) (.slice qr ni cr) ni (ivals .u64 rs) rfl HQ4.out.R (some ⟨_, 0, none⟩) 1 1 [.int .u64 rf] rfl (HP24.out.row rfl) (by simp [Value.oneCell']) (by unfold maxLen; omega) (by omega) HQ4.out.hi ?_
            intro q2 d2 W5 hown hgrow _
            have HQ5 := Lib.hid (HQ4.out.appR hown hgrow)
            have HP35 := Lib.hid (HP34.out.grown HQ4.out.R hgrow (by decide))
            refine hK.out _ _ ((HA.out _ HQ5.out.bel)) (fun hHeld => ?_)
            clear hK K hown hgrow
            try simp only [Act.put, List.setIfInBounds_toArray, List.set_cons_zero, List.set_cons_succ]
            refine wpAnyH_ready (rs := [16]) (by kernel_rfl) (by simp) ?_
            refine AllReadyH.cons rfl (fun K hK => ?_) AllReadyH.nil
            · refine step_append_vrow (by rfl) (.tmp 121) (.tmp 122) 28 rfl B0 4 iG _ 1 1 Try.underlying28 hinG hG0 hG1 hG2 rfl (by decide) (.slice qg ni cg) ni (bvals gn) rfl HQ5.out.G (some ⟨_, 0, none⟩) 1 1 [.bool false] rfl (HP35.out.row rfl) (by simp [Value.oneCell']) (by unfold maxLen; omega) (by omega) HQ5.out.hi ?_
              intro q3 d3 W6 hown hgrow _
              have HQ6 := Lib.hid (HQ5.out.appG hown hgrow)
              refine hK.out _ _ ((HA.out _ HQ6.out.bel)) (fun hHeld => ?_)
              clear hK K hown hgrow
              try simp only [Act.put, List.setIfInBounds_toArray, List.set_cons_zero, List.set_cons_succ]
              refine draw_take 17 4 (v := ?_) rfl rfl (by kernel_rfl) (by kernel_rfl) (by kernel_rfl) (fun c a W h => hP c a _ _ W h) (by kernel_rfl) ?hy hHeld ?_
              case hy => (intro w hSw; (try dsimp only at hSw); go_simp; try (with_reducible rfl))
              simp only [Act.put, List.setIfInBounds_toArray, List.set_cons_zero, List.set_cons_succ]
              refine draw_take 18 5 (v := ?_) rfl rfl (by kernel_rfl) (by kernel_rfl) (by kernel_rfl) (fun c a W h => hP c a _ _ W h) (by kernel_rfl) ?hy hHeld ?_
              case hy => (intro w hSw; (try dsimp only at hSw); go_simp; try (with_reducible rfl))
              simp only [Act.put, List.setIfInBounds_toArray, List.set_cons_zero, List.set_cons_succ]
              refine draw_take 19 6 (v := ?_) rfl rfl (by kernel_rfl) (by kernel_rfl) (by kernel_rfl) (fun c a W h => hP c a _ _ W h) (by kernel_rfl) ?hy hHeld ?_
              case hy => (intro w hSw; (try dsimp only at hSw); go_simp; try (with_reducible rfl))
              simp only [Act.put, List.setIfInBounds_toArray, List.set_cons_zero, List.set_cons_succ]
              refine wpAnyH_done (by kernel_rfl) ?_ _
              exact HK.out q1 d1 q2 d2 q3 d3 _ HQ6.out _ _ _ _ _ _ _ _ _ _ _ _ _ _ _ _ _
      · go_simp
        refine hK.out _ _ ((HA.out _ (bthen HQ2.out.bel below_box))) (fun hHeld => ?_)
        clear hK K
        try simp only [Act.put, List.setIfInBounds_toArray, List.set_cons_zero, List.set_cons_succ]
        have HQ3 := Lib.hid (HQ2.out.keep (below_box (o := .cells #[.int .u64 rf] 29)))
        have HP23 := Lib.hid (show PB (W2.alloc (.cells #[.int .u64 rf] 29)) W2.heap.size [.int .u64 rf] 29 from heap_alloc_new _ _)
        have HP13 := Lib.hid (HP12.out.keep (below_box (o := .cells #[.int .u64 rf] 29)))
        have HP33 := Lib.hid (HP32.out.keep (below_box (o := .cells #[.int .u64 rf] 29)))
        obtain ⟨W3, hW3⟩ : ∃ W, W2.alloc (.cells #[.int .u64 rf] 29) = W := ⟨_, rfl⟩
        rw [hW3] at hHeld HQ3 HP13 HP33 HP23 ⊢
        clear hW3
        refine wpAnyH_ready (rs := [5]) (by kernel_rfl) (by simp) ?_
        refine AllReadyH.cons rfl (fun K hK => ?_) AllReadyH.nil
        · refine step_append_vrow (by rfl) (.tmp 107) (.tmp 111) 26 rfl B0 35 iI _ 2 16 Try.underlying26 hinI hI0 hI1 hI2 rfl (by decide) (.slice qi ni ci) ni (is.flatMap prD) rfl HQ3.out.I (some ⟨_, 0, none⟩) 1 1 [.int .i64 AT, .int .i64 GE] rfl (HP13.out.row rfl) (by simp [Value.oneCell']) (by unfold maxLen; omega) (by omega) HQ3.out.hi ?_
          intro q1 d1 W4 hown hgrow _
          have HQ4 := Lib.hid (HQ3.out.appI (x := (AT, GE)) hown hgrow)
          have HP34 := Lib.hid (HP33.out.grown HQ3.out.I hgrow (by decide))
          have HP24 := Lib.hid (HP23.out.grown HQ3.out.I hgrow (by decide))
          refine hK.out _ _ ((HA.out _ HQ4.out.bel)) (fun hHeld => ?_)
          clear hK K hown hgrow
          try simp only [Act.put, List.setIfInBounds_toArray, List.set_cons_zero, List.set_cons_succ]
          refine wpAnyH_ready (rs := [13]) (by kernel_rfl) (by simp) ?_
          refine AllReadyH.cons rfl (fun K hK => ?_) AllReadyH.nil
          · refine step_append_vrow (by rfl) (.tmp 113) (.tmp 119) 27 rfl B0 29 iR _ 1 8 Try.underlying27 hinR hR0 hR1 hR2 rfl (by decide) (.slice qr ni cr) ni (ivals .u64 rs) rfl HQ4.out.R (some ⟨_, 0, none⟩) 1 1 [.int .u64 rf] rfl (HP24.out.row rfl) (by simp [Value.oneCell']) (by unfold maxLen; omega) (by omega) HQ4.out.hi ?_
            intro q2 d2 W5 hown hgrow _
            have HQ5 := Lib.hid (HQ4.out.appR hown hgrow)
            have HP35 := Lib.hid (HP34.out.grown HQ4.out.R hgrow (by decide))
            refine hK.out _ _ ((HA.out _ HQ5.out.bel)) (fun hHeld => ?_)
            clear hK K hown hgrow
            try simp only [Act.put, List.setIfInBounds_toArray, List.set_cons_zero, List.set_cons_succ]
            refine wpAnyH_ready (rs := [16]) (by kernel_rfl) (by simp) ?_
            refine AllReadyH.cons rfl (fun K hK => ?_) AllReadyH.nil
            · refine step_append_vrow (by rfl) (.tmp 121) (.tmp 122) 28 rfl B0 4 iG _ 1 1 Try.underlying28 hinG hG0 hG1 hG2 rfl (by decide) (.slice qg ni cg) ni (bvals gn) rfl HQ5.out.G (some ⟨_, 0, none⟩) 1 1 [.bool false] rfl (HP35.out.row rfl) (by simp [Value.oneCell']) (by unfold maxLen; omega) (by omega) HQ5.out.hi ?_
              intro q3 d3 W6 hown hgrow _
              have HQ6 := Lib.hid (HQ5.out.appG hown hgrow)
              refine hK.out _ _ ((HA.out _ HQ6.out.bel)) (fun hHeld => ?_)
              clear hK K hown hgrow
              try simp only [Act.put, List.setIfInBounds_toArray, List.set_cons_zero, List.set_cons_succ]
              refine draw_take 17 4 (v := ?_) rfl rfl (by kernel_rfl) (by kernel_rfl) (by kernel_rfl) (fun c a W h => hP c a _ _ W h) (by kernel_rfl) ?hy hHeld ?_
              case hy => (intro w hSw; (try dsimp only at hSw); go_simp; try (with_reducible rfl))
              simp only [Act.put, List.setIfInBounds_toArray, List.set_cons_zero, List.set_cons_succ]
              refine draw_take 18 5 (v := ?_) rfl rfl (by kernel_rfl) (by kernel_rfl) (by kernel_rfl) (fun c a W h => hP c a _ _ W h) (by kernel_rfl) ?hy hHeld ?_
              case hy => (intro w hSw; (try dsimp only at hSw); go_simp; try (with_reducible rfl))
              simp only [Act.put, List.setIfInBounds_toArray, List.set_cons_zero, List.set_cons_succ]
              refine draw_take 19 6 (v := ?_) rfl rfl (by kernel_rfl) (by kernel_rfl) (by kernel_rfl) (fun c a W h => hP c a _ _ W h) (by kernel_rfl) ?hy hHeld ?_
              case hy => (intro w hSw; (try dsimp only at hSw); go_simp; try (with_reducible rfl))
              simp only [Act.put, List.setIfInBounds_toArray, List.set_cons_zero, List.set_cons_succ]
              refine wpAnyH_done (by kernel_rfl) ?_ _
              exact HK.out q1 d1 q2 d2 q3 d3 _ HQ6.out _ _ _ _ _ _ _ _ _ _ _ _ _ _ _ _ _
  · go_simp
    refine hK.out _ _ ((HA.out _ (bthen HQ0.out.bel below_box))) (fun hHeld => ?_)
    clear hK K
    try simp only [Act.put, List.setIfInBounds_toArray, List.set_cons_zero, List.set_cons_succ]
    have HQ1 := Lib.hid (HQ0.out.keep (below_box (o := .cells #[.int .u64 rf] 29)))
    have HP21 := Lib.hid (show PB (W0.alloc (.cells #[.int .u64 rf] 29)) W0.heap.size [.int .u64 rf] 29 from heap_alloc_new _ _)
    obtain ⟨W1, hW1⟩ : ∃ W, W0.alloc (.cells #[.int .u64 rf] 29) = W := ⟨_, rfl⟩
    rw [hW1] at hHeld HQ1 HP21 ⊢
    clear hW1
    refine wpAnyH_ready (rs := [4, 15]) (by kernel_rfl) (by simp) ?_
    refine AllReadyH.cons rfl (fun K hK => ?_) (AllReadyH.cons rfl (fun K hK => ?_) AllReadyH.nil)
    · go_simp
      refine hK.out _ _ ((HA.out _ (bthen HQ1.out.bel below_box))) (fun hHeld => ?_)
      clear hK K
      try simp only [Act.put, List.setIfInBounds_toArray, List.set_cons_zero, List.set_cons_succ]
      have HQ2 := Lib.hid (HQ1.out.keep (below_box (o := .cells #[.int .i64 AT, .int .i64 GE] 35)))
      have HP12 := Lib.hid (show PB (W1.alloc (.cells #[.int .i64 AT, .int .i64 GE] 35)) W1.heap.size [.int .i64 AT, .int .i64 GE] 35 from heap_alloc_new _ _)
      have HP22 := Lib.hid (HP21.out.keep (below_box (o := .cells #[.int .i64 AT, .int .i64 GE] 35)))
      obtain ⟨W2, hW2⟩ : ∃ W, W1.alloc (.cells #[.int .i64 AT, .int .i64 GE] 35) = W := ⟨_, rfl⟩
      rw [hW2] at hHeld HQ2 HP22 HP12 ⊢
      clear hW2
      refine wpAnyH_ready (rs := [5, 15]) (by kernel_rfl) (by simp) ?_
      refine AllReadyH.cons rfl (fun K hK => ?_) (AllReadyH.cons rfl (fun K hK => ?_) AllReadyH.nil)
      · refine step_append_vrow (by rfl) (.tmp 107) (.tmp 111) 26 rfl B0 35 iI _ 2 16 Try.underlying26 hinI hI0 hI1 hI2 rfl (by decide) (.slice qi ni ci) ni (is.flatMap prD) rfl HQ2.out.I (some ⟨_, 0, none⟩) 1 1 [.int .i64 AT, .int .i64 GE] rfl (HP12.out.row rfl) (by simp [Value.oneCell']) (by unfold maxLen; omega) (by omega) HQ2.out.hi ?_
        intro q1 d1 W3 hown hgrow _
        have HQ3 := Lib.hid (HQ2.out.appI (x := (AT, GE)) hown hgrow)
        have HP23 := Lib.hid (HP22.out.grown HQ2.out.I hgrow (by decide))
        refine hK.out _ _ ((HA.out _ HQ3.out.bel)) (fun hHeld => ?_)
        clear hK K hown hgrow
        try simp only [Act.put, List.setIfInBounds_toArray, List.set_cons_zero, List.set_cons_succ]
        refine wpAnyH_ready (rs := [13, 15]) (by kernel_rfl) (by simp) ?_
        refine AllReadyH.cons rfl (fun K hK => ?_) (AllReadyH.cons rfl (fun K hK => ?_) AllReadyH.nil)
        · refine step_append_vrow (by rfl) (.tmp 113) (.tmp 119) 27 rfl B0 29 iR _ 1 8 Try.underlying27 hinR hR0 hR1 hR2 rfl (by decide) (.slice qr ni cr) ni (ivals .u64 rs) rfl HQ3.out.R (some ⟨_, 0, none⟩) 1 1 [.int .u64 rf] rfl (HP23.out.row rfl) (by simp [Value.oneCell']) (by unfold maxLen; omega) (by omega) HQ3.out.hi ?_
          intro q2 d2 W4 hown hgrow _
          have HQ4 := Lib.hid (HQ3.out.appR hown hgrow)
          refine hK.out _ _ ((HA.out _ HQ4.out.bel)) (fun hHeld => ?_)
          clear hK K hown hgrow
          try simp only [Act.put, List.setIfInBounds_toArray, List.set_cons_zero, List.set_cons_succ]
          refine wpAnyH_ready (rs := [15]) (by kernel_rfl) (by simp) ?_
          refine AllReadyH.cons rfl (fun K hK => ?_) AllReadyH.nil
          · go_simp
            refine hK.out _ _ ((HA.out _ (bthen HQ4.out.bel below_box))) (fun hHeld => ?_)
            clear hK K
            try simp only [Act.put, List.setIfInBounds_toArray, List.set_cons_zero, List.set_cons_succ]
            have HQ5 := Lib.hid (HQ4.out.keep (below_box (o := .cells #[.bool false] 4)))
            have HP35 := Lib.hid (show PB (W4.alloc (.cells #[.bool false] 4)) W4.heap.size [.bool false] 4 from heap_alloc_new _ _)
            obtain ⟨W5, hW5⟩ : ∃ W, W4.alloc (.cells #[.bool false] 4) = W := ⟨_, rfl⟩
            rw [hW5] at hHeld HQ5 HP35 ⊢
            clear hW5
            refine wpAnyH_ready (rs := [16]) (by kernel_rfl) (by simp) ?_
            refine AllReadyH.cons rfl (fun K hK => ?_) AllReadyH.nil
            · refine step_append_vrow (by rfl) (.tmp 121) (.tmp 122) 28 rfl B0 4 iG _ 1 1 Try.underlying28 hinG hG0 hG1 hG2 rfl (by decide) (.slice qg ni cg) ni (bvals gn) rfl HQ5.out.G (some ⟨_, 0, none⟩) 1 1 [.bool false] rfl (HP35.out.row rfl) (by simp [Value.oneCell']) (by unfold maxLen; omega) (by omega) HQ5.out.hi ?_
              intro q3 d3 W6 hown hgrow _
              have HQ6 := Lib.hid (HQ5.out.appG hown hgrow)
              refine hK.out _ _ ((HA.out _ HQ6.out.bel)) (fun hHeld => ?_)
              clear hK K hown hgrow
              try simp only [Act.put, List.setIfInBounds_toArray, List.set_cons_zero, List.set_cons_succ]
              refine draw_take 17 4 (v := ?_) rfl rfl (by kernel_rfl) (by kernel_rfl) (by kernel_rfl) (fun c a W h => hP c a _ _ W h) (by kernel_rfl) ?hy hHeld ?_
              case hy => (intro w hSw; (try dsimp only at hSw); go_simp; try (with_reducible rfl))
              simp only [Act.put, List.setIfInBounds_toArray, List.set_cons_zero, List.set_cons_succ]
              refine draw_take 18 5 (v := ?_) rfl rfl (by kernel_rfl) (by kernel_rfl) (by kernel_rfl) (fun c a W h => hP c a _ _ W h) (by kernel_rfl) ?hy hHeld ?_
              case hy => (intro w hSw; (try dsimp only at hSw); go_simp; try (with_reducible rfl))
              simp only [Act.put, List.setIfInBounds_toArray, List.set_cons_zero, List.set_cons_succ]
              refine draw_take 19 6 (v := ?_) rfl rfl (by kernel_rfl) (by kernel_rfl) (by kernel_rfl) (fun c a W h => hP c a _ _ W h) (by kernel_rfl) ?hy hHeld ?_
              case hy => (intro w hSw; (try dsimp only at hSw); go_simp; try (with_reducible rfl))
              simp only [Act.put, List.setIfInBounds_toArray, List.set_cons_zero, List.set_cons_succ]
              refine wpAnyH_done (by kernel_rfl) ?_ _
              exact HK.out q1 d1 q2 d2 q3 d3 _ HQ6.out _ _ _ _ _ _ _ _ _ _ _ _ _ _ _ _ _
        · go_simp
          refine hK.out _ _ ((HA.out _ (bthen HQ3.out.bel below_box))) (fun hHeld => ?_)
          clear hK K
          try simp only [Act.put, List.setIfInBounds_toArray, List.set_cons_zero, List.set_cons_succ]
          have HQ4 := Lib.hid (HQ3.out.keep (below_box (o := .cells #[.bool false] 4)))
          have HP34 := Lib.hid (show PB (W3.alloc (.cells #[.bool false] 4)) W3.heap.size [.bool false] 4 from heap_alloc_new _ _)
          have HP24 := Lib.hid (HP23.out.keep (below_box (o := .cells #[.bool false] 4)))
          obtain ⟨W4, hW4⟩ : ∃ W, W3.alloc (.cells #[.bool false] 4) = W := ⟨_, rfl⟩
          rw [hW4] at hHeld HQ4 HP24 HP34 ⊢
          clear hW4
          refine wpAnyH_ready (rs := [13]) (by kernel_rfl) (by simp) ?_
          refine AllReadyH.cons rfl (fun K hK => ?_) AllReadyH.nil
          · refine step_append_vrow (by rfl) (.tmp 113) (.tmp 119) 27 rfl B0 29 iR _ 1 8 Try.underlying27 hinR hR0 hR1 hR2 rfl (by decide) (.slice qr ni cr) ni (ivals .u64 rs) rfl HQ4.out.R (some ⟨_, 0, none⟩) 1 1 [.int .u64 rf] rfl (HP24.out.row rfl) (by simp [Value.oneCell']) (by unfold maxLen; omega) (by omega) HQ4.out.hi ?_
            intro q2 d2 W5 hown hgrow _
            have HQ5 := Lib.hid (HQ4.out.appR hown hgrow)
            have HP35 := Lib.hid (HP34.out.grown HQ4.out.R hgrow (by decide))
            refine hK.out _ _ ((HA.out _ HQ5.out.bel)) (fun hHeld => ?_)
            clear hK K hown hgrow
            try simp only [Act.put, List.setIfInBounds_toArray, List.set_cons_zero, List.set_cons_succ]
            refine wpAnyH_ready (rs := [16]) (by kernel_rfl) (by simp) ?_
            refine AllReadyH.cons rfl (fun K hK => ?_) AllReadyH.nil
            · refine step_append_vrow (by rfl) (.tmp 121) (.tmp 122) 28 rfl B0 4 iG _ 1 1 Try.underlying28 hinG hG0 hG1 hG2 rfl (by decide) (.slice qg ni cg) ni (bvals gn) rfl HQ5.out.G (some ⟨_, 0, none⟩) 1 1 [.bool false] rfl (HP35.out.row rfl) (by simp [Value.oneCell']) (by unfold maxLen; omega) (by omega) HQ5.out.hi ?_
              intro q3 d3 W6 hown hgrow _
              have HQ6 := Lib.hid (HQ5.out.appG hown hgrow)
              refine hK.out _ _ ((HA.out _ HQ6.out.bel)) (fun hHeld => ?_)
              clear hK K hown hgrow
              try simp only [Act.put, List.setIfInBounds_toArray, List.set_cons_zero, List.set_cons_succ]
              refine draw_take 17 4 (v := ?_) rfl rfl (by kernel_rfl) (by kernel_rfl) (by kernel_rfl) (fun c a W h => hP c a _ _ W h) (by kernel_rfl) ?hy hHeld ?_
              case hy => (intro w hSw; (try dsimp only at hSw); go_simp; try (with_reducible rfl))
              simp only [Act.put, List.setIfInBounds_toArray, List.set_cons_zero, List.set_cons_succ]
              refine draw_take 18 5 (v := ?_) rfl rfl (by kernel_rfl) (by kernel_rfl) (by kernel_rfl) (fun c a W h => hP c a _ _ W h) (by kernel_rfl) ?hy hHeld ?_
              case hy => (intro w hSw; (try dsimp only at hSw); go_simp; try (with_reducible rfl))
              simp only [Act.put, List.setIfInBounds_toArray, List.set_cons_zero, List.set_cons_succ]
              refine draw_take 19 6 (v := ?_) rfl rfl (by kernel_rfl) (by kernel_rfl) (by kernel_rfl) (fun c a W h => hP c a _ _ W h) (by kernel_rfl) ?hy hHeld ?_
              case hy => (intro w hSw; (try dsimp only at hSw); go_simp; try (with_reducible rfl))
              simp only [Act.put, List.setIfInBounds_toArray, List.set_cons_zero, List.set_cons_succ]
              refine wpAnyH_done (by kernel_rfl) ?_ _
              exact HK.out q1 d1 q2 d2 q3 d3 _ HQ6.out _ _ _ _ _ _ _ _ _ _ _ _ _ _ _ _ _
      · go_simp
        refine hK.out _ _ ((HA.out _ (bthen HQ2.out.bel below_box))) (fun hHeld => ?_)
        clear hK K
        try simp only [Act.put, List.setIfInBounds_toArray, List.set_cons_zero, List.set_cons_succ]
        have HQ3 := Lib.hid (HQ2.out.keep (below_box (o := .cells #[.bool false] 4)))
        have HP33 := Lib.hid (show PB (W2.alloc (.cells #[.bool false] 4)) W2.heap.size [.bool false] 4 from heap_alloc_new _ _)
        have HP23 := Lib.hid (HP22.out.keep (below_box (o := .cells #[.bool false] 4)))
        have HP13 := Lib.hid (HP12.out.keep (below_box (o := .cells #[.bool false] 4)))
        obtain ⟨W3, hW3⟩ : ∃ W, W2.alloc (.cells #[.bool false] 4) = W := ⟨_, rfl⟩
        rw [hW3] at hHeld HQ3 HP23 HP13 HP33 ⊢
        clear hW3
        refine wpAnyH_ready (rs := [5]) (by kernel_rfl) (by simp) ?_
        refine AllReadyH.cons rfl (fun K hK => ?_) AllReadyH.nil
        · refine step_append_vrow (by rfl) (.tmp 107) (.tmp 111) 26 rfl B0 35 iI _ 2 16 Try.underlying26 hinI hI0 hI1 hI2 rfl (by decide) (.slice qi ni ci) ni (is.flatMap prD) rfl HQ3.out.I (some ⟨_, 0, none⟩) 1 1 [.int .i64 AT, .int .i64 GE] rfl (HP13.out.row rfl) (by simp [Value.oneCell']) (by unfold maxLen; omega) (by omega) HQ3.out.hi ?_
          intro q1 d1 W4 hown hgrow _
          have HQ4 := Lib.hid (HQ3.out.appI (x := (AT, GE)) hown hgrow)
          have HP24 := Lib.hid (HP23.out.grown HQ3.out.I hgrow (by decide))
          have HP34 := Lib.hid (HP33.out.grown HQ3.out.I hgrow (by decide))
          refine hK.out _ _ ((HA.out _ HQ4.out.bel)) (fun hHeld => ?_)
          clear hK K hown hgrow
          try simp only [Act.put, List.setIfInBounds_toArray, List.set_cons_zero, List.set_cons_succ]
          refine wpAnyH_ready (rs := [13]) (by kernel_rfl) (by simp) ?_
          refine AllReadyH.cons rfl (fun K hK => ?_) AllReadyH.nil
          · refine step_append_vrow (by rfl) (.tmp 113) (.tmp 119) 27 rfl B0 29 iR _ 1 8 Try.underlying27 hinR hR0 hR1 hR2 rfl (by decide) (.slice qr ni cr) ni (ivals .u64 rs) rfl HQ4.out.R (some ⟨_, 0, none⟩) 1 1 [.int .u64 rf] rfl (HP24.out.row rfl) (by simp [Value.oneCell']) (by unfold maxLen; omega) (by omega) HQ4.out.hi ?_
            intro q2 d2 W5 hown hgrow _
            have HQ5 := Lib.hid (HQ4.out.appR hown hgrow)
            have HP35 := Lib.hid (HP34.out.grown HQ4.out.R hgrow (by decide))
            refine hK.out _ _ ((HA.out _ HQ5.out.bel)) (fun hHeld => ?_)
            clear hK K hown hgrow
            try simp only [Act.put, List.setIfInBounds_toArray, List.set_cons_zero, List.set_cons_succ]
            refine wpAnyH_ready (rs := [16]) (by kernel_rfl) (by simp) ?_
            refine AllReadyH.cons rfl (fun K hK => ?_) AllReadyH.nil
            · refine step_append_vrow (by rfl) (.tmp 121) (.tmp 122) 28 rfl B0 4 iG _ 1 1 Try.underlying28 hinG hG0 hG1 hG2 rfl (by decide) (.slice qg ni cg) ni (bvals gn) rfl HQ5.out.G (some ⟨_, 0, none⟩) 1 1 [.bool false] rfl (HP35.out.row rfl) (by simp [Value.oneCell']) (by unfold maxLen; omega) (by omega) HQ5.out.hi ?_
              intro q3 d3 W6 hown hgrow _
              have HQ6 := Lib.hid (HQ5.out.appG hown hgrow)
              refine hK.out _ _ ((HA.out _ HQ6.out.bel)) (fun hHeld => ?_)
              clear hK K hown hgrow
              try simp only [Act.put, List.setIfInBounds_toArray, List.set_cons_zero, List.set_cons_succ]
              refine draw_take 17 4 (v := ?_) rfl rfl (by kernel_rfl) (by kernel_rfl) (by kernel_rfl) (fun c a W h => hP c a _ _ W h) (by kernel_rfl) ?hy hHeld ?_
              case hy => (intro w hSw; (try dsimp only at hSw); go_simp; try (with_reducible rfl))
              simp only [Act.put, List.setIfInBounds_toArray, List.set_cons_zero, List.set_cons_succ]
              refine draw_take 18 5 (v := ?_) rfl rfl (by kernel_rfl) (by kernel_rfl) (by kernel_rfl) (fun c a W h => hP c a _ _ W h) (by kernel_rfl) ?hy hHeld ?_
              case hy => (intro w hSw; (try dsimp only at hSw); go_simp; try (with_reducible rfl))
              simp only [Act.put, List.setIfInBounds_toArray, List.set_cons_zero, List.set_cons_succ]
              refine draw_take 19 6 (v := ?_) rfl rfl (by kernel_rfl) (by kernel_rfl) (by kernel_rfl) (fun c a W h => hP c a _ _ W h) (by kernel_rfl) ?hy hHeld ?_
              case hy => (intro w hSw; (try dsimp only at hSw); go_simp; try (with_reducible rfl))
              simp only [Act.put, List.setIfInBounds_toArray, List.set_cons_zero, List.set_cons_succ]
              refine wpAnyH_done (by kernel_rfl) ?_ _
              exact HK.out q1 d1 q2 d2 q3 d3 _ HQ6.out _ _ _ _ _ _ _ _ _ _ _ _ _ _ _ _ _
    · go_simp
      refine hK.out _ _ ((HA.out _ (bthen HQ1.out.bel below_box))) (fun hHeld => ?_)
      clear hK K
      try simp only [Act.put, List.setIfInBounds_toArray, List.set_cons_zero, List.set_cons_succ]
      have HQ2 := Lib.hid (HQ1.out.keep (below_box (o := .cells #[.bool false] 4)))
      have HP32 := Lib.hid (show PB (W1.alloc (.cells #[.bool false] 4)) W1.heap.size [.bool false] 4 from heap_alloc_new _ _)
      have HP22 := Lib.hid (HP21.out.keep (below_box (o := .cells #[.bool false] 4)))
      obtain ⟨W2, hW2⟩ : ∃ W, W1.alloc (.cells #[.bool false] 4) = W := ⟨_, rfl⟩
      rw [hW2] at hHeld HQ2 HP22 HP32 ⊢
      clear hW2
      refine wpAnyH_ready (rs := [4]) (by kernel_rfl) (by simp) ?_
      refine AllReadyH.cons rfl (fun K hK => ?_) AllReadyH.nil
      · go_simp
        refine hK.out _ _ ((HA.out _ (bthen HQ2.out.bel below_box))) (fun hHeld => ?_)
        clear hK K
        try simp only [Act.put, List.setIfInBounds_toArray, List.set_cons_zero, List.set_cons_succ]
        have HQ3 := Lib.hid (HQ2.out.keep (below_box (o := .cells #[.int .i64 AT, .int .i64 GE] 35)))
        have HP13 := Lib.hid (show PB (W2.alloc (.cells #[.int .i64 AT, .int .i64 GE] 35)) W2.heap.size [.int .i64 AT, .int .i64 GE] 35 from heap_alloc_new _ _)
        have HP23 := Lib.hid (HP22.out.keep (below_box (o := .cells #[.int .i64 AT, .int .i64 GE] 35)))
        have HP33 := Lib.hid (HP32.out.keep (below_box (o := .cells #[.int .i64 AT, .int .i64 GE] 35)))
        obtain ⟨W3, hW3⟩ : ∃ W, W2.alloc (.cells #[.int .i64 AT, .int .i64 GE] 35) = W := ⟨_, rfl⟩
        rw [hW3] at hHeld HQ3 HP23 HP33 HP13 ⊢
        clear hW3
        refine wpAnyH_ready (rs := [5]) (by kernel_rfl) (by simp) ?_
        refine AllReadyH.cons rfl (fun K hK => ?_) AllReadyH.nil
        · refine step_append_vrow (by rfl) (.tmp 107) (.tmp 111) 26 rfl B0 35 iI _ 2 16 Try.underlying26 hinI hI0 hI1 hI2 rfl (by decide) (.slice qi ni ci) ni (is.flatMap prD) rfl HQ3.out.I (some ⟨_, 0, none⟩) 1 1 [.int .i64 AT, .int .i64 GE] rfl (HP13.out.row rfl) (by simp [Value.oneCell']) (by unfold maxLen; omega) (by omega) HQ3.out.hi ?_
          intro q1 d1 W4 hown hgrow _
          have HQ4 := Lib.hid (HQ3.out.appI (x := (AT, GE)) hown hgrow)
          have HP24 := Lib.hid (HP23.out.grown HQ3.out.I hgrow (by decide))
          have HP34 := Lib.hid (HP33.out.grown HQ3.out.I hgrow (by decide))
          refine hK.out _ _ ((HA.out _ HQ4.out.bel)) (fun hHeld => ?_)
          clear hK K hown hgrow
          try simp only [Act.put, List.setIfInBounds_toArray, List.set_cons_zero, List.set_cons_succ]
          refine wpAnyH_ready (rs := [13]) (by kernel_rfl) (by simp) ?_
          refine AllReadyH.cons rfl (fun K hK => ?_) AllReadyH.nil
          · refine step_append_vrow (by rfl) (.tmp 113) (.tmp 119) 27 rfl B0 29 iR _ 1 8 Try.underlying27 hinR hR0 hR1 hR2 rfl (by decide) (.slice qr ni cr) ni (ivals .u64 rs) rfl HQ4.out.R (some ⟨_, 0, none⟩) 1 1 [.int .u64 rf] rfl (HP24.out.row rfl) (by simp [Value.oneCell']) (by unfold maxLen; omega) (by omega) HQ4.out.hi ?_
            intro q2 d2 W5 hown hgrow _
            have HQ5 := Lib.hid (HQ4.out.appR hown hgrow)
            have HP35 := Lib.hid (HP34.out.grown HQ4.out.R hgrow (by decide))
            refine hK.out _ _ ((HA.out _ HQ5.out.bel)) (fun hHeld => ?_)
            clear hK K hown hgrow
            try simp only [Act.put, List.setIfInBounds_toArray, List.set_cons_zero, List.set_cons_succ]
            refine wpAnyH_ready (rs := [16]) (by kernel_rfl) (by simp) ?_
            refine AllReadyH.cons rfl (fun K hK => ?_) AllReadyH.nil
            · refine step_append_vrow (by rfl) (.tmp 121) (.tmp 122) 28 rfl B0 4 iG _ 1 1 Try.underlying28 hinG hG0 hG1 hG2 rfl (by decide) (.slice qg ni cg) ni (bvals gn) rfl HQ5.out.G (some ⟨_, 0, none⟩) 1 1 [.bool false] rfl (HP35.out.row rfl) (by simp [Value.oneCell']) (by unfold maxLen; omega) (by omega) HQ5.out.hi ?_
              intro q3 d3 W6 hown hgrow _
              have HQ6 := Lib.hid (HQ5.out.appG hown hgrow)
              refine hK.out _ _ ((HA.out _ HQ6.out.bel)) (fun hHeld => ?_)
              clear hK K hown hgrow
              try simp only [Act.put, List.setIfInBounds_toArray, List.set_cons_zero, List.set_cons_succ]
              refine draw_take 17 4 (v := ?_) rfl rfl (by kernel_rfl) (by kernel_rfl) (by kernel_rfl) (fun c a W h => hP c a _ _ W h) (by kernel_rfl) ?hy hHeld ?_
              case hy => (intro w hSw; (try dsimp only at hSw); go_simp; try (with_reducible rfl))
              simp only [Act.put, List.setIfInBounds_toArray, List.set_cons_zero, List.set_cons_succ]
              refine draw_take 18 5 (v := ?_) rfl rfl (by kernel_rfl) (by kernel_rfl) (by kernel_rfl) (fun c a W h => hP c a _ _ W h) (by kernel_rfl) ?hy hHeld ?_
              case hy => (intro w hSw; (try dsimp only at hSw); go_simp; try (with_reducible rfl))
              simp only [Act.put, List.setIfInBounds_toArray, List.set_cons_zero, List.set_cons_succ]
              refine draw_take 19 6 (v := ?_) rfl rfl (by kernel_rfl) (by kernel_rfl) (by kernel_rfl) (fun c a W h => hP c a _ _ W h) (by kernel_rfl) ?hy hHeld ?_
              case hy => (intro w hSw; (try dsimp only at hSw); go_simp; try (with_reducible rfl))
              simp only [Act.put, List.setIfInBounds_toArray, List.set_cons_zero, List.set_cons_succ]
              refine wpAnyH_done (by kernel_rfl) ?_ _
              exact HK.out q1 d1 q2 d2 q3 d3 _ HQ6.out _ _ _ _ _ _ _ _ _ _ _ _ _ _ _ _ _
  · go_simp
    refine hK.out _ _ ((HA.out _ (bthen HQ0.out.bel below_box))) (fun hHeld => ?_)
    clear hK K
    try simp only [Act.put, List.setIfInBounds_toArray, List.set_cons_zero, List.set_cons_succ]
    have HQ1 := Lib.hid (HQ0.out.keep (below_box (o := .cells #[.bool false] 4)))
    have HP31 := Lib.hid (show PB (W0.alloc (.cells #[.bool false] 4)) W0.heap.size [.bool false] 4 from heap_alloc_new _ _)
    obtain ⟨W1, hW1⟩ : ∃ W, W0.alloc (.cells #[.bool false] 4) = W := ⟨_, rfl⟩
    rw [hW1] at hHeld HQ1 HP31 ⊢
    clear hW1
    refine wpAnyH_ready (rs := [4, 12]) (by kernel_rfl) (by simp) ?_
    refine AllReadyH.cons rfl (fun K hK => ?_) (AllReadyH.cons rfl (fun K hK => ?_) AllReadyH.nil)
    · go_simp
      refine hK.out _ _ ((HA.out _ (bthen HQ1.out.bel below_box))) (fun hHeld => ?_)
      clear hK K
      try simp only [Act.put, List.setIfInBounds_toArray, List.set_cons_zero, List.set_cons_succ]
      have HQ2 := Lib.hid (HQ1.out.keep (below_box (o := .cells #[.int .i64 AT, .int .i64 GE] 35)))
      have HP12 := Lib.hid (show PB (W1.alloc (.cells #[.int .i64 AT, .int .i64 GE] 35)) W1.heap.size [.int .i64 AT, .int .i64 GE] 35 from heap_alloc_new _ _)
      have HP32 := Lib.hid (HP31.out.keep (below_box (o := .cells #[.int .i64 AT, .int .i64 GE] 35)))
      obtain ⟨W2, hW2⟩ : ∃ W, W1.alloc (.cells #[.int .i64 AT, .int .i64 GE] 35) = W := ⟨_, rfl⟩
      rw [hW2] at hHeld HQ2 HP32 HP12 ⊢
      clear hW2
      refine wpAnyH_ready (rs := [5, 12]) (by kernel_rfl) (by simp) ?_
      refine AllReadyH.cons rfl (fun K hK => ?_) (AllReadyH.cons rfl (fun K hK => ?_) AllReadyH.nil)
      · refine step_append_vrow (by rfl) (.tmp 107) (.tmp 111) 26 rfl B0 35 iI _ 2 16 Try.underlying26 hinI hI0 hI1 hI2 rfl (by decide) (.slice qi ni ci) ni (is.flatMap prD) rfl HQ2.out.I (some ⟨_, 0, none⟩) 1 1 [.int .i64 AT, .int .i64 GE] rfl (HP12.out.row rfl) (by simp [Value.oneCell']) (by unfold maxLen; omega) (by omega) HQ2.out.hi ?_
        intro q1 d1 W3 hown hgrow _
        have HQ3 := Lib.hid (HQ2.out.appI (x := (AT, GE)) hown hgrow)
        have HP33 := Lib.hid (HP32.out.grown HQ2.out.I hgrow (by decide))
        refine hK.out _ _ ((HA.out _ HQ3.out.bel)) (fun hHeld => ?_)
        clear hK K hown hgrow
        try simp only [Act.put, List.setIfInBounds_toArray, List.set_cons_zero, List.set_cons_succ]
        refine wpAnyH_ready (rs := [12]) (by kernel_rfl) (by simp) ?_
        refine AllReadyH.cons rfl (fun K hK => ?_) AllReadyH.nil
        · go_simp
          refine hK.out _ _ ((HA.out _ (bthen HQ3.out.bel below_box))) (fun hHeld => ?_)
          clear hK K
          try simp only [Act.put, List.setIfInBounds_toArray, List.set_cons_zero, List.set_cons_succ]
          have HQ4 := Lib.hid (HQ3.out.keep (below_box (o := .cells #[.int .u64 rf] 29)))
          have HP24 := Lib.hid (show PB (W3.alloc (.cells #[.int .u64 rf] 29)) W3.heap.size [.int .u64 rf] 29 from heap_alloc_new _ _)
          have HP34 := Lib.hid (HP33.out.keep (below_box (o := .cells #[.int .u64 rf] 29)))
          obtain ⟨W4, hW4⟩ : ∃ W, W3.alloc (.cells #[.int .u64 rf] 29) = W := ⟨_, rfl⟩
          rw [hW4] at hHeld HQ4 HP34 HP24 ⊢
          clear hW4
          refine wpAnyH_ready (rs := [13]) (by kernel_rfl) (by simp) ?_
          refine AllReadyH.cons rfl (fun K hK => ?_) AllReadyH.nil
          · refine step_append_vrow (by rfl) (.tmp 113) (.tmp 119) 27 rfl B0 29 iR _ 1 8 Try.underlying27 hinR hR0 hR1 hR2 rfl (by decide) (.slice qr ni cr) ni (ivals .u64 rs) rfl HQ4.out.R (some ⟨_, 0, none⟩) 1 1 [.int .u64 rf] rfl (HP24.out.row rfl) (by simp [Value.oneCell']) (by unfold maxLen; omega) (by omega) HQ4.out.hi ?_
            intro q2 d2 W5 hown hgrow _
            have HQ5 := Lib.hid (HQ4.out.appR hown hgrow)
            have HP35 := Lib.hid (HP34.out.grown HQ4.out.R hgrow (by decide))
            refine hK.out _ _ ((HA.out _ HQ5.out.bel)) (fun hHeld => ?_)
            clear hK K hown hgrow
            try simp only [Act.put, List.setIfInBounds_toArray, List.set_cons_zero, List.set_cons_succ]
            refine wpAnyH_ready (rs := [16]) (by kernel_rfl) (by simp) ?_
            refine AllReadyH.cons rfl (fun K hK => ?_) AllReadyH.nil
            · refine step_append_vrow (by rfl) (.tmp 121) (.tmp 122) 28 rfl B0 4 iG _ 1 1 Try.underlying28 hinG hG0 hG1 hG2 rfl (by decide) (.slice qg ni cg) ni (bvals gn) rfl HQ5.out.G (some ⟨_, 0, none⟩) 1 1 [.bool false] rfl (HP35.out.row rfl) (by simp [Value.oneCell']) (by unfold maxLen; omega) (by omega) HQ5.out.hi ?_
              intro q3 d3 W6 hown hgrow _
              have HQ6 := Lib.hid (HQ5.out.appG hown hgrow)
              refine hK.out _ _ ((HA.out _ HQ6.out.bel)) (fun hHeld => ?_)
              clear hK K hown hgrow
              try simp only [Act.put, List.setIfInBounds_toArray, List.set_cons_zero, List.set_cons_succ]
              refine draw_take 17 4 (v := ?_) rfl rfl (by kernel_rfl) (by kernel_rfl) (by kernel_rfl) (fun c a W h => hP c a _ _ W h) (by kernel_rfl) ?hy hHeld ?_
              case hy => (intro w hSw; (try dsimp only at hSw); go_simp; try (with_reducible rfl))
              simp only [Act.put, List.setIfInBounds_toArray, List.set_cons_zero, List.set_cons_succ]
              refine draw_take 18 5 (v := ?_) rfl rfl (by kernel_rfl) (by kernel_rfl) (by kernel_rfl) (fun c a W h => hP c a _ _ W h) (by kernel_rfl) ?hy hHeld ?_
              case hy => (intro w hSw; (try dsimp only at hSw); go_simp; try (with_reducible rfl))
              simp only [Act.put, List.setIfInBounds_toArray, List.set_cons_zero, List.set_cons_succ]
              refine draw_take 19 6 (v := ?_) rfl rfl (by kernel_rfl) (by kernel_rfl) (by kernel_rfl) (fun c a W h => hP c a _ _ W h) (by kernel_rfl) ?hy hHeld ?_
              case hy => (intro w hSw; (try dsimp only at hSw); go_simp; try (with_reducible rfl))
              simp only [Act.put, List.setIfInBounds_toArray, List.set_cons_zero, List.set_cons_succ]
              refine wpAnyH_done (by kernel_rfl) ?_ _
              exact HK.out q1 d1 q2 d2 q3 d3 _ HQ6.out _ _ _ _ _ _ _ _ _ _ _ _ _ _ _ _ _
      · go_simp
        refine hK.out _ _ ((HA.out _ (bthen HQ2.out.bel below_box))) (fun hHeld => ?_)
        clear hK K
        try simp only [Act.put, List.setIfInBounds_toArray, List.set_cons_zero, List.set_cons_succ]
        have HQ3 := Lib.hid (HQ2.out.keep (below_box (o := .cells #[.int .u64 rf] 29)))
        have HP23 := Lib.hid (show PB (W2.alloc (.cells #[.int .u64 rf] 29)) W2.heap.size [.int .u64 rf] 29 from heap_alloc_new _ _)
        have HP33 := Lib.hid (HP32.out.keep (below_box (o := .cells #[.int .u64 rf] 29)))
        have HP13 := Lib.hid (HP12.out.keep (below_box (o := .cells #[.int .u64 rf] 29)))
        obtain ⟨W3, hW3⟩ : ∃ W, W2.alloc (.cells #[.int .u64 rf] 29) = W := ⟨_, rfl⟩
        rw [hW3] at hHeld HQ3 HP33 HP13 HP23 ⊢
        clear hW3
        refine wpAnyH_ready (rs := [5]) (by kernel_rfl) (by simp) ?_
        refine AllReadyH.cons rfl (fun K hK => ?_) AllReadyH.nil
        · refine step_append_vrow (by rfl) (.tmp 107) (.tmp 111) 26 rfl B0 35 iI _ 2 16 Try.underlying26 hinI hI0 hI1 hI2 rfl (by decide) (.slice qi ni ci) ni (is.flatMap prD) rfl HQ3.out.I (some ⟨_, 0, none⟩) 1 1 [.int .i64 AT, .int .i64 GE] rfl (HP13.out.row rfl) (by simp [Value.oneCell']) (by unfold maxLen; omega) (by omega) HQ3.out.hi ?_
          intro q1 d1 W4 hown hgrow _
          have HQ4 := Lib.hid (HQ3.out.appI (x := (AT, GE)) hown hgrow)
          have HP34 := Lib.hid (HP33.out.grown HQ3.out.I hgrow (by decide))
          have HP24 := Lib.hid (HP23.out.grown HQ3.out.I hgrow (by decide))
          refine hK.out _ _ ((HA.out _ HQ4.out.bel)) (fun hHeld => ?_)
          clear hK K hown hgrow
          try simp only [Act.put, List.setIfInBounds_toArray, List.set_cons_zero, List.set_cons_succ]
          refine wpAnyH_ready (rs := [13]) (by kernel_rfl) (by simp) ?_
          refine AllReadyH.cons rfl (fun K hK => ?_) AllReadyH.nil
          · refine step_append_vrow (by rfl) (.tmp 113) (.tmp 119) 27 rfl B0 29 iR _ 1 8 Try.underlying27 hinR hR0 hR1 hR2 rfl (by decide) (.slice qr ni cr) ni (ivals .u64 rs) rfl HQ4.out.R (some ⟨_, 0, none⟩) 1 1 [.int .u64 rf] rfl (HP24.out.row rfl) (by simp [Value.oneCell']) (by unfold maxLen; omega) (by omega) HQ4.out.hi ?_
            intro q2 d2 W5 hown hgrow _
            have HQ5 := Lib.hid (HQ4.out.appR hown hgrow)
            have HP35 := Lib.hid (HP34.out.grown HQ4.out.R hgrow (by decide))
            refine hK.out _ _ ((HA.out _ HQ5.out.bel)) (fun hHeld => ?_)
            clear hK K hown hgrow
            try simp only [Act.put, List.setIfInBounds_toArray, List.set_cons_zero, List.set_cons_succ]
            refine wpAnyH_ready (rs := [16]) (by kernel_rfl) (by simp) ?_
            refine AllReadyH.cons rfl (fun K hK => ?_) AllReadyH.nil
            · refine step_append_vrow (by rfl) (.tmp 121) (.tmp 122) 28 rfl B0 4 iG _ 1 1 Try.underlying28 hinG hG0 hG1 hG2 rfl (by decide) (.slice qg ni cg) ni (bvals gn) rfl HQ5.out.G (some ⟨_, 0, none⟩) 1 1 [.bool false] rfl (HP35.out.row rfl) (by simp [Value.oneCell']) (by unfold maxLen; omega) (by omega) HQ5.out.hi ?_
              intro q3 d3 W6 hown hgrow _
              have HQ6 := Lib.hid (HQ5.out.appG hown hgrow)
              refine hK.out _ _ ((HA.out _ HQ6.out.bel)) (fun hHeld => ?_)
              clear hK K hown hgrow
              try simp only [Act.put, List.setIfInBounds_toArray, List.set_cons_zero, List.set_cons_succ]
              refine draw_take 17 4 (v := ?_) rfl rfl (by kernel_rfl) (by kernel_rfl) (by kernel_rfl) (fun c a W h => hP c a _ _ W h) (by kernel_rfl) ?hy hHeld ?_
              case hy => (intro w hSw; (try dsimp only at hSw); go_simp; try (with_reducible rfl))
              simp only [Act.put, List.setIfInBounds_toArray, List.set_cons_zero, List.set_cons_succ]
              refine draw_take 18 5 (v := ?_) rfl rfl (by kernel_rfl) (by kernel_rfl) (by kernel_rfl) (fun c a W h => hP c a _ _ W h) (by kernel_rfl) ?hy hHeld ?_
              case hy => (intro w hSw; (try dsimp only at hSw); go_simp; try (with_reducible rfl))
              simp only [Act.put, List.setIfInBounds_toArray, List.set_cons_zero, List.set_cons_succ]
              refine draw_take 19 6 (v := ?_) rfl rfl (by kernel_rfl) (by kernel_rfl) (by kernel_rfl) (fun c a W h => hP c a _ _ W h) (by kernel_rfl) ?hy hHeld ?_
              case hy => (intro w hSw; (try dsimp only at hSw); go_simp; try (with_reducible rfl))
              simp only [Act.put, List.setIfInBounds_toArray, List.set_cons_zero, List.set_cons_succ]
              refine wpAnyH_done (by kernel_rfl) ?_ _
              exact HK.out q1 d1 q2 d2 q3 d3 _ HQ6.out _ _ _ _ _ _ _ _ _ _ _ _ _ _ _ _ _
    · go_simp
      refine hK.out _ _ ((HA.out _ (bthen HQ1.out.bel below_box))) (fun hHeld => ?_)
      clear hK K
      try simp only [Act.put, List.setIfInBounds_toArray, List.set_cons_zero, List.set_cons_succ]
      have HQ2 := Lib.hid (HQ1.out.keep (below_box (o := .cells #[.int .u64 rf] 29)))
      have HP22 := Lib.hid (show PB (W1.alloc (.cells #[.int .u64 rf] 29)) W1.heap.size [.int .u64 rf] 29 from heap_alloc_new _ _)
      have HP32 := Lib.hid (HP31.out.keep (below_box (o := .cells #[.int .u64 rf] 29)))
      obtain ⟨W2, hW2⟩ : ∃ W, W1.alloc (.cells #[.int .u64 rf] 29) = W := ⟨_, rfl⟩
      rw [hW2] at hHeld HQ2 HP32 HP22 ⊢
      clear hW2
      refine wpAnyH_ready (rs := [4]) (by kernel_rfl) (by simp) ?_
      refine AllReadyH.cons rfl (fun K hK => ?_) AllReadyH.nil
      · go_simp
        refine hK.out _ _ ((HA.out _ (bthen HQ2.out.bel below_box))) (fun hHeld => ?_)
        clear hK K
        try simp only [Act.put, List.setIfInBounds_toArray, List.set_cons_zero, List.set_cons_succ]
        have HQ3 := Lib.hid (HQ2.out.keep (below_box (o := .cells #[.int .i64 AT, .int .i64 GE] 35)))
        have HP13 := Lib.hid (show PB (W2.alloc (.cells #[.int .i64 AT, .int .i64 GE] 35)) W2.heap.size [.int .i64 AT, .int .i64 GE] 35 from heap_alloc_new _ _)
        have HP33 := Lib.hid (HP32.out.keep (below_box (o := .cells #[.int .i64 AT, .int .i64 GE] 35)))
        have HP23 := Lib.hid (HP22.out.keep (below_box (o := .cells #[.int .i64 AT, .int .i64 GE] 35)))
        obtain ⟨W3, hW3⟩ : ∃ W, W2.alloc (.cells #[.int .i64 AT, .int .i64 GE] 35) = W := ⟨_, rfl⟩
        rw [hW3] at hHeld HQ3 HP33 HP23 HP13 ⊢
        clear hW3
        refine wpAnyH_ready (rs := [5]) (by kernel_rfl) (by simp) ?_
        refine AllReadyH.cons rfl (fun K hK => ?_) AllReadyH.nil
        · refine step_append_vrow (by rfl) (.tmp 107) (.tmp 111) 26 rfl B0 35 iI _ 2 16 Try.underlying26 hinI hI0 hI1 hI2 rfl (by decide) (.slice qi ni ci) ni (is.flatMap prD) rfl HQ3.out.I (some ⟨_, 0, none⟩) 1 1 [.int .i64 AT, .int .i64 GE] rfl (HP13.out.row rfl) (by simp [Value.oneCell']) (by unfold maxLen; omega) (by omega) HQ3.out.hi ?_
          intro q1 d1 W4 hown hgrow _
          have HQ4 := Lib.hid (HQ3.out.appI (x := (AT, GE)) hown hgrow)
          have HP34 := Lib.hid (HP33.out.grown HQ3.out.I hgrow (by decide))
          have HP24 := Lib.hid (HP23.out.grown HQ3.out.I hgrow (by decide))
          refine hK.out _ _ ((HA.out _ HQ4.out.bel)) (fun hHeld => ?_)
          clear hK K hown hgrow
          try simp only [Act.put, List.setIfInBounds_toArray, List.set_cons_zero, List.set_cons_succ]
          refine wpAnyH_ready (rs := [13]) (by kernel_rfl) (by simp) ?_
          refine AllReadyH.cons rfl (fun K hK => ?_) AllReadyH.nil
          · refine step_append_vrow (by rfl) (.tmp 113) (.tmp 119) 27 rfl B0 29 iR _ 1 8 Try.underlying27 hinR hR0 hR1 hR2 rfl (by decide) (.slice qr ni cr) ni (ivals .u64 rs) rfl HQ4.out.R (some ⟨_, 0, none⟩) 1 1 [.int .u64 rf] rfl (HP24.out.row rfl) (by simp [Value.oneCell']) (by unfold maxLen; omega) (by omega) HQ4.out.hi ?_
            intro q2 d2 W5 hown hgrow _
            have HQ5 := Lib.hid (HQ4.out.appR hown hgrow)
            have HP35 := Lib.hid (HP34.out.grown HQ4.out.R hgrow (by decide))
            refine hK.out _ _ ((HA.out _ HQ5.out.bel)) (fun hHeld => ?_)
            clear hK K hown hgrow
            try simp only [Act.put, List.setIfInBounds_toArray, List.set_cons_zero, List.set_cons_succ]
            refine wpAnyH_ready (rs := [16]) (by kernel_rfl) (by simp) ?_
            refine AllReadyH.cons rfl (fun K hK => ?_) AllReadyH.nil
            · refine step_append_vrow (by rfl) (.tmp 121) (.tmp 122) 28 rfl B0 4 iG _ 1 1 Try.underlying28 hinG hG0 hG1 hG2 rfl (by decide) (.slice qg ni cg) ni (bvals gn) rfl HQ5.out.G (some ⟨_, 0, none⟩) 1 1 [.bool false] rfl (HP35.out.row rfl) (by simp [Value.oneCell']) (by unfold maxLen; omega) (by omega) HQ5.out.hi ?_
              intro q3 d3 W6 hown hgrow _
              have HQ6 := Lib.hid (HQ5.out.appG hown hgrow)
              refine hK.out _ _ ((HA.out _ HQ6.out.bel)) (fun hHeld => ?_)
              clear hK K hown hgrow
              try simp only [Act.put, List.setIfInBounds_toArray, List.set_cons_zero, List.set_cons_succ]
              refine draw_take 17 4 (v := ?_) rfl rfl (by kernel_rfl) (by kernel_rfl) (by kernel_rfl) (fun c a W h => hP c a _ _ W h) (by kernel_rfl) ?hy hHeld ?_
              case hy => (intro w hSw; (try dsimp only at hSw); go_simp; try (with_reducible rfl))
              simp only [Act.put, List.setIfInBounds_toArray, List.set_cons_zero, List.set_cons_succ]
              refine draw_take 18 5 (v := ?_) rfl rfl (by kernel_rfl) (by kernel_rfl) (by kernel_rfl) (fun c a W h => hP c a _ _ W h) (by kernel_rfl) ?hy hHeld ?_
              case hy => (intro w hSw; (try dsimp only at hSw); go_simp; try (with_reducible rfl))
              simp only [Act.put, List.setIfInBounds_toArray, List.set_cons_zero, List.set_cons_succ]
              refine draw_take 19 6 (v := ?_) rfl rfl (by kernel_rfl) (by kernel_rfl) (by kernel_rfl) (fun c a W h => hP c a _ _ W h) (by kernel_rfl) ?hy hHeld ?_
              case hy => (intro w hSw; (try dsimp only at hSw); go_simp; try (with_reducible rfl))
              simp only [Act.put, List.setIfInBounds_toArray, List.set_cons_zero, List.set_cons_succ]
              refine wpAnyH_done (by kernel_rfl) ?_ _
              exact HK.out q1 d1 q2 d2 q3 d3 _ HQ6.out _ _ _ _ _ _ _ _ _ _ _ _ _ _ _ _ _
end Go.Proofs.Ytggaaobpaodigaa
