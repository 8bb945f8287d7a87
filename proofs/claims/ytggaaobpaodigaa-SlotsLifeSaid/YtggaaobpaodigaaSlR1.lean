/- A region of SlotsLife. -/
import Derived.Test.YtggaaobpaodigaaSlR0
import Derived.Test.YtggaaobpaodigaaSlZ
import Derived.Test.YtggaaobpaodigaaDraw
set_option linter.unusedVariables false
set_option linter.unusedSimpArgs false
namespace Go.Proofs.Ytggaaobpaodigaa
open Go.RowKit

set_option maxRecDepth 100000 in
set_option maxHeartbeats 6400000 in
theorem reg27 {K : Act → World → Prop} {Q' : Exit → Act → World → Prop} (hP : ∀ c (a : Act) d v W, Q' (.panic c) (a.put d v) W → Q' (.panic c) a W) {wr : World} {B0 BT : Nat} {p : Option Addr} {n c : Nat} {t : List En} {ib ni ci J : Nat} {ii gg F : Int} {TT : List En} (hJ0 : (0 : Int) ≤ J) (hJ2 : (J : Int) < ni) (j0 : wr.cell? ⟨ib, J * 2, none⟩ = some (.int .i64 ii)) (j1 : wr.cell? ⟨ib, J * 2 + 1, none⟩ = some (.int .i64 gg)) (hcl : Hid (∀ w, VRow w 3 p n c (t.flatMap enC) → Calls Try.prog 5 #[.agg #[.slice p n c], .int .i64 ii, .int .i64 gg] w fun e w' => RetT w.heap.size TT F e w' ∧ Below w.heap.size w w')) (y0 : wr.cell? ⟨BT, 0, none⟩ = some (.slice p n c)) (hHi : B0 ≤ wr.heap.size) (HRw : Hid (VRow wr 3 p n c (t.flatMap enC)))
    {u0 u1 u2 u5 u6 u7 u8 u10 u11 u12 u13 u14 u15 u16 u17 u18 u19 u20 u21 u22 u23 u24 u25 u26 u27 u28 u29 u30 u31 u32 u33 u34 u35 u36 u37 u38 u39 u40 u41 u42 u43 u44 u45 u46 u47 u48 u49 u50 u51 u52 u53 u54 u55 u56 u57 u58 u59 u60 u61 u62 u63 u64 u65 u66 u67 u68 u69 u70 u71 u72 u73 u74 u75 u76 u77 u78 u79 u80 u81 u82 u83 u84 u85 u86 u87 u88 u89 u90 u91 u92 u93 u94 u95 u96 u97 u98 u99 u100 u101 u102 u103 u104 u105 u106 u107 u108 u109 u110 u111 u112 u113 u114 u115 u116 u117 u118 u119 u120 u121 u122 u123 u124 u125 u126 u127 u128 u129 u130 u131 u132 u133 u134 u135 u136 u137 u138 u139 u140 u141 u142 u143 u144 u145 u146 u147 u148 u149 u150 u151 u152 u153 u154 u155 u156 u157 u158 u159 u160 u161 u162 u163 u164 u165 u166 u167 u168 u169 u170 u171 u172 u173 u174 u175 u176 u177 u178 u179 u180 u181 u182 u183 u184 u185 u186 u187 u188 u189 u190 u191 u192 u193 u194 u195 u196 u197 u198 u199 u200 u201 u202 u203 u204 u205 u206 u207 u208 u209 u210 u211 u212 u213 u214 u215 u216 u217 u218 u219 u220 u221 u222 u223 u224 u225 u226 u227 u228 u229 u230 u231 u232 u233 u234 u235 u236 : Value}
    (hK : ∀ (N : Nat) (q : Option Addr) (m d : Nat) (W : World), OwnL W N [.slice q m d] → FT B0 W q m d TT → wr.heap.size ≤ N → Below wr.heap.size wr W → ∀ (v128 v129 v130 v131 v132 v133 v134 v135 v136 v137 v138 v139 v140 v141 v142 : Value), K ⟨#[u0, u1, u2, .pointer (some ⟨BT, 0, none⟩), .slice (some ⟨ib, 0, none⟩) ni ci, u5, u6, u7, u8, .int .i64 J, u10, u11, u12, u13, .pointer (some ⟨N, 0, none⟩), .int .i64 F, u16, u17, u18, u19, u20, u21, u22, u23, u24, u25, u26, u27, u28, u29, u30, u31, u32, u33, u34, u35, u36, u37, u38, u39, u40, u41, u42, u43, u44, u45, u46, u47, u48, u49, u50, u51, u52, u53, u54, u55, u56, u57, u58, u59, u60, u61, u62, u63, u64, u65, u66, u67, u68, u69, u70, u71, u72, u73, u74, u75, u76, u77, u78, u79, u80, u81, u82, u83, u84, u85, u86, u87, u88, u89, u90, u91, u92, u93, u94, u95, u96, u97, u98, u99, u100, u101, u102, u103, u104, u105, u106, u107, u108, u109, u110, u111, u112, u113, u114, u115, u116, u117, u118, u119, u120, u121, u122, u123, u124, u125, u126, u127, v128, v129, v130, v131, v132, v133, v134, v135, v136, v137, v138, v139, v140, v141, v142, u143, u144, u145, u146, u147, u148, u149, u150, u151, u152, u153, u154, u155, u156, u157, u158, u159, u160, u161, u162, u163, u164, u165, u166, u167, u168, u169, u170, u171, u172, u173, u174, u175, u176, u177, u178, u179, u180, u181, u182, u183, u184, u185, u186, u187, u188, u189, u190, u191, u192, u193, u194, u195, u196, u197, u198, u199, u200, u201, u202, u203, u204, u205, u206, u207, u208, u209, u210, u211, u212, u213, u214, u215, u216, u217, u218, u219, u220, u221, u222, u223, u224, u225, u226, u227, u228, u229, u230, u231, u232, u233, u234, u235, u236], []⟩ W) :
    Code.wp Try.prog (regL 27) (Exit.then K Q') ⟨#[u0, u1, u2, .pointer (some ⟨BT, 0, none⟩), .slice (some ⟨ib, 0, none⟩) ni ci, u5, u6, u7, u8, .int .i64 J, u10, u11, u12, u13, u14, u15, u16, u17, u18, u19, u20, u21, u22, u23, u24, u25, u26, u27, u28, u29, u30, u31, u32, u33, u34, u35, u36, u37, u38, u39, u40, u41, u42, u43, u44, u45, u46, u47, u48, u49, u50, u51, u52, u53, u54, u55, u56, u57, u58, u59, u60, u61, u62, u63, u64, u65, u66, u67, u68, u69, u70, u71, u72, u73, u74, u75, u76, u77, u78, u79, u80, u81, u82, u83, u84, u85, u86, u87, u88, u89, u90, u91, u92, u93, u94, u95, u96, u97, u98, u99, u100, u101, u102, u103, u104, u105, u106, u107, u108, u109, u110, u111, u112, u113, u114, u115, u116, u117, u118, u119, u120, u121, u122, u123, u124, u125, u126, u127, u128, u129, u130, u131, u132, u133, u134, u135, u136, u137, u138, u139, u140, u141, u142, u143, u144, u145, u146, u147, u148, u149, u150, u151, u152, u153, u154, u155, u156, u157, u158, u159, u160, u161, u162, u163, u164, u165, u166, u167, u168, u169, u170, u171, u172, u173, u174, u175, u176, u177, u178, u179, u180, u181, u182, u183, u184, u185, u186, u187, u188, u189, u190, u191, u192, u193, u194, u195, u196, u197, u198, u199, u200, u201, u202, u203, u204, u205, u206, u207, u208, u209, u210, u211, u212, u213, u214, u215, u216, u217, u218, u219, u220, u221, u222, u223, u224, u225, u226, u227, u228, u229, u230, u231, u232, u233, u234, u235, u236], []⟩ wr := by
  conv => arg 2; whnf
  have HK := Lib.hid hK
  clear hK
  have hSof := Lib.hid (fun W (hB : Below wr.heap.size wr W) => (⟨cell_keep hB y0, cell_keep hB j0, cell_keep hB j1, hB⟩ : (fun w' => w'.cell? ⟨BT, 0, none⟩ = some (.slice p n c) ∧ w'.cell? ⟨ib, J * 2, none⟩ = some (.int .i64 ii) ∧ w'.cell? ⟨ib, J * 2 + 1, none⟩ = some (.int .i64 gg) ∧ Below wr.heap.size wr w') W))
  refine wp_region_held_drew (S := fun w' => w'.cell? ⟨BT, 0, none⟩ = some (.slice p n c) ∧ w'.cell? ⟨ib, J * 2, none⟩ = some (.int .i64 ii) ∧ w'.cell? ⟨ib, J * 2 + 1, none⟩ = some (.int .i64 gg) ∧ Below wr.heap.size wr w') (by kernel_rfl) (hSof.out _ (Below.drew (Below.refl _ _))) (fun hHeld => ?_)
  refine draw_take 0 129 (v := ?_) rfl rfl (by kernel_rfl) (by kernel_rfl) (by kernel_rfl) (fun c a W h => hP c a _ _ W h) (by kernel_rfl) ?hy hHeld ?_
  case hy => (intro w hSw; (try dsimp only at hSw); go_simp; try (with_reducible rfl))
  simp only [Act.put, List.setIfInBounds_toArray, List.set_cons_zero, List.set_cons_succ]
  refine draw_take 1 130 (v := ?_) rfl rfl (by kernel_rfl) (by kernel_rfl) (by kernel_rfl) (fun c a W h => hP c a _ _ W h) (by kernel_rfl) ?hy hHeld ?_
  case hy => (intro w hSw; (try dsimp only at hSw); go_simp; try (with_reducible rfl))
  simp only [Act.put, List.setIfInBounds_toArray, List.set_cons_zero, List.set_cons_succ]
  refine draw_take 2 131 (v := ?_) rfl rfl (by kernel_rfl) (by kernel_rfl) (by kernel_rfl) (fun c a W h => hP c a _ _ W h) (by kernel_rfl) ?hy hHeld ?_
  case hy => (intro w hSw; (try dsimp only at hSw); go_simp; try (with_reducible rfl))
  simp only [Act.put, List.setIfInBounds_toArray, List.set_cons_zero, List.set_cons_succ]
  refine draw_take 3 132 (v := ?_) rfl rfl (by kernel_rfl) (by kernel_rfl) (by kernel_rfl) (fun c a W h => hP c a _ _ W h) (by kernel_rfl) ?hy hHeld ?_
  case hy => (intro w hSw; (try dsimp only at hSw); go_simp; try (with_reducible rfl))
  simp only [Act.put, List.setIfInBounds_toArray, List.set_cons_zero, List.set_cons_succ]
  refine draw_take 4 133 (v := ?_) rfl rfl (by kernel_rfl) (by kernel_rfl) (by kernel_rfl) (fun c a W h => hP c a _ _ W h) (by kernel_rfl) ?hy hHeld ?_
  case hy => (intro w hSw; (try dsimp only at hSw); go_simp; try (with_reducible rfl))
  simp only [Act.put, List.setIfInBounds_toArray, List.set_cons_zero, List.set_cons_succ]
  refine draw_take 5 134 (v := ?_) rfl rfl (by kernel_rfl) (by kernel_rfl) (by kernel_rfl) (fun c a W h => hP c a _ _ W h) (by kernel_rfl) ?hy hHeld ?_
  case hy => (intro w hSw; (try dsimp only at hSw); go_simp; try (with_reducible rfl))
  simp only [Act.put, List.setIfInBounds_toArray, List.set_cons_zero, List.set_cons_succ]
  refine draw_take 6 135 (v := ?_) rfl rfl (by kernel_rfl) (by kernel_rfl) (by kernel_rfl) (fun c a W h => hP c a _ _ W h) (by kernel_rfl) ?hy hHeld ?_
  case hy => (intro w hSw; (try dsimp only at hSw); go_simp; try (with_reducible rfl))
  simp only [Act.put, List.setIfInBounds_toArray, List.set_cons_zero, List.set_cons_succ]
  refine draw_take 7 136 (v := ?_) rfl rfl (by kernel_rfl) (by kernel_rfl) (by kernel_rfl) (fun c a W h => hP c a _ _ W h) (by kernel_rfl) ?hy hHeld ?_
  case hy => (intro w hSw; (try dsimp only at hSw); go_simp; try (with_reducible rfl))
  simp only [Act.put, List.setIfInBounds_toArray, List.set_cons_zero, List.set_cons_succ]
  refine draw_take 8 137 (v := ?_) rfl rfl (by kernel_rfl) (by kernel_rfl) (by kernel_rfl) (fun c a W h => hP c a _ _ W h) (by kernel_rfl) ?hy hHeld ?_
  case hy => (intro w hSw; (try dsimp only at hSw); go_simp; try (with_reducible rfl))
  simp only [Act.put, List.setIfInBounds_toArray, List.set_cons_zero, List.set_cons_succ]
  refine draw_take 9 138 (v := ?_) rfl rfl (by kernel_rfl) (by kernel_rfl) (by kernel_rfl) (fun c a W h => hP c a _ _ W h) (by kernel_rfl) ?hy hHeld ?_
  case hy => (intro w hSw; (try dsimp only at hSw); go_simp; try (with_reducible rfl))
  simp only [Act.put, List.setIfInBounds_toArray, List.set_cons_zero, List.set_cons_succ]
  refine draw_take 10 139 (v := ?_) rfl rfl (by kernel_rfl) (by kernel_rfl) (by kernel_rfl) (fun c a W h => hP c a _ _ W h) (by kernel_rfl) ?hy hHeld ?_
  case hy => (intro w hSw; (try dsimp only at hSw); go_simp; try (with_reducible rfl))
  simp only [Act.put, List.setIfInBounds_toArray, List.set_cons_zero, List.set_cons_succ]
  refine wpAnyH_ready (rs := [11, 15]) (by kernel_rfl) (by simp) ?_
  refine AllReadyH.cons rfl (fun K hK => ?_) (AllReadyH.cons rfl (fun K hK => ?_) AllReadyH.nil)
  · go_simp
    (go_at_call 5; refine (hcl.out _ (HRw.out.keep ((Below.refl _ _).drew))).mono ?_; rintro e w2 ⟨⟨q, m, d, rfl, hrow⟩, hbq⟩)
    have hb2 : Below wr.heap.size wr w2 := (Below.refl _ _).drew.trans (by simpa using hbq)
    go_wp2_with fail
    refine hK.out _ _ (hSof.out _ ((Below.refl _ _).drew.trans (by simpa using hbq))) (fun hHeld => ?_)
    clear hK K
    try simp only [Act.put, List.setIfInBounds_toArray, List.set_cons_zero, List.set_cons_succ]
    refine draw_take 12 128 (v := ?_) rfl rfl (by kernel_rfl) (by kernel_rfl) (by kernel_rfl) (fun c a W h => hP c a _ _ W h) (by kernel_rfl) ?hy hHeld ?_
    case hy => (intro w hSw; (try dsimp only at hSw); go_simp; try (with_reducible rfl))
    simp only [Act.put, List.setIfInBounds_toArray, List.set_cons_zero, List.set_cons_succ]
    refine draw_take 13 141 (v := ?_) rfl rfl (by kernel_rfl) (by kernel_rfl) (by kernel_rfl) (fun c a W h => hP c a _ _ W h) (by kernel_rfl) ?hy hHeld ?_
    case hy => (intro w hSw; (try dsimp only at hSw); go_simp; try (with_reducible rfl))
    simp only [Act.put, List.setIfInBounds_toArray, List.set_cons_zero, List.set_cons_succ]
    refine draw_take 14 142 (v := ?_) rfl rfl (by kernel_rfl) (by kernel_rfl) (by kernel_rfl) (fun c a W h => hP c a _ _ W h) (by kernel_rfl) ?hy hHeld ?_
    case hy => (intro w hSw; (try dsimp only at hSw); go_simp; try (with_reducible rfl))
    simp only [Act.put, List.setIfInBounds_toArray, List.set_cons_zero, List.set_cons_succ]
    refine wpAnyH_ready (rs := [15]) (by kernel_rfl) (by simp) ?_
    refine AllReadyH.cons rfl (fun K hK => ?_) AllReadyH.nil
    go_simp
    refine hK.out _ _ (hSof.out _ (bthen hb2 below_box)) (fun hHeld => ?_)
    clear hK K
    try simp only [Act.put, List.setIfInBounds_toArray, List.set_cons_zero, List.set_cons_succ]
    refine wpAnyH_ready (rs := [16]) (by kernel_rfl) (by simp) ?_
    refine AllReadyH.cons rfl (fun K hK => ?_) AllReadyH.nil
    go_simp
    refine hK.out _ _ (hSof.out _ (bthen hb2 below_box)) (fun hHeld => ?_)
    clear hK K
    try simp only [Act.put, List.setIfInBounds_toArray, List.set_cons_zero, List.set_cons_succ]
    refine draw_take 17 15 (v := ?_) rfl rfl (by kernel_rfl) (by kernel_rfl) (by kernel_rfl) (fun c a W h => hP c a _ _ W h) (by kernel_rfl) ?hy hHeld ?_
    case hy => (intro w hSw; (try dsimp only at hSw); go_simp; try (with_reducible rfl))
    simp only [Act.put, List.setIfInBounds_toArray, List.set_cons_zero, List.set_cons_succ]
    refine wpAnyH_done (by kernel_rfl) ?_ _
    exact HK.out _ q m d _ (OwnL.new _ _ _) ((hrow.mono (by simpa using hHi)).keep below_box) hb2.size (bthen hb2 below_box) _ _ _ _ _ _ _ _ _ _ _ _ _ _ _
  · go_simp
    refine hK.out _ _ (hSof.out _ ((Below.refl _ _).drew.alloc (by simp) _)) (fun hHeld => ?_)
    clear hK K
    try simp only [Act.put, List.setIfInBounds_toArray, List.set_cons_zero, List.set_cons_succ]
    refine wpAnyH_ready (rs := [11]) (by kernel_rfl) (by simp) ?_
    refine AllReadyH.cons rfl (fun K hK => ?_) AllReadyH.nil
    go_simp
    (go_at_call 5; refine (hcl.out _ (HRw.out.keep ((Below.refl _ _).drew.alloc (by simp) _))).mono ?_; rintro e w2 ⟨⟨q, m, d, rfl, hrow⟩, hbq⟩)
    have hb2 : Below wr.heap.size wr w2 := ((Below.refl _ _).drew.alloc (by simp) _).trans (hbq.mono (by simp))
    have ho3 := (OwnL.new wr.drew [.slice none 0 0] 25).keep hbq (by simp)
    simp only [World.size_drew] at ho3
    have HO3 := Lib.hid ho3
    have d0 := ho3.cell 0 _ rfl
    have f0 := ho3.free 0
    clear ho3
    go_wp2_with fail
    refine hK.out _ _ (hSof.out _ hb2) (fun hHeld => ?_)
    clear hK K
    try simp only [Act.put, List.setIfInBounds_toArray, List.set_cons_zero, List.set_cons_succ]
    refine draw_take 12 128 (v := ?_) rfl rfl (by kernel_rfl) (by kernel_rfl) (by kernel_rfl) (fun c a W h => hP c a _ _ W h) (by kernel_rfl) ?hy hHeld ?_
    case hy => (intro w hSw; (try dsimp only at hSw); go_simp; try (with_reducible rfl))
    simp only [Act.put, List.setIfInBounds_toArray, List.set_cons_zero, List.set_cons_succ]
    refine draw_take 13 141 (v := ?_) rfl rfl (by kernel_rfl) (by kernel_rfl) (by kernel_rfl) (fun c a W h => hP c a _ _ W h) (by kernel_rfl) ?hy hHeld ?_
    case hy => (intro w hSw; (try dsimp only at hSw); go_simp; try (with_reducible rfl))
    simp only [Act.put, List.setIfInBounds_toArray, List.set_cons_zero, List.set_cons_succ]
    refine draw_take 14 142 (v := ?_) rfl rfl (by kernel_rfl) (by kernel_rfl) (by kernel_rfl) (fun c a W h => hP c a _ _ W h) (by kernel_rfl) ?hy hHeld ?_
    case hy => (intro w hSw; (try dsimp only at hSw); go_simp; try (with_reducible rfl))
    simp only [Act.put, List.setIfInBounds_toArray, List.set_cons_zero, List.set_cons_succ]
    refine wpAnyH_ready (rs := [16]) (by kernel_rfl) (by simp) ?_
    refine AllReadyH.cons rfl (fun K hK => ?_) AllReadyH.nil
    go_simp
    refine hK.out _ _ (hSof.out _ (hb2.setCell (Nat.le_refl _) _)) (fun hHeld => ?_)
    clear hK K
    try simp only [Act.put, List.setIfInBounds_toArray, List.set_cons_zero, List.set_cons_succ]
    refine draw_take 17 15 (v := ?_) rfl rfl (by kernel_rfl) (by kernel_rfl) (by kernel_rfl) (fun c a W h => hP c a _ _ W h) (by kernel_rfl) ?hy hHeld ?_
    case hy => (intro w hSw; (try dsimp only at hSw); go_simp; try (with_reducible rfl))
    simp only [Act.put, List.setIfInBounds_toArray, List.set_cons_zero, List.set_cons_succ]
    refine wpAnyH_done (by kernel_rfl) ?_ _
    exact HK.out _ q m d _ (HO3.out.set 0 _ (by simp)) ((hrow.cell _ _ (by simp)).mono (Nat.le_trans hHi (by simp))) (Nat.le_refl _) (hb2.setCell (Nat.le_refl _) _) _ _ _ _ _ _ _ _ _ _ _ _ _ _ _
end Go.Proofs.Ytggaaobpaodigaa
