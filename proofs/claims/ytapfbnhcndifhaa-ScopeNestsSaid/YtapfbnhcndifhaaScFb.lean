/- New: what it returns lies in memory of its own. -/
import Derived.Test.YtapfbnhcndifhaaScFr
import Derived.Test.YtapfbnhcndifhaaScN
set_option linter.unusedVariables false
set_option linter.unusedSimpArgs false
namespace Go.Proofs.Ytapfbnhcndifhaa
open Go.RowKit

set_option maxRecDepth 100000 in
set_option maxHeartbeats 3200000 in
theorem scNew_fr (pa : Option Addr) (na ca : Nat) (pb : Option Addr) (nb cb : Nat) (pc : Option Addr) (nc cc : Nat) (l : Loc) (ref : Int) (w : World) (hr : LRow w pa na ca pb nb cb pc nc cc l) :
    Calls Try.prog 11 #[.agg #[.slice pa na ca, .slice pb nb cb, .slice pc nc cc], .int .u64 ref] w fun e w' => RetNF w.heap.size (newL l ref) (newI l ref) (newS l ref) (roomV l ref) e w' ∧ Below w.heap.size w w' := by
  have Hl := Lib.hid hr.lens
  obtain ⟨h63a, h63b, h63c⟩ := hr.i63
  have Hr := Lib.hid (fun w' (h : Below w.heap.size w w') => hr.keep h)
  have hv := Lib.hid (fun w h => scValid_any pa na ca pb nb cb pc nc cc l w h)
  have hrm := Lib.hid (fun w h => room_any pa na ca pb nb cb pc nc cc l ref w h)
  clear hr hv
  unfold newL newI newS
  by_cases h0 : roomV l ref = 0
  · rw [if_pos h0, if_pos h0, if_pos h0, h0]
    rw [h0] at hrm
    obtain ⟨k1, k2, k3⟩ := lens_ok (room_ok h0).1
    have k4 := k1
    have k5 := k2
    have k6 := k3
    rw [Hl.out.1] at k1
    rw [Hl.out.2.1] at k2
    rw [Hl.out.2.2] at k3
    obtain ⟨i0, hin, hz0, hz1, hz2⟩ := info_parts infoSl
    obtain ⟨i1, hin1, hy0, hy1, hy2⟩ := info_parts infoInt
    clear h0
    go_enter Try.func11, Try.ntmps11
    go_upto_region 5 with (first | ((go_at_call 37; refine (hrm.out _ (Hr.out _ (bthen below_box below_box))).mono ?_); rintro e w2 ⟨rfl, hb2⟩; (obtain ⟨hX, hY, hB2, hs2⟩ := start2 hb2); have HX := Lib.hid hX; have HY := Lib.hid hY; have HB := Lib.hid hB2; (obtain ⟨x0, x1, x2⟩ := own3c hX); (obtain ⟨y0, y1, y2, z0, z1, z2⟩ := own6 hY); clear hX hY hB2 hb2) | ((go_at_call 38; refine (owned_any _ _ _ _ _ _ _ _ _ _ _ (Hr.out _ HB.out) (by omega) (by omega) (by omega)).mono ?_); rintro e w3 ⟨⟨q1, c1, q2, c2, q3, c3, rfl, hO⟩, hb3⟩; have HO := Lib.hid hO; have HX3 := Lib.hid (HX.out.keep hb3 (by omega)); have HY3 := Lib.hid (HY.out.keep hb3 (by omega)); have HB3 := Lib.hid (HB.out.trans (hb3.mono HB.out.size)); have hs3 := hb3.size; clear x0 x1 x2 y0 y1 y2 z0 z1 z2 hO hb3; (obtain ⟨x0, x1, x2, u0, u1, u2⟩ := own6 HX3.out); (obtain ⟨y0, y1, y2, z0, z1, z2⟩ := own6 HY3.out)))
    obtain ⟨w4, hw4⟩ : ∃ w4, ((w3.setCell ⟨w.heap.size, 0, none⟩ (.slice q1 l.sl.length c1)).setCell ⟨w.heap.size, 1, none⟩ (.slice q2 l.sc.length c2)).setCell ⟨w.heap.size, 2, none⟩ (.slice q3 l.is.length c3) = w4 := ⟨_, rfl⟩
    have HX4 := Lib.hid (show OwnL w4 w.heap.size [.slice q1 l.sl.length c1, .slice q2 l.sc.length c2, .slice q3 l.is.length c3] from by rw [← hw4]; exact set3_own HX3.out)
    have HY4 := Lib.hid (show OwnL w4 (w.heap.size + 1) [.slice none 0 0, .slice none 0 0, .slice none 0 0] from by rw [← hw4]; exact set3_other HY3.out (by omega))
    have HO4 := Lib.hid (show OwnLoc w4 w2.heap.size q1 l.sl.length c1 q2 l.sc.length c2 q3 l.is.length c3 l from by rw [← hw4]; exact set3_loc HO.out (by omega))
    have HB4 := Lib.hid (show Below w.heap.size w w4 from by rw [← hw4]; exact set3_below HB3.out (Nat.le_refl _))
    have hs4 : w2.heap.size ≤ w4.heap.size := by rw [← hw4, set3_size]; exact hs3
    rw [hw4]
    clear hw4 HO HX3 HY3 HB3 HX HY HB hs3 x0 x1 x2 u0 u1 u2 y0 y1 y2 z0 z1 z2
    obtain ⟨x0, x1, x2, u0, u1, u2⟩ := own6 HX4.out
    obtain ⟨y0, y1, y2, z0, z1, z2⟩ := own6 HY4.out
    go_region
    obtain ⟨w5, hw⟩ : ∃ w5, w4.drew = w5 := ⟨_, rfl⟩
    have HX5 := Lib.hid (show OwnL w5 w.heap.size [.slice q1 l.sl.length c1, .slice q2 l.sc.length c2, .slice q3 l.is.length c3] from by rw [← hw]; exact HX4.out.keep (Below.drew (Below.refl _ _)) (by omega))
    have HY5 := Lib.hid (show OwnL w5 (w.heap.size + 1) [.slice none 0 0, .slice none 0 0, .slice none 0 0] from by rw [← hw]; exact HY4.out.keep (Below.drew (Below.refl _ _)) (by omega))
    have HO5 := Lib.hid (show OwnLoc w5 w2.heap.size q1 l.sl.length c1 q2 l.sc.length c2 q3 l.is.length c3 l from by rw [← hw]; exact HO4.out.keep (Below.drew (Below.refl _ _)))
    have HB5 := Lib.hid (show Below w.heap.size w w5 from by rw [← hw]; exact HB4.out.drew)
    have hs5 : w2.heap.size ≤ w5.heap.size := by rw [← hw]; simpa using hs4
    rw [hw]
    clear hw x0 x1 x2 u0 u1 u2 y0 y1 y2 z0 z1 z2
    obtain ⟨x0, x1, x2, u0, u1, u2⟩ := own6 HX5.out
    obtain ⟨y0, y1, y2, z0, z1, z2⟩ := own6 HY5.out
    go_wp2_with (at_builtin; refine wpList_append_own_at _ rfl _ _ 24 rfl w2.heap.size 75 i0 _ 3 24 Try.underlying24 hin hz0 hz1 hz2 rfl (by decide) (.slice q1 l.sl.length c1) (l.sl.length) (l.sl.flatMap slC) rfl (HO5.out.a.alloc _) ⟨w5.heap.size, 0, none⟩ 1 1 (slC ⟨l.is.length + 1, ref, true⟩) rfl rfl (World.news_of_block (cs := #[.int .i64 (l.is.length + 1), .int .u64 ref, .bool true]) (fr := (0, 0)) (heap_alloc_new w5 _)) ?m2 ?m3 ?m4 ?m5 ?_)
    case m2 => simp [Value.oneCell', slC]
    case m3 => unfold maxLen; omega
    case m4 => omega
    case m5 => simp; omega
    intro v' w6 hown hgrow _ hat
    obtain ⟨q4, c4, rfl⟩ := own_form hown
    have hO' := HO5.out.keep (below_box (o := .cells #[.int .i64 (l.is.length + 1), .int .u64 ref, .bool true] 75))
    have HO6 := Lib.hid (hO'.appA hown hgrow (by rw [World.size_alloc]; exact hat))
    have HX6 := Lib.hid ((HX5.out.keep (below_box (o := .cells #[.int .i64 (l.is.length + 1), .int .u64 ref, .bool true] 75)) (by omega)).grown hgrow (by simp; omega) (fun e => by have := (HO5.out.a.lt _ e.symm).1; omega))
    have HY6 := Lib.hid ((HY5.out.keep (below_box (o := .cells #[.int .i64 (l.is.length + 1), .int .u64 ref, .bool true] 75)) (by omega)).grown hgrow (by simp; omega) (fun e => by have := (HO5.out.a.lt _ e.symm).1; omega))
    have HB6 := Lib.hid (below_row (bthen HB5.out (below_box (o := .cells #[.int .i64 (l.is.length + 1), .int .u64 ref, .bool true] 75))) hO'.a hgrow (by omega) (by simp; omega))
    have hs6 : w2.heap.size ≤ w6.heap.size := by have := hgrow.size; simp at this; omega
    clear hO' hown hgrow hat x0 x1 x2 u0 u1 u2 y0 y1 y2 z0 z1 z2
    obtain ⟨x0, x1, x2, u0, u1, u2⟩ := own6 HX6.out
    obtain ⟨y0, y1, y2, z0, z1, z2⟩ := own6 HY6.out
    go_upto_region 7 with fail
    obtain ⟨w7, hw⟩ : ∃ w7, w6.setCell ⟨w.heap.size, 0, none⟩ (.slice q4 (l.sl.length + 1) c4) = w7 := ⟨_, rfl⟩
    have HX7 := Lib.hid (show OwnL w7 w.heap.size [.slice q4 (l.sl.length + 1) c4, .slice q2 l.sc.length c2, .slice q3 l.is.length c3] from by rw [← hw]; exact HX6.out.set 0 _ (by simp))
    have HY7 := Lib.hid (show OwnL w7 (w.heap.size + 1) [.slice none 0 0, .slice none 0 0, .slice none 0 0] from by rw [← hw]; exact HY6.out.other _ _ (by simp))
    have HO7 := Lib.hid (show OwnLoc w7 w2.heap.size q4 (l.sl.length + 1) c4 q2 l.sc.length c2 q3 l.is.length c3 ⟨l.sl ++ [⟨l.is.length + 1, ref, true⟩], l.sc, l.is⟩ from by rw [← hw]; exact HO6.out.cell _ _ (by simp; omega))
    have HB7 := Lib.hid (show Below w.heap.size w w7 from by rw [← hw]; exact HB6.out.setCell (Nat.le_refl _) _)
    have hs7 : w2.heap.size ≤ w7.heap.size := by rw [← hw]; simpa using hs6
    rw [hw]
    clear hw x0 x1 x2 u0 u1 u2 y0 y1 y2 z0 z1 z2
    obtain ⟨x0, x1, x2, u0, u1, u2⟩ := own6 HX7.out
    obtain ⟨y0, y1, y2, z0, z1, z2⟩ := own6 HY7.out
    go_wp2_with (at_builtin; refine wpList_append_own_at _ rfl _ _ 26 rfl w2.heap.size 3 i1 _ 1 8 Try.underlying26 hin1 hy0 hy1 hy2 rfl (by decide) (.slice q3 l.is.length c3) (l.is.length) (ivals .i64 l.is) rfl (HO7.out.c.alloc _) ⟨w7.heap.size, 0, none⟩ 1 1 [.int .i64 l.sl.length] rfl rfl (World.news_of_block (cs := #[.int .i64 l.sl.length]) (fr := (0, 0)) (heap_alloc_new w7 _)) ?m2 ?m3 ?m4 ?m5 ?_)
    case m2 => simp [Value.oneCell']
    case m3 => unfold maxLen; omega
    case m4 => omega
    case m5 => simp; omega
    intro v' w8 hown hgrow _ hat
    obtain ⟨q5, c5, rfl⟩ := own_form hown
    have hO' := HO7.out.keep (below_box (o := .cells #[.int .i64 l.sl.length] 3))
    have HO8 := Lib.hid (hO'.appC hown hgrow (by rw [World.size_alloc]; exact hat))
    have HX8 := Lib.hid ((HX7.out.keep (below_box (o := .cells #[.int .i64 l.sl.length] 3)) (by omega)).grown hgrow (by simp; omega) (fun e => by have := (HO7.out.c.lt _ e.symm).1; omega))
    have HY8 := Lib.hid ((HY7.out.keep (below_box (o := .cells #[.int .i64 l.sl.length] 3)) (by omega)).grown hgrow (by simp; omega) (fun e => by have := (HO7.out.c.lt _ e.symm).1; omega))
    have HB8 := Lib.hid (below_row (bthen HB7.out (below_box (o := .cells #[.int .i64 l.sl.length] 3))) hO'.c hgrow (by omega) (by simp; omega))
    have hs8 : w2.heap.size ≤ w8.heap.size := by have := hgrow.size; simp at this; omega
    clear hO' hown hgrow hat x0 x1 x2 u0 u1 u2 y0 y1 y2 z0 z1 z2
    obtain ⟨x0, x1, x2, u0, u1, u2⟩ := own6 HX8.out
    obtain ⟨y0, y1, y2, z0, z1, z2⟩ := own6 HY8.out
    go_wp2
    exact bodyPost_ret (v := .tuple #[.agg #[.slice q4 (l.sl.length + 1) c4, .slice q2 l.sc.length c2, .slice q5 (l.is.length + 1) c5], .int .i64 l.sl.length, .int .i64 (l.is.length + 1), .int .i64 0]) (by simp [results, Try.results11, go_sem, y0, y1, y2]) rfl ⟨⟨q4, l.sl.length + 1, c4, q2, l.sc.length, c2, q5, l.is.length + 1, c5, rfl, (set3_loc (HO8.out.cell ⟨w.heap.size, 2, none⟩ _ (by simp; omega)) (by omega)).frow (by first | omega | (simp; omega) | (simp; done))⟩, set3_below (HB8.out.setCell (Nat.le_refl _) _) (by omega)⟩
  · rw [if_neg h0, if_neg h0, if_neg h0]
    have hne : (roomV l ref != 0) = true := bne_iff_ne.2 h0
    obtain ⟨R, hR⟩ : ∃ R, roomV l ref = R := ⟨_, rfl⟩
    rw [hR] at hrm hne ⊢
    clear hR h0
    go_enter Try.func11, Try.ntmps11
    go_wp2_with (((go_at_call 37; refine (hrm.out _ (Hr.out _ (bthen below_box below_box))).mono ?_); rintro e w2 ⟨rfl, hb2⟩; (obtain ⟨hX, hY, hB2, hs2⟩ := start2 hb2); have HX := Lib.hid hX; have HY := Lib.hid hY; have HB := Lib.hid hB2; (obtain ⟨x0, x1, x2⟩ := own3c hX); (obtain ⟨y0, y1, y2, z0, z1, z2⟩ := own6 hY); clear hX hY hB2 hb2))
    exact bodyPost_ret (v := .tuple #[.agg #[.slice none 0 0, .slice none 0 0, .slice none 0 0], .int .i64 0, .int .i64 0, .int .i64 R]) (by simp [results, Try.results11, go_sem, y0, y1, y2]) rfl ⟨RetNF.zero _ _ _, ((HB.out.setCell (by simp) _).setCell (by simp) _).setCell (by simp) _⟩
end Go.Proofs.Ytapfbnhcndifhaa
