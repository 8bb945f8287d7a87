/- Contract of the reference's Delete of layer 14. -/
import Derived.Test.YtjnpmfkkagchjaaScY
import Derived.Test.YtjnpmfkkagchjaaScR
import Derived.Test.YtjnpmfkkagchjaaScO
set_option linter.unusedVariables false
set_option linter.unusedSimpArgs false
namespace Go.Proofs.Ytjnpmfkkagchjaa
open Go.RowKit

set_option maxRecDepth 100000 in
set_option maxHeartbeats 3200000 in
theorem refDelete_any (pa : Option Addr) (na ca : Nat) (pb : Option Addr) (nb cb : Nat) (pc : Option Addr) (nc cc : Nat) (l : Loc) (i st : Int) (w : World) (hr : LRow w pa na ca pb nb cb pc nc cc l) :
    Calls Try.prog 30 #[.agg #[.slice pa na ca, .slice pb nb cb, .slice pc nc cc], .int .i64 i, .int .i64 st] w fun e w' => RetL (delL l i st) (findV l i st) e w' ∧ Below w.heap.size w w' := by
  have Hl := Lib.hid hr.lens
  obtain ⟨h63a, h63b, h63c⟩ := hr.i63
  have Hr := Lib.hid (fun w' (h : Below w.heap.size w w') => hr.keep h)
  have hv := Lib.hid (fun w h => refVal_any pa na ca pb nb cb pc nc cc l w h)
  have hf := Lib.hid (fun w h => refGet_any pa na ca pb nb cb pc nc cc l i st w h)
  clear hr hv
  unfold delL
  obtain ⟨GV, hGV⟩ : ∃ GV, getV l i st = GV := ⟨_, rfl⟩
  rw [hGV] at hf
  clear hGV
  by_cases h0 : findV l i st = 0
  · rw [if_pos h0, h0]
    obtain ⟨j, s, rfl, ho, h2, hx, hst, hlv⟩ := findV_zero h0
    rw [h0] at hf
    obtain ⟨k1, k2, k3⟩ := lens_ok ho
    rw [Hl.out.1] at k1
    rw [Hl.out.2.1] at k2
    rw [Hl.out.2.2] at k3
    have hj : j < l.sl.length := (List.getElem?_eq_some_iff.1 hx).1
    have hj1 : j < na := by have := Hl.out.1; omega
    have hj2 : (j : Int) < na := by omega
    have hpos : 1 ≤ na := by omega
    have HXs := Lib.hid hx
    rw [Int.toNat_natCast]
    clear h0 ho h2 hx hst hlv
    go_enter Try.func30, Try.ntmps30
    go_upto_region 4 with (((go_at_call 28; refine (hf.out _ (Hr.out _ (bthen below_box below_box))).mono ?_); rintro e w2 ⟨rfl, hb2⟩; (obtain ⟨hX, hY, hB2, hs2⟩ := start2 hb2); have HX := Lib.hid hX; have HY := Lib.hid hY; have HB := Lib.hid hB2; (obtain ⟨x0, x1, x2, u0, u1, u2⟩ := own6 hX); (obtain ⟨y0, y1, y2, z0, z1, z2⟩ := own6 hY); clear hX hY hB2 hb2))
    obtain ⟨i0, hin, hz0, hz1, hz2⟩ := info_parts infoSl
    have hneW : w.heap.size < w2.heap.size := by omega
    go_wp2_with (at_builtin; refine wpList_append_vrow rfl _ _ 22 rfl w2.heap.size 56 i0 _ 3 24 Try.underlying22 hin hz0 hz1 hz2 rfl (by decide) (.slice (some ⟨w2.heap.size, 0, none⟩) 0 0) 0 [] rfl (own_none w2 56 3) pa na ca ((l.sl).flatMap slC) rfl (((Hr.out _ HB.out).sl.keep below_box)) (slC_one _) ?m3 ?m4 ?m5 ?_)
    case m3 => unfold maxLen; omega
    case m4 => omega
    case m5 => simp
    intro v' w3 hown hgrow
    have hbY := (below_box (w := w2) (o := .cells #[] 56)).grown hgrow (by simp) (fun k h => by simp [Value.ownBlock] at h; omega)
    try simp only [Nat.zero_add, List.nil_append] at hown
    obtain ⟨q', c', rfl⟩ := own_form hown
    have HOW := Lib.hid hown
    have HBY := Lib.hid hbY
    have hsY := hbY.size
    clear hown hgrow hbY hneW
    have HX3 := Lib.hid (HX.out.keep HBY.out (by omega))
    have HY3 := Lib.hid (HY.out.keep HBY.out (by omega))
    have HB3 := Lib.hid (bthen HB.out HBY.out)
    clear HX HY HB
    clear x0 x1 x2 u0 u1 u2 y0 y1 y2 z0 z1 z2
    obtain ⟨x0, x1, x2, u0, u1, u2⟩ := own6 HX3.out
    obtain ⟨y0, y1, y2, z0, z1, z2⟩ := own6 HY3.out
    go_upto_region 5 with fail
    obtain ⟨w4, hw4⟩ : ∃ w4, w3.setCell ⟨w.heap.size, 0, none⟩ (.slice q' na c') = w4 := ⟨_, rfl⟩
    have HX4 := Lib.hid (show OwnL w4 w.heap.size [.slice q' na c', .slice pb nb cb, .slice pc nc cc] from by rw [← hw4]; exact HX3.out.set 0 _ (by simp))
    have HY4 := Lib.hid (show OwnL w4 (w.heap.size + 1) [.slice none 0 0, .slice none 0 0, .slice none 0 0] from by rw [← hw4]; exact HY3.out.other _ _ (by simp))
    have HB4 := Lib.hid (show Below w.heap.size w w4 from by rw [← hw4]; exact HB3.out.setCell (Nat.le_refl _) _)
    have HO4 := Lib.hid (show w4.ownsRow w2.heap.size 56 3 (.slice q' na c') na (l.sl.flatMap slC) from by rw [← hw4]; exact own_cell HOW.out _ _ (fun e => by have := (HOW.out.lt _ e).1; simp at this; omega))
    have hs4 : w2.heap.size ≤ w4.heap.size := by rw [← hw4]; simpa using hsY
    rw [hw4]
    clear hw4 HX3 HY3 HB3 HOW HBY hsY
    clear x0 x1 x2 u0 u1 u2 y0 y1 y2 z0 z1 z2
    obtain ⟨x0, x1, x2, u0, u1, u2⟩ := own6 HX4.out
    obtain ⟨y0, y1, y2, z0, z1, z2⟩ := own6 HY4.out
    have hq := HO4.out
    obtain ⟨g, c4, he, hg, -⟩ := World.ownsRow.form hq hpos
    cases he
    have hlg := (hq.lt g rfl).2
    obtain ⟨⟨r0, r1, r2⟩, s0, s1, s2⟩ := own_slot hq HXs.out
    have hgb : g ≠ w.heap.size := by omega
    have hgb1 : g ≠ w.heap.size + 1 := by omega
    have HO5 := Lib.hid (own_setSl hq j hj ⟨st, 0, false⟩)
    have HB5 := Lib.hid (((HB4.out.setCell (p := ⟨g, j * 3, none⟩) (by simp; omega) (.int .i64 st)).setCell (p := ⟨g, j * 3 + 1, none⟩) (by simp; omega) (.int .u64 0)).setCell (p := ⟨g, j * 3 + 2, none⟩) (by simp; omega) (.bool false))
    have HY5 := Lib.hid (HY4.out.far3 (j * 3) (j * 3 + 1) (j * 3 + 2) (.int .i64 st) (.int .u64 0) (.bool false) hgb1)
    have HR5 := Lib.hid (show LRow _ (some ⟨g, 0, none⟩) na c' pb nb cb pc nc cc ⟨l.sl.set j ⟨st, 0, false⟩, l.sc, l.is⟩ from ⟨own_vrow HO5.out, (Hr.out _ HB5.out).sc, (Hr.out _ HB5.out).is⟩)
    have HR6 := Lib.hid (HR5.out.set3 HY5.out (.slice (some ⟨g, 0, none⟩) na c') (.slice pb nb cb) (.slice pc nc cc))
    clear hq
    go_wp2
    exact bodyPost_ret (v := .tuple #[.agg #[.slice (some ⟨g, 0, none⟩) na c', .slice pb nb cb, .slice pc nc cc], .int .i64 0]) (by simp [results, Try.results30, go_sem, y0, y1, y2]) rfl ⟨⟨_, na, c', pb, nb, cb, pc, nc, cc, rfl, HR6.out⟩, set3_below HB5.out (by omega)⟩
  · rw [if_neg h0]
    have hne : (findV l i st != 0) = true := bne_iff_ne.2 h0
    obtain ⟨R, hR⟩ : ∃ R, findV l i st = R := ⟨_, rfl⟩
    rw [hR] at hf hne ⊢
    clear hR h0
    go_enter Try.func30, Try.ntmps30
    go_wp2_with (((go_at_call 28; refine (hf.out _ (Hr.out _ (bthen below_box below_box))).mono ?_); rintro e w2 ⟨rfl, hb2⟩; (obtain ⟨hX, hY, hB2, hs2⟩ := start2 hb2); have HX := Lib.hid hX; have HY := Lib.hid hY; have HB := Lib.hid hB2; (obtain ⟨x0, x1, x2, u0, u1, u2⟩ := own6 hX); (obtain ⟨y0, y1, y2, z0, z1, z2⟩ := own6 hY); clear hX hY hB2 hb2))
    exact bodyPost_ret (v := .tuple #[.agg #[.slice none 0 0, .slice none 0 0, .slice none 0 0], .int .i64 R]) (by simp [results, Try.results30, go_sem, y0, y1, y2]) rfl ⟨RetL.zero _ _, ((HB.out.setCell (by simp) _).setCell (by simp) _).setCell (by simp) _⟩
end Go.Proofs.Ytjnpmfkkagchjaa
