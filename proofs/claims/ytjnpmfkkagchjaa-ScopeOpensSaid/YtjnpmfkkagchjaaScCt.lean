/- Contract of the reference's cut of layer 14. -/
import Derived.Test.YtjnpmfkkagchjaaScW
import Derived.Test.YtjnpmfkkagchjaaScSt
import Derived.Deep.RegionLaw
set_option linter.unusedVariables false
set_option linter.unusedSimpArgs false
namespace Go.Proofs.Ytjnpmfkkagchjaa
open Go.RowKit

set_option maxRecDepth 100000 in
set_option maxHeartbeats 3200000 in
theorem cut_any (pa : Option Addr) (na ca : Nat) (pb : Option Addr) (nb cb : Nat) (pc : Option Addr) (nc cc : Nat) (l : Loc) (k : Nat) (s : Sp) (w : World) (hr : LRow w pa na ca pb nb cb pc nc cc l) (ho : okB l = true) (hs : l.sc[k]? = some s) :
    Calls Try.prog 42 #[.agg #[.slice pa na ca, .slice pb nb cb, .slice pc nc cc], .int .i64 k] w fun e w' => RetO (cutL l k s) e w' ∧ Below w.heap.size w w' := by
  have Hl := Lib.hid hr.lens
  obtain ⟨h63a, h63b, h63c⟩ := hr.i63
  have g := good_iff.1 ho
  obtain ⟨h, hh⟩ : ∃ h : Nat, s.fr = h := ⟨s.fr.toNat, by have := fr_nonneg g.fr k s hs; omega⟩
  have hkn : k < nb := by have := (List.getElem?_eq_some_iff.1 hs).1; have := Hl.out.2.1; omega
  have hhn : h ≤ na := by have := (g.fr k s hs).2.2.1; have := Hl.out.1; omega
  have hca : na ≤ ca := hr.sl.le
  have hcb : nb ≤ cb := hr.sc.le
  obtain ⟨k1, k2, k3⟩ := lens_ok ho
  rw [Hl.out.1] at k1
  rw [Hl.out.2.1] at k2
  rw [Hl.out.2.2] at k3
  have HRc := Lib.hid (show LRow w pa h ca pb k cb pc nc cc (cutL l k s) from ⟨by unfold cutL; simp only; rw [hh, Int.toNat_natCast]; exact hr.sl.head slC slC_len hhn, hr.sc.head spC spC_len (by omega), hr.is⟩)
  have HE := Lib.hid (show cutL l k s = ⟨l.sl.take h, l.sc.take k, l.is⟩ from by unfold cutL; rw [hh, Int.toNat_natCast])
  rw [HE.out] at HRc ⊢
  have hsz : ∀ w' : World, Below w.heap.size w w' → VRow w' 3 pb nb cb (l.sc.flatMap spC) := fun w' h => (hr.keep h).sc
  have hkn2 : (k : Int) < nb := by omega
  have hhn2 : (h : Int) ≤ na := by omega
  have hk0 : (0 : Int) ≤ k := Int.natCast_nonneg _
  have hh0 : (0 : Int) ≤ h := Int.natCast_nonneg _
  obtain ⟨i0, hin, hz0, hz1, hz2⟩ := info_parts infoSl
  obtain ⟨i2, hin2, hx0, hx1, hx2⟩ := info_parts infoSp
  have hr1 := hsz ((w.alloc (.cells #[.slice pa na ca, .slice pb nb cb, .slice pc nc cc] 26)).alloc (.cells #[.slice none 0 0, .slice none 0 0, .slice none 0 0] 26)) (bthen below_box below_box)
  obtain ⟨s', b, off, hx, rfl, c0, c1, c2⟩ := scope_at hr1 hkn
  obtain rfl : s = s' := by rw [hs] at hx; cases hx; rfl
  rw [hh] at c0
  have hbA : b < w.heap.size := by
    obtain ⟨_, b', off', _, hp', e0, _, _⟩ := scope_at hr.sc hkn
    cases hp'; exact cell_lt e0
  have hhc : h ≤ ca := by omega
  have hkc : k ≤ cb := by omega
  clear hr hr1 hsz g ho hs hx hh c1 c2 HE
  go_enter Try.func42, Try.ntmps42
  go_upto_region 1 with fail
  obtain ⟨w1, hw1⟩ : ∃ w1, (w.alloc (.cells #[.slice pa na ca, .slice (some ⟨b, off, none⟩) nb cb, .slice pc nc cc] 26)).alloc (.cells #[.slice none 0 0, .slice none 0 0, .slice none 0 0] 26) = w1 := ⟨_, rfl⟩
  obtain ⟨hX, hY, hB, -⟩ := start2 (w := w) (a := .slice pa na ca) (b := .slice (some ⟨b, off, none⟩) nb cb) (c := .slice pc nc cc) (T := 26) (Below.refl _ _)
  have hs1 : w.heap.size + 2 ≤ w1.heap.size := by rw [← hw1]; simp
  rw [hw1] at hX hY hB c0 ⊢
  have HX := Lib.hid hX
  have HY := Lib.hid hY
  have HB := Lib.hid hB
  clear hw1 hX hY hB
  have HRs := Lib.hid (fun W (hW : Below w1.heap.size w1 W) => ((HRc.out.keep HB.out).keep hW).sl)
  have hltB : w.heap.size < w1.heap.size := by omega
  have hltb : b < w1.heap.size := by omega
  obtain ⟨x0, x1, x2, u0, u1, u2⟩ := own6 HX.out
  go_region_law? (refine step_append_vrow (by rfl) (.tmp 5) (.tmp 14) 22 rfl w1.heap.size 56 i0 _ 3 24 Try.underlying22 hin hz0 hz1 hz2 rfl (by decide) (.slice (some ⟨_, 0, none⟩) 0 0) 0 [] rfl (by first | exact own_none _ _ 3 | exact own_lower (own_none _ _ 3) (by first | omega | (simp; omega) | (simp; done)) | exact own_below (own_none _ _ 3) (Below.drew (Below.refl _ _))) pa h ca ((l.sl.take h).flatMap slC) rfl (HRs.out _ (Below.mono (by first | exact below_box | exact below_box.drew | exact ((Below.refl _ _).drew).alloc (by first | omega | (simp; omega) | (simp; done)) _ | exact ((Below.refl _ _).alloc (by first | omega | (simp; omega) | (simp; done)) _).drew) (Nat.le_refl _))) (slC_one _) (by unfold maxLen; omega) (by omega) (by first | omega | (simp; omega) | (simp; done)) ?_; intro q' c' v5 hown1 hgrow1 hat1; have HO1 := Lib.hid (show v5.ownsRow w1.heap.size 56 3 (.slice q' h c') h ((l.sl.take h).flatMap slC) from by simpa using hown1); have HX5 := Lib.hid ((HX.out.keep (Below.mono (by first | exact below_box | exact below_box.drew | exact ((Below.refl _ _).drew).alloc (by first | omega | (simp; omega) | (simp; done)) _ | exact ((Below.refl _ _).alloc (by first | omega | (simp; omega) | (simp; done)) _).drew) (Nat.le_refl _)) (by first | omega | (simp; omega) | (simp; done))).grown hgrow1 (by first | omega | (simp; omega) | (simp; done)) (fun e => by simp [Value.ownBlock] at e; omega)); have HY5 := Lib.hid ((HY.out.keep (Below.mono (by first | exact below_box | exact below_box.drew | exact ((Below.refl _ _).drew).alloc (by first | omega | (simp; omega) | (simp; done)) _ | exact ((Below.refl _ _).alloc (by first | omega | (simp; omega) | (simp; done)) _).drew) (Nat.le_refl _)) (by first | omega | (simp; omega) | (simp; done))).grown hgrow1 (by first | omega | (simp; omega) | (simp; done)) (fun e => by simp [Value.ownBlock] at e; omega)); have HB5 := Lib.hid ((HB.out.trans (Below.mono (by first | exact below_box | exact below_box.drew | exact ((Below.refl _ _).drew).alloc (by first | omega | (simp; omega) | (simp; done)) _ | exact ((Below.refl _ _).alloc (by first | omega | (simp; omega) | (simp; done)) _).drew) HB.out.size)).grown hgrow1 (by first | omega | (simp; omega) | (simp; done)) (fun k h => by simp [Value.ownBlock] at h; omega)); have hs5 : w1.heap.size ≤ v5.heap.size := (by have := hgrow1.size; simp at this; omega); clear x0 x1 x2 u0 u1 u2 c0; (obtain ⟨x0, x1, x2, u0, u1, u2⟩ := own6 HX5.out); (obtain ⟨y0, y1, y2, z0, z1, z2⟩ := own6 HY5.out); clear hown1 hgrow1 hat1)
  all_goals
    have HR5 := Lib.hid (show LRow v5 q' h c' (some ⟨b, off, none⟩) k cb pc nc cc ⟨l.sl.take h, l.sc.take k, l.is⟩ from ⟨own_vrow HO1.out, (HRc.out.keep HB5.out).sc, (HRc.out.keep HB5.out).is⟩)
    have HR6 := Lib.hid (HR5.out.setS ⟨w.heap.size, 0, none⟩ (.slice q' h c') x0)
    have HX6 := Lib.hid (HX5.out.set 0 (.slice q' h c') (by simp))
    have HY6 := Lib.hid (HY5.out.other ⟨w.heap.size, 0, none⟩ (.slice q' h c') (by simp))
    have HB6 := Lib.hid (show Below w.heap.size w (v5.setCell ⟨w.heap.size, 0, none⟩ (.slice q' h c')) from HB5.out.setCell (Nat.le_refl _) _)
    obtain ⟨v6, hv6⟩ : ∃ v6, v5.setCell ⟨w.heap.size, 0, none⟩ (.slice q' h c') = v6 := ⟨_, rfl⟩
    have hs6 : w1.heap.size ≤ v6.heap.size := by rw [← hv6]; simpa using hs5
    rw [hv6] at HR6 HX6 HY6 HB6 ⊢
    clear hv6 HR5 HX5 HY5 HB5 HO1 HX HY HB HRs x0 x1 x2 u0 u1 u2 y0 y1 y2 z0 z1 z2 hs5 HRc
    obtain ⟨x0, x1, x2, u0, u1, u2⟩ := own6 (show OwnL v6 w.heap.size [.slice q' h c', .slice (some ⟨b, off, none⟩) nb cb, .slice pc nc cc] from HX6.out)
    obtain ⟨y0, y1, y2, z0, z1, z2⟩ := own6 HY6.out
    have hlt6 : w.heap.size < v6.heap.size := by omega
    go_wp2_with (at_builtin; refine wpList_append_vrow rfl _ _ 23 rfl v6.heap.size 58 i2 _ 3 24 Try.underlying23 hin2 hx0 hx1 hx2 rfl (by decide) (.slice (some ⟨v6.heap.size, 0, none⟩) 0 0) 0 [] rfl (own_none v6 58 3) (some ⟨b, off, none⟩) k cb ((l.sc.take k).flatMap spC) rfl ((HR6.out.keep below_box).sc) (spC_one _) ?m3 ?m4 ?m5 ?_)
    case m3 => unfold maxLen; omega
    case m4 => omega
    case m5 => simp
    intro v' v7 hown hgrow
    have hb7 := (below_box (w := v6) (o := .cells #[] 58)).grown hgrow (by simp) (fun k h => by simp [Value.ownBlock] at h; omega)
    try simp only [Nat.zero_add, List.nil_append] at hown
    obtain ⟨q2, d2, rfl⟩ := own_form hown
    have HR7 := Lib.hid (show LRow v7 q' h c' q2 k d2 pc nc cc ⟨l.sl.take h, l.sc.take k, l.is⟩ from ⟨(HR6.out.keep hb7).sl, own_vrow hown, (HR6.out.keep hb7).is⟩)
    have HX7 := Lib.hid (HX6.out.keep hb7 (by omega))
    have HY7 := Lib.hid (HY6.out.keep hb7 (by omega))
    have HB7 := Lib.hid (bthen HB6.out hb7)
    clear hown hgrow hb7 x0 x1 x2 u0 u1 u2 y0 y1 y2 z0 z1 z2
    obtain ⟨x0, x1, x2, u0, u1, u2⟩ := own6 (show OwnL v7 w.heap.size [.slice q' h c', .slice (some ⟨b, off, none⟩) nb cb, .slice pc nc cc] from HX7.out)
    obtain ⟨y0, y1, y2, z0, z1, z2⟩ := own6 HY7.out
    have HR8 := Lib.hid (HR7.out.setS ⟨w.heap.size, 1, none⟩ (.slice q2 k d2) x1)
    have HR9 := Lib.hid (HR8.out.set3 (HY7.out.other ⟨w.heap.size, 1, none⟩ (.slice q2 k d2) (by simp)) (.slice q' h c') (.slice q2 k d2) (.slice pc nc cc))
    have HB9 := Lib.hid (set3_below (B := w.heap.size + 1) (x := .slice q' h c') (y := .slice q2 k d2) (z := .slice pc nc cc) (show Below w.heap.size w (v7.setCell ⟨w.heap.size, 1, none⟩ (.slice q2 k d2)) from HB7.out.setCell (Nat.le_refl _) _) (Nat.le_succ _))
    clear HR7 HR8
    go_wp2
    exact bodyPost_ret (v := .agg #[.slice q' h c', .slice q2 k d2, .slice pc nc cc]) (by simp [results, Try.results42, go_sem, y0, y1, y2]) rfl ⟨⟨q', h, c', q2, k, d2, pc, nc, cc, rfl, HR9.out⟩, HB9.out⟩
end Go.Proofs.Ytjnpmfkkagchjaa
