/- Contract of package scope: owned. -/
import Derived.Test.YtapfbnhcndifhaaScG
set_option linter.unusedVariables false
namespace Go.Proofs.Ytapfbnhcndifhaa
open Go.RowKit

theorem own_lower {w : World} {B B' e s n : Nat} {v : Value} {xs : List Value} (h : w.ownsRow B e s v n xs) (hb : B' ≤ B) : w.ownsRow B' e s v n xs := by
  refine ⟨h.1, ?_⟩
  rcases h.2 with hn | ⟨g, cap, cur, he, hg, rest⟩
  · exact .inl hn
  · exact .inr ⟨g, cap, cur, he, by omega, rest⟩
set_option maxRecDepth 100000 in
set_option maxHeartbeats 1600000 in
theorem owned_any (pa : Option Addr) (na ca : Nat) (pb : Option Addr) (nb cb : Nat) (pc : Option Addr) (nc cc : Nat) (l : Loc) (w : World) (hr : LRow w pa na ca pb nb cb pc nc cc l) (hna : na ≤ 5000) (hnb : nb ≤ 5000) (hnc : nc ≤ 5000) :
    Calls Try.prog 38 #[.agg #[.slice pa na ca, .slice pb nb cb, .slice pc nc cc]] w fun e w' => RetOL w.heap.size l e w' ∧ Below w.heap.size w w' := by
  have Hl := Lib.hid hr.lens
  have Hr := Lib.hid (fun w' (h : Below w.heap.size w w') => hr.keep h)
  clear hr
  go_enter Try.func38, Try.ntmps38
  go_wp2_with fail
  obtain ⟨w1, hw1⟩ : ∃ w1, (w.alloc (.cells #[.slice pa na ca, .slice pb nb cb, .slice pc nc cc] 28)).alloc (.cells #[.slice none 0 0, .slice none 0 0, .slice none 0 0] 28) = w1 := ⟨_, rfl⟩
  have HX := Lib.hid (show OwnL w1 w.heap.size [.slice pa na ca, .slice pb nb cb, .slice pc nc cc] from by rw [← hw1]; exact (OwnL.new w _ _).keep below_box (by simp))
  have HY := Lib.hid (show OwnL w1 (w.heap.size + 1) [.slice none 0 0, .slice none 0 0, .slice none 0 0] from by
    rw [← hw1]
    have h := OwnL.new (w.alloc (.cells #[.slice pa na ca, .slice pb nb cb, .slice pc nc cc] 28)) [.slice none 0 0, .slice none 0 0, .slice none 0 0] 28
    simpa using h)
  have HB := Lib.hid (show Below w.heap.size w w1 from by rw [← hw1]; exact below_box.alloc (by simp) _)
  have hs1 : w.heap.size + 2 ≤ w1.heap.size := by rw [← hw1]; simp
  rw [hw1]
  clear hw1
  refine (clSl_any _ _ _ _ _ (Hr.out _ HB.out).sl (by omega)).mono ?_
  rintro e v1 ⟨⟨q1, c1, rfl, o1⟩, hb1⟩
  have HBv := Lib.hid (HB.out.trans (hb1.mono HB.out.size))
  have HXv := Lib.hid (HX.out.keep hb1 (by omega))
  have HYv := Lib.hid (HY.out.keep hb1 (by omega))
  have HO1v := Lib.hid o1
  have hsv : w1.heap.size ≤ v1.heap.size := hb1.size
  have hlt1 : ∀ g, (Value.slice q1 na c1).ownBlock = some g → w1.heap.size ≤ g ∧ g < v1.heap.size := o1.lt
  have HL1 := Lib.hid hlt1
  have x0 := HXv.out.cell 0 _ rfl
  have x1 := HXv.out.cell 1 _ rfl
  have x2 := HXv.out.cell 2 _ rfl
  have xz := HXv.out.free 0
  clear o1 hb1 hlt1 HB HX HY 
  go_wp2_with fail
  obtain ⟨w2, hw⟩ : ∃ w2, v1.setCell ⟨w.heap.size, 0, none⟩ (.slice q1 na c1) = w2 := ⟨_, rfl⟩
  have HX := Lib.hid (show OwnL w2 w.heap.size [.slice q1 na c1, .slice pb nb cb, .slice pc nc cc] from by rw [← hw]; exact HXv.out.set 0 _ (by simp))
  have HY := Lib.hid (show OwnL w2 (w.heap.size + 1) [.slice none 0 0, .slice none 0 0, .slice none 0 0] from by rw [← hw]; exact HYv.out.other _ _ (by simp))
  have HB := Lib.hid (show Below w.heap.size w w2 from by rw [← hw]; exact HBv.out.setCell (Nat.le_refl _) _)
  have hsw : v1.heap.size = w2.heap.size := by rw [← hw]; simp
  have HO1 := Lib.hid (show World.ownsRow w2 _ _ _ _ _ _ from by rw [← hw]; exact own_cell HO1v.out _ _ (fun e => by have := (HL1.out _ e).1; simp at this; omega))
  rw [hw]
  clear hw HXv HYv HBv x0 x1 x2 xz HO1v
  have hs2 : w.heap.size + 2 ≤ w2.heap.size := by omega
  refine (clSp_any _ _ _ _ _ (Hr.out _ HB.out).sc (by omega)).mono ?_
  rintro e v2 ⟨⟨q2, c2, rfl, o2⟩, hb2⟩
  have HBv := Lib.hid (HB.out.trans (hb2.mono HB.out.size))
  have HXv := Lib.hid (HX.out.keep hb2 (by omega))
  have HYv := Lib.hid (HY.out.keep hb2 (by omega))
  have HO1v := Lib.hid (own_below HO1.out hb2)
  have HO2v := Lib.hid o2
  have hsv : w2.heap.size ≤ v2.heap.size := hb2.size
  have hlt2 : ∀ g, (Value.slice q2 nb c2).ownBlock = some g → w2.heap.size ≤ g ∧ g < v2.heap.size := o2.lt
  have HL2 := Lib.hid hlt2
  have x0 := HXv.out.cell 0 _ rfl
  have x1 := HXv.out.cell 1 _ rfl
  have x2 := HXv.out.cell 2 _ rfl
  have xz := HXv.out.free 1
  clear o2 hb2 hlt2 HB HX HY HO1
  go_wp2_with fail
  obtain ⟨w3, hw⟩ : ∃ w3, v2.setCell ⟨w.heap.size, 1, none⟩ (.slice q2 nb c2) = w3 := ⟨_, rfl⟩
  have HX := Lib.hid (show OwnL w3 w.heap.size [.slice q1 na c1, .slice q2 nb c2, .slice pc nc cc] from by rw [← hw]; exact HXv.out.set 1 _ (by simp))
  have HY := Lib.hid (show OwnL w3 (w.heap.size + 1) [.slice none 0 0, .slice none 0 0, .slice none 0 0] from by rw [← hw]; exact HYv.out.other _ _ (by simp))
  have HB := Lib.hid (show Below w.heap.size w w3 from by rw [← hw]; exact HBv.out.setCell (Nat.le_refl _) _)
  have hsw : v2.heap.size = w3.heap.size := by rw [← hw]; simp
  have HO1 := Lib.hid (show World.ownsRow w3 _ _ _ _ _ _ from by rw [← hw]; exact own_cell HO1v.out _ _ (fun e => by have := (HL1.out _ e).1; simp at this; omega))
  have HO2 := Lib.hid (show World.ownsRow w3 _ _ _ _ _ _ from by rw [← hw]; exact own_cell HO2v.out _ _ (fun e => by have := (HL2.out _ e).1; simp at this; omega))
  rw [hw]
  clear hw HXv HYv HBv x0 x1 x2 xz HO1v HO2v
  have hs3 : w.heap.size + 2 ≤ w3.heap.size := by omega
  refine (clIs_any _ _ _ _ _ (Hr.out _ HB.out).is (by omega)).mono ?_
  rintro e v3 ⟨⟨q3, c3, rfl, o3⟩, hb3⟩
  have HBv := Lib.hid (HB.out.trans (hb3.mono HB.out.size))
  have HXv := Lib.hid (HX.out.keep hb3 (by omega))
  have HYv := Lib.hid (HY.out.keep hb3 (by omega))
  have HO1v := Lib.hid (own_below HO1.out hb3)
  have HO2v := Lib.hid (own_below HO2.out hb3)
  have HO3v := Lib.hid o3
  have hsv : w3.heap.size ≤ v3.heap.size := hb3.size
  have hlt3 : ∀ g, (Value.slice q3 nc c3).ownBlock = some g → w3.heap.size ≤ g ∧ g < v3.heap.size := o3.lt
  have HL3 := Lib.hid hlt3
  have x0 := HXv.out.cell 0 _ rfl
  have x1 := HXv.out.cell 1 _ rfl
  have x2 := HXv.out.cell 2 _ rfl
  have xz := HXv.out.free 2
  clear o3 hb3 hlt3 HB HX HY HO1 HO2
  have y0 := HYv.out.cell 0 _ rfl
  have y1 := HYv.out.cell 1 _ rfl
  have y2 := HYv.out.cell 2 _ rfl
  have yz := HYv.out.free
  have yz0 := yz 0
  have yz1 := yz 1
  have yz2 := yz 2
  clear yz
  go_wp2_with fail
  refine bodyPost_ret (v := .agg #[.slice q1 na c1, .slice q2 nb c2, .slice q3 nc c3]) (by simp [results, Try.results38, go_sem, y0, y1, y2]) rfl ?_
  obtain ⟨rfl, rfl, rfl⟩ := Hl.out
  have hA := own_cell HO1v.out ⟨w.heap.size, 2, none⟩ (.slice q3 l.is.length c3) (fun e => by have := (HL1.out _ e).1; simp at this; omega)
  have hB := own_cell HO2v.out ⟨w.heap.size, 2, none⟩ (.slice q3 l.is.length c3) (fun e => by have := (HL2.out _ e).1; simp at this; omega)
  have hC := own_cell HO3v.out ⟨w.heap.size, 2, none⟩ (.slice q3 l.is.length c3) (fun e => by have := (HL3.out _ e).1; simp at this; omega)
  have hO : OwnLoc (v3.setCell ⟨w.heap.size, 2, none⟩ (.slice q3 l.is.length c3)) w1.heap.size q1 l.sl.length c1 q2 l.sc.length c2 q3 l.is.length c3 l :=
    ⟨hA, own_lower hB (by omega), own_lower hC (by omega), fun g e e' => by have h1 := (HL1.out g e).2; have h2 := (HL2.out g e').1; omega,
      fun g e e' => by have h1 := (HL1.out g e).2; have h2 := (HL3.out g e').1; omega, fun g e e' => by have h1 := (HL2.out g e).2; have h2 := (HL3.out g e').1; omega⟩
  exact ⟨⟨q1, c1, q2, c2, q3, c3, rfl, (((hO.cell _ _ (by simp; omega)).cell _ _ (by simp; omega)).cell _ _ (by simp; omega)).mono (by omega)⟩, (((HBv.out.setCell (Nat.le_refl _) _).setCell (by simp) _).setCell (by simp) _).setCell (by simp) _⟩
end Go.Proofs.Ytapfbnhcndifhaa
