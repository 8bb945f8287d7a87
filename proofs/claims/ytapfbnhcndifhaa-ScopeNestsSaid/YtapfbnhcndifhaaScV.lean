/- Contracts of package scope: closeFrom, Pop. -/
import Derived.Test.YtapfbnhcndifhaaScS
set_option linter.unusedVariables false
set_option linter.unusedSimpArgs false
namespace Go.Proofs.Ytapfbnhcndifhaa
open Go.RowKit

theorem VRow.head {α : Type} (f : α → List Value) (hf : ∀ x, (f x).length = 3) {w : World} {p : Option Addr} {n cap : Nat} {xs : List α} (h : VRow w 3 p n cap (xs.flatMap f)) {k : Nat} (hk : k ≤ n) : VRow w 3 p k cap ((xs.take k).flatMap f) := by
  have hl := h.len
  rw [flat_len f 3 hf] at hl
  refine ⟨by rw [flat_len f 3 hf, List.length_take]; omega, by have := h.le; omega, h.max, fun i v hv => ?_⟩
  rw [← flat_take f 3 hf, List.getElem?_take] at hv
  split at hv
  · exact h.row i v hv
  · cases hv
/-- A call returned local handles that read as l. -/
def RetO (l : Loc) (e : Ending) (w' : World) : Prop := ∃ pa na ca pb nb cb pc nc cc, e = .returned (.agg #[.slice pa na ca, .slice pb nb cb, .slice pc nc cc]) ∧ LRow w' pa na ca pb nb cb pc nc cc l

set_option maxRecDepth 100000 in
set_option maxHeartbeats 3200000 in
theorem closeFrom_any (pa : Option Addr) (na ca : Nat) (pb : Option Addr) (nb cb : Nat) (pc : Option Addr) (nc cc : Nat) (l : Loc) (k : Nat) (s : Sp) (w : World) (hr : LRow w pa na ca pb nb cb pc nc cc l) (ho : okB l = true) (hs : l.sc[k]? = some s) :
    Calls Try.prog 39 #[.agg #[.slice pa na ca, .slice pb nb cb, .slice pc nc cc], .int .i64 k] w fun e w' => RetO (cutL l k s) e w' ∧ Below w.heap.size w w' := by
  have Hl := Lib.hid hr.lens
  obtain ⟨h63a, h63b, h63c⟩ := hr.i63
  have g := good_iff.1 ho
  obtain ⟨h, hh⟩ : ∃ h : Nat, s.fr = h := ⟨s.fr.toNat, by have := fr_nonneg g.fr k s hs; omega⟩
  have hkn : k < nb := by have := (List.getElem?_eq_some_iff.1 hs).1; have := Hl.out.2.1; omega
  have hhn : h ≤ na := by have := (g.fr k s hs).2.2.1; have := Hl.out.1; omega
  have hca : na ≤ ca := hr.sl.le
  have hcb : nb ≤ cb := hr.sc.le
  obtain ⟨k1, k2, k3⟩ := lens_ok ho
  rw [Hl.out.1] at k1
  rw [Hl.out.2.1] at k2
  rw [Hl.out.2.2] at k3
  have HRc := Lib.hid (show LRow w pa h ca pb k cb pc nc cc (cutL l k s) from ⟨by unfold cutL; simp only; rw [hh, Int.toNat_natCast]; exact hr.sl.head slC slC_len hhn, hr.sc.head spC spC_len (by omega), hr.is⟩)
  have hsz : ∀ w' : World, Below w.heap.size w w' → VRow w' 3 pb nb cb (l.sc.flatMap spC) := fun w' h => (hr.keep h).sc
  have hkn2 : (k : Int) < nb := by omega
  have hhn2 : (h : Int) ≤ na := by omega
  have hr1 := hsz ((w.alloc (.cells #[.slice pa na ca, .slice pb nb cb, .slice pc nc cc] 28)).alloc (.cells #[.slice none 0 0, .slice none 0 0, .slice none 0 0] 28)) (bthen below_box below_box)
  obtain ⟨s', b, off, hx, rfl, c0, c1, c2⟩ := scope_at hr1 hkn
  obtain rfl : s = s' := by rw [hs] at hx; cases hx; rfl
  rw [hh] at c0
  have hbA : b < w.heap.size := by
    obtain ⟨_, b', off', _, hp', e0, _, _⟩ := scope_at hr.sc hkn
    cases hp'; exact cell_lt e0
  have hn1 : b ≠ w.heap.size := by omega
  have hn2 : b ≠ w.heap.size + 1 := by omega
  have how := Lib.hid (fun w h' => owned_any pa h ca (some ⟨b, off, none⟩) k cb pc nc cc (cutL l k s) w h' (by omega) (by omega) (by omega))
  clear hr hr1 hsz g ho hs hx hh c1 c2
  go_enter Try.func39, Try.ntmps39
  go_wp2
  go_region
  go_wp2_with fail
  obtain ⟨w1, hw1⟩ : ∃ w1, ((w.alloc (.cells #[.slice pa h ca, .slice (some ⟨b, off, none⟩) k cb, .slice pc nc cc] 28)).alloc (.cells #[.slice none 0 0, .slice none 0 0, .slice none 0 0] 28)).drew = w1 := ⟨_, rfl⟩
  have HY := Lib.hid (show OwnL w1 (w.heap.size + 1) [.slice none 0 0, .slice none 0 0, .slice none 0 0] from by
    rw [← hw1]
    have h1 := OwnL.new (w.alloc (.cells #[.slice pa h ca, .slice (some ⟨b, off, none⟩) k cb, .slice pc nc cc] 28)) [.slice none 0 0, .slice none 0 0, .slice none 0 0] 28
    simp only [World.size_alloc] at h1
    exact h1.keep (Below.drew (Below.refl _ _)) (by simp))
  have HB := Lib.hid (show Below w.heap.size w w1 from by rw [← hw1]; exact (bthen below_box below_box).drew)
  have hs1 : w1.heap.size = w.heap.size + 2 := by rw [← hw1]; simp
  rw [hw1]
  clear hw1 c0
  refine (how.out _ (HRc.out.keep HB.out)).mono ?_
  rintro e w3 ⟨⟨q1, c1, q2, c2, q3, c3, rfl, hO⟩, hb3⟩
  have HO := Lib.hid hO
  have HY3 := Lib.hid (HY.out.keep hb3 (by omega))
  have HB3 := Lib.hid (bthen HB.out hb3)
  obtain ⟨y0, y1, y2, z0, z1, z2⟩ := own6 HY3.out
  clear hO hb3
  go_wp2
  exact bodyPost_ret (v := .agg #[.slice q1 (cutL l k s).sl.length c1, .slice q2 (cutL l k s).sc.length c2, .slice q3 (cutL l k s).is.length c3]) (by simp [results, Try.results39, go_sem, y0, y1, y2]) rfl ⟨⟨q1, _, c1, q2, _, c2, q3, _, c3, rfl, (set3_loc HO.out (by omega)).row⟩, set3_below HB3.out (by omega)⟩

theorem last_zero {l : Loc} (h : l.sc.length = 0) : l.sc[l.sc.length - 1]? = none := List.getElem?_eq_none (by omega)
/-- What Pop answers. -/
def popE (l : Loc) : Int := if okB l = false then 1 else match l.sc[l.sc.length - 1]? with
  | none => 9
  | some s => if s.bs then 9 else 0
def popL (l : Loc) : Loc := if popE l = 0 then (match l.sc[l.sc.length - 1]? with
  | none => loc0
  | some s => cutL l (l.sc.length - 1) s) else loc0
theorem popE_some {l : Loc} {s : Sp} (h : okB l = true) (hs : l.sc[l.sc.length - 1]? = some s) : popE l = if s.bs then 9 else 0 := by
  unfold popE; rw [h, if_neg (by decide), hs]
theorem popE_none {l : Loc} (h : okB l = true) (hs : l.sc.length = 0) : popE l = 9 := by unfold popE; rw [h, if_neg (by decide), last_zero hs]
theorem popL_no {l : Loc} {e : Int} (h : popE l = e) (he : e ≠ 0) : popL l = loc0 := by unfold popL; rw [if_neg (by omega)]
theorem popL_yes {l : Loc} {s : Sp} (h : popE l = 0) (hs : l.sc[l.sc.length - 1]? = some s) : popL l = cutL l (l.sc.length - 1) s := by unfold popL; rw [if_pos h, hs]
end Go.Proofs.Ytapfbnhcndifhaa
