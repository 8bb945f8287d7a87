/- Contracts of package scope: Enter, Push; the sanity check of layer 14. -/
import Derived.Test.YtapfbnhcndifhaaScN
set_option linter.unusedVariables false
set_option linter.unusedSimpArgs false
namespace Go.Proofs.Ytapfbnhcndifhaa
open Go.RowKit

theorem VRow.setS {w : World} {s : Nat} {p : Option Addr} {n c : Nat} {vs : List Value} (h : VRow w s p n c vs) (a : Addr) (x u : Value) (hc : w.cell? a = some u) (hu : ∀ v ∈ vs, v ≠ u) : VRow (w.setCell a x) s p n c vs := by
  refine ⟨h.len, h.le, h.max, fun i v hv => ?_⟩
  obtain ⟨b, off, hp, hcell⟩ := h.row i v hv
  refine ⟨b, off, hp, ?_⟩
  have hne : (⟨b, off + i, none⟩ : Addr) ≠ a := fun e => by rw [e, hc] at hcell; exact hu v (List.mem_of_getElem? hv) (Option.some.inj hcell).symm
  rw [World.cell?_setCell_other _ _ _ _ (Ne.symm hne)]; exact hcell
theorem slC_noS (sl : List Sl) (p : Option Addr) (n c : Nat) : ∀ v ∈ sl.flatMap slC, v ≠ .slice p n c := by
  intro v hv e
  obtain ⟨s, _, h⟩ := List.mem_flatMap.1 hv
  subst e; simp [slC] at h
theorem spC_noS (sl : List Sp) (p : Option Addr) (n c : Nat) : ∀ v ∈ sl.flatMap spC, v ≠ .slice p n c := by
  intro v hv e
  obtain ⟨s, _, h⟩ := List.mem_flatMap.1 hv
  subst e; simp [spC] at h
theorem LRow.setS {w : World} {pa pb pc : Option Addr} {na ca nb cb nc cc : Nat} {l : Loc} (h : LRow w pa na ca pb nb cb pc nc cc l) (a : Addr) (x : Value) {p : Option Addr} {n c : Nat} (hc : w.cell? a = some (.slice p n c)) : LRow (w.setCell a x) pa na ca pb nb cb pc nc cc l :=
  ⟨h.sl.setS a x _ hc (slC_noS _ _ _ _), h.sc.setS a x _ hc (spC_noS _ _ _ _), h.is.setOther a _ x hc (fun x e => by cases e)⟩
/-- Rows of handles beside a box of three slices that is written whole. -/
theorem LRow.set3 {w : World} {B : Nat} {pa pb pc : Option Addr} {na ca nb cb nc cc : Nat} {l : Loc} (h : LRow w pa na ca pb nb cb pc nc cc l) {p0 p1 p2 : Option Addr} {n0 n1 n2 c0 c1 c2 : Nat} (hB : OwnL w B [.slice p0 n0 c0, .slice p1 n1 c1, .slice p2 n2 c2]) (x y z : Value) : LRow (((w.setCell ⟨B, 0, none⟩ x).setCell ⟨B, 1, none⟩ y).setCell ⟨B, 2, none⟩ z) pa na ca pb nb cb pc nc cc l :=
  ((h.setS _ x (hB.cell 0 _ rfl)).setS _ y ((hB.set 0 x (by simp)).cell 1 _ rfl)).setS _ z (((hB.set 0 x (by simp)).set 1 y (by simp)).cell 2 _ rfl)

set_option maxRecDepth 100000 in
set_option maxHeartbeats 1600000 in
theorem enter_any (pa : Option Addr) (na ca : Nat) (pb : Option Addr) (nb cb : Nat) (pc : Option Addr) (nc cc : Nat) (l : Loc) (c : Int) (w : World) (hr : LRow w pa na ca pb nb cb pc nc cc l) :
    Calls Try.prog 32 #[.agg #[.slice pa na ca, .slice pb nb cb, .slice pc nc cc], .int .i64 c] w fun e w' => RetL (openL l c true) (openE l c true) e w' ∧ Below w.heap.size w w' := by
  have Hr := Lib.hid (fun w' (h : Below w.heap.size w w') => hr.keep h)
  have ho := Lib.hid (fun w h => open_any pa na ca pb nb cb pc nc cc l c true w h)
  clear hr
  obtain ⟨E, hE⟩ : ∃ E, openE l c true = E := ⟨_, rfl⟩
  obtain ⟨L, hL⟩ : ∃ L, openL l c true = L := ⟨_, rfl⟩
  rw [hE, hL] at ho ⊢
  clear hE hL
  go_enter Try.func32, Try.ntmps32
  go_wp2_with (((go_at_call 36; refine (ho.out _ (Hr.out _ (bthen below_box below_box))).mono ?_); rintro e w2 ⟨⟨qa, ma, da, qb, mb, db, qc, mc, dc, rfl, hrow⟩, hb2⟩; (obtain ⟨hX, hY, hB2, hs2⟩ := start2 hb2); have HB := Lib.hid hB2; have HR := Lib.hid (hrow.set3 hY (.slice qa ma da) (.slice qb mb db) (.slice qc mc dc)); (obtain ⟨y0, y1, y2, z0, z1, z2⟩ := own6 hY); clear hX hY hB2 hb2 hrow))
  exact bodyPost_ret (v := .tuple #[.agg #[.slice qa ma da, .slice qb mb db, .slice qc mc dc], .int .i64 E]) (by simp [results, Try.results32, go_sem, y0, y1, y2]) rfl ⟨⟨qa, ma, da, qb, mb, db, qc, mc, dc, rfl, HR.out⟩, set3_below HB.out (by omega)⟩
set_option maxRecDepth 100000 in
set_option maxHeartbeats 1600000 in
theorem push_any (pa : Option Addr) (na ca : Nat) (pb : Option Addr) (nb cb : Nat) (pc : Option Addr) (nc cc : Nat) (l : Loc) (c : Int) (w : World) (hr : LRow w pa na ca pb nb cb pc nc cc l) :
    Calls Try.prog 9 #[.agg #[.slice pa na ca, .slice pb nb cb, .slice pc nc cc], .int .i64 c] w fun e w' => RetL (openL l c false) (openE l c false) e w' ∧ Below w.heap.size w w' := by
  have Hr := Lib.hid (fun w' (h : Below w.heap.size w w') => hr.keep h)
  have ho := Lib.hid (fun w h => open_any pa na ca pb nb cb pc nc cc l c false w h)
  clear hr
  obtain ⟨E, hE⟩ : ∃ E, openE l c false = E := ⟨_, rfl⟩
  obtain ⟨L, hL⟩ : ∃ L, openL l c false = L := ⟨_, rfl⟩
  rw [hE, hL] at ho ⊢
  clear hE hL
  go_enter Try.func9, Try.ntmps9
  go_wp2_with (((go_at_call 36; refine (ho.out _ (Hr.out _ (bthen below_box below_box))).mono ?_); rintro e w2 ⟨⟨qa, ma, da, qb, mb, db, qc, mc, dc, rfl, hrow⟩, hb2⟩; (obtain ⟨hX, hY, hB2, hs2⟩ := start2 hb2); have HB := Lib.hid hB2; have HR := Lib.hid (hrow.set3 hY (.slice qa ma da) (.slice qb mb db) (.slice qc mc dc)); (obtain ⟨y0, y1, y2, z0, z1, z2⟩ := own6 hY); clear hX hY hB2 hb2 hrow))
  exact bodyPost_ret (v := .tuple #[.agg #[.slice qa ma da, .slice qb mb db, .slice qc mc dc], .int .i64 E]) (by simp [results, Try.results9, go_sem, y0, y1, y2]) rfl ⟨⟨qa, ma, da, qb, mb, db, qc, mc, dc, rfl, HR.out⟩, set3_below HB.out (by omega)⟩

set_option maxRecDepth 100000 in
set_option maxHeartbeats 1600000 in
/-- The sanity check. -/
theorem awake14 (w : World) : Calls Try.prog 10 #[] w fun e w' => e = .returned (.bool true) ∧ Below w.heap.size w w' := by
  have e1 : openE loc0 2 true = 0 := by decide +kernel
  have e2 : openL loc0 2 true = ⟨[], [⟨0, 2, true⟩], []⟩ := by decide +kernel
  have he := Lib.hid (fun w => enter_any none 0 0 none 0 0 none 0 0 loc0 2 w (row0 w))
  rw [e1, e2] at he
  clear e1 e2
  have n1 : roomV ⟨[], [⟨0, 2, true⟩], []⟩ 7 = 0 := by decide +kernel
  have n2 : newL ⟨[], [⟨0, 2, true⟩], []⟩ 7 = ⟨[⟨1, 7, true⟩], [⟨0, 2, true⟩], [0]⟩ := by decide +kernel
  have n3 : newI ⟨[], [⟨0, 2, true⟩], []⟩ 7 = 0 := by decide +kernel
  have n4 : newS ⟨[], [⟨0, 2, true⟩], []⟩ 7 = 1 := by decide +kernel
  have hn := Lib.hid (fun pa na ca pb nb cb pc nc cc w h => scNew_any pa na ca pb nb cb pc nc cc ⟨[], [⟨0, 2, true⟩], []⟩ 7 w h)
  rw [n1, n2, n3, n4] at hn
  clear n1 n2 n3 n4
  have g1 : findV ⟨[⟨1, 7, true⟩], [⟨0, 2, true⟩], [0]⟩ 0 1 = 0 := by decide +kernel
  have g2 : getV ⟨[⟨1, 7, true⟩], [⟨0, 2, true⟩], [0]⟩ 0 1 = 7 := by decide +kernel
  have hg := Lib.hid (fun pa na ca pb nb cb pc nc cc w h => scGet_any pa na ca pb nb cb pc nc cc ⟨[⟨1, 7, true⟩], [⟨0, 2, true⟩], [0]⟩ 0 1 w h)
  rw [g1, g2] at hg
  clear g1 g2
  go_enter Try.func10, Try.ntmps10
  go_wp2_with (first
    | ((go_at_call 32; refine (he.out _).mono ?_); rintro e w2 ⟨⟨qa, ma, da, qb, mb, db, qc, mc, dc, rfl, hrow⟩, hb2⟩; have HR := Lib.hid (hrow.keep (below_box (o := .cells #[.slice qa ma da, .slice qb mb db, .slice qc mc dc] 28))); have HB := Lib.hid (bthen hb2 (below_box (o := .cells #[.slice qa ma da, .slice qb mb db, .slice qc mc dc] 28))); have HX := Lib.hid (OwnL.new w2 [.slice qa ma da, .slice qb mb db, .slice qc mc dc] 28); have hs2 := hb2.size; clear hrow hb2)
    | ((go_at_call 11; refine (hn.out _ _ _ _ _ _ _ _ _ _ HR.out).mono ?_); rintro e w3 ⟨⟨ra, ka, ea, rb, kb, eb, rc, kc, ec, rfl, hrow⟩, hb3⟩; have hX := HX.out.keep hb3 (by simp); (obtain ⟨x0, x1, x2, z0, z1, z2⟩ := own6 hX); have HB3 := Lib.hid (set3_below (B := w2.heap.size) (x := .slice ra ka ea) (y := .slice rb kb eb) (z := .slice rc kc ec) (bthen HB.out hb3) hs2); have HR3 := Lib.hid (hrow.set3 hX (.slice ra ka ea) (.slice rb kb eb) (.slice rc kc ec)); clear hrow hb3 hX)
    | ((go_at_call 13; refine (hg.out _ _ _ _ _ _ _ _ _ _ HR3.out).mono ?_); rintro e w4 ⟨rfl, hb4⟩))
  go_ret
  exact ⟨rfl, bthen HB3.out hb4⟩
end Go.Proofs.Ytapfbnhcndifhaa
