/- Contract of package scope: Pop. -/
import Derived.Test.YtapfbnhcndifhaaScV
import Derived.Test.YtapfbnhcndifhaaScO
set_option linter.unusedVariables false
set_option linter.unusedSimpArgs false
namespace Go.Proofs.Ytapfbnhcndifhaa
open Go.RowKit

set_option maxRecDepth 100000 in
set_option maxHeartbeats 3200000 in
theorem scPop_any (pa : Option Addr) (na ca : Nat) (pb : Option Addr) (nb cb : Nat) (pc : Option Addr) (nc cc : Nat) (l : Loc) (w : World) (hr : LRow w pa na ca pb nb cb pc nc cc l) :
    Calls Try.prog 12 #[.agg #[.slice pa na ca, .slice pb nb cb, .slice pc nc cc]] w fun e w' => RetL (popL l) (popE l) e w' ∧ Below w.heap.size w w' := by
  have Hl := Lib.hid hr.lens
  obtain ⟨h63a, h63b, h63c⟩ := hr.i63
  have Hr := Lib.hid (fun w' (h : Below w.heap.size w w') => hr.keep h)
  have hv := Lib.hid (fun w h => scValid_any pa na ca pb nb cb pc nc cc l w h)
  clear hr
  cases ho : okB l
  · have E : popE l = 1 := by unfold popE; rw [if_pos ho]
    rw [popL_no E (by decide), E]
    rw [ho] at hv
    clear E ho
    go_enter Try.func12, Try.ntmps12
    go_wp2_with (((go_at_call 35; refine (hv.out _ (Hr.out _ (bthen below_box below_box))).mono ?_); rintro e w2 ⟨rfl, hb2⟩; (obtain ⟨hX, hY, hB2, hs2⟩ := start2 hb2); have HX := Lib.hid hX; have HY := Lib.hid hY; have HB := Lib.hid hB2; (obtain ⟨x0, x1, x2⟩ := own3c hX); (obtain ⟨y0, y1, y2, z0, z1, z2⟩ := own6 hY); clear hX hY hB2 hb2))
    exact bodyPost_ret (v := .tuple #[.agg #[.slice none 0 0, .slice none 0 0, .slice none 0 0], .int .i64 1]) (by simp [results, Try.results12, go_sem, y0, y1, y2]) rfl ⟨RetL.zero _ _, ((HB.out.setCell (by simp) _).setCell (by simp) _).setCell (by simp) _⟩
  · rw [ho] at hv
    by_cases h0 : nb = 0
    · have E := popE_none ho (by have := Hl.out.2.1; omega)
      rw [popL_no E (by decide), E]
      obtain rfl : nb = 0 := h0
      clear E ho
      go_enter Try.func12, Try.ntmps12
      go_wp2_with (((go_at_call 35; refine (hv.out _ (Hr.out _ (bthen below_box below_box))).mono ?_); rintro e w2 ⟨rfl, hb2⟩; (obtain ⟨hX, hY, hB2, hs2⟩ := start2 hb2); have HX := Lib.hid hX; have HY := Lib.hid hY; have HB := Lib.hid hB2; (obtain ⟨x0, x1, x2⟩ := own3c hX); (obtain ⟨y0, y1, y2, z0, z1, z2⟩ := own6 hY); clear hX hY hB2 hb2))
      exact bodyPost_ret (v := .tuple #[.agg #[.slice none 0 0, .slice none 0 0, .slice none 0 0], .int .i64 9]) (by simp [results, Try.results12, go_sem, y0, y1, y2]) rfl ⟨RetL.zero _ _, ((HB.out.setCell (by simp) _).setCell (by simp) _).setCell (by simp) _⟩
    · obtain ⟨s, hs⟩ : ∃ s, l.sc[l.sc.length - 1]? = some s := ⟨_, List.getElem?_eq_getElem (by have := Hl.out.2.1; omega)⟩
      obtain ⟨k, hk⟩ : ∃ k : Nat, k = nb - 1 := ⟨_, rfl⟩
      have hk1 : (nb : Int) - 1 = (k : Int) := by omega
      have hk2 : k < nb := by omega
      have hk3 : (k : Int) < nb := by omega
      have HS := Lib.hid hs
      have hs' : l.sc[k]? = some s := by rw [hk, ← Hl.out.2.1]; exact hs
      have HSc := Lib.hid (fun w' h => scope_at (Hr.out w' h).sc hk2)
      obtain ⟨_, b, off, hx, rfl, -, -, -⟩ := scope_at (Hr.out w (Below.refl _ _)).sc hk2
      have HS2 := Lib.hid hs'
      have hcl := Lib.hid (fun w h => closeFrom_any pa na ca (some ⟨b, off, none⟩) nb cb pc nc cc l k s w h ho hs')
      cases hbs : s.bs
      · have E : popE l = 0 := by rw [popE_some ho hs, hbs]; rfl
        have EL : popL l = cutL l k s := by rw [popL_yes E hs, hk, Hl.out.2.1]
        rw [EL, E]
        clear E EL ho hs hs' hx hk h0
        go_enter Try.func12, Try.ntmps12
        go_wp2_with (first | ((go_at_call 35; refine (hv.out _ (Hr.out _ (bthen below_box below_box))).mono ?_); rintro e w2 ⟨rfl, hb2⟩; (obtain ⟨hX, hY, hB2, hs2⟩ := start2 hb2); have HX := Lib.hid hX; have HY := Lib.hid hY; have HB := Lib.hid hB2; (obtain ⟨x0, x1, x2⟩ := own3c hX); (obtain ⟨y0, y1, y2, z0, z1, z2⟩ := own6 hY); clear hX hY hB2 hb2; (obtain ⟨s', b', off', hx', hp', c0, c1, c2⟩ := HSc.out _ HB.out); (obtain rfl : s = s' := Option.some.inj (HS2.out.symm.trans hx')); cases hp'; clear hx'; rw [hbs] at c2) | ((go_at_call 39; refine (hcl.out _ (Hr.out _ HB.out)).mono ?_); rintro e w3 ⟨⟨ra, ka, ea, rb, kb, eb, rc, kc, ec, rfl, hrow⟩, hb3⟩; have hY3 := HY.out.keep hb3 (by omega); have HR3 := Lib.hid (hrow.set3 hY3 (.slice ra ka ea) (.slice rb kb eb) (.slice rc kc ec)); have HB3 := Lib.hid (set3_below (B := w.heap.size + 1) (x := .slice ra ka ea) (y := .slice rb kb eb) (z := .slice rc kc ec) (bthen HB.out hb3) (by omega)); clear y0 y1 y2 z0 z1 z2; (obtain ⟨v0, v1, v2, z0, z1, z2⟩ := own6 hY3); clear hrow hb3 hY3))
        exact bodyPost_ret (v := .tuple #[.agg #[.slice ra ka ea, .slice rb kb eb, .slice rc kc ec], .int .i64 0]) (by simp [results, Try.results12, go_sem, v0, v1, v2]) rfl ⟨⟨ra, ka, ea, rb, kb, eb, rc, kc, ec, rfl, HR3.out⟩, HB3.out⟩
      · have E : popE l = 9 := by rw [popE_some ho hs, hbs]; rfl
        rw [popL_no E (by decide), E]
        clear E ho hs hs' hx hcl hk h0
        go_enter Try.func12, Try.ntmps12
        go_wp2_with (((go_at_call 35; refine (hv.out _ (Hr.out _ (bthen below_box below_box))).mono ?_); rintro e w2 ⟨rfl, hb2⟩; (obtain ⟨hX, hY, hB2, hs2⟩ := start2 hb2); have HX := Lib.hid hX; have HY := Lib.hid hY; have HB := Lib.hid hB2; (obtain ⟨x0, x1, x2⟩ := own3c hX); (obtain ⟨y0, y1, y2, z0, z1, z2⟩ := own6 hY); clear hX hY hB2 hb2; (obtain ⟨s', b', off', hx', hp', c0, c1, c2⟩ := HSc.out _ HB.out); (obtain rfl : s = s' := Option.some.inj (HS2.out.symm.trans hx')); cases hp'; clear hx'; rw [hbs] at c2))
        exact bodyPost_ret (v := .tuple #[.agg #[.slice none 0 0, .slice none 0 0, .slice none 0 0], .int .i64 9]) (by simp [results, Try.results12, go_sem, y0, y1, y2]) rfl ⟨RetL.zero _ _, ((HB.out.setCell (by simp) _).setCell (by simp) _).setCell (by simp) _⟩
end Go.Proofs.Ytapfbnhcndifhaa
