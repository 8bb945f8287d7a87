/- Contracts of the reference of layer 15: Set, Delete. -/
import Derived.Test.YtapfbnhcndifhaaSlJ
set_option linter.unusedVariables false
set_option linter.unusedSimpArgs false
namespace Go.Proofs.Ytapfbnhcndifhaa
open Go.RowKit

set_option maxRecDepth 100000 in
set_option maxHeartbeats 1600000 in
theorem refSet15 (p : Option Addr) (n cap : Nat) (t : List En) (i q r : Int) (w : World) (hr : VRow w 3 p n cap (t.flatMap enC)) :
    Calls Try.prog 27 #[.agg #[.slice p n cap], .int .i64 i, .int .i64 q, .int .u64 r] w fun e w' => RetT w.heap.size (setT t i q r) (findE t i q) e w' ∧ Below w.heap.size w w' := by
  have Hr := Lib.hid (fun w' (h : Below w.heap.size w w') => hr.keep h)
  have hf := Lib.hid (fun w h => refGet15 p n cap t i q w h)
  have Hlen := Lib.hid hr.lenT
  obtain ⟨hX1, hY1, hB1, hs1⟩ := start15 (w := w) (p := p) (n := n) (c := cap) (T := 46) (T2 := 46) (vs := [.slice none 0 0])
  obtain ⟨V, hV⟩ : ∃ V, Hid (getT t i q = V) := ⟨_, Lib.hid rfl⟩
  rw [hV.out] at hf
  clear hr
  unfold setT
  by_cases h0 : findE t i q = 0
  · obtain ⟨j, e, rfl, hok, he, hq, -, hl⟩ := findE_zero h0
    have hj : j < n := by rw [← Hlen.out]; exact (List.getElem?_eq_some_iff.1 he).1
    have hn : n ≤ 64 := by rw [← Hlen.out]; exact (okT_iff.1 hok).1
    rw [if_pos h0, Int.toNat_natCast, h0]
    rw [h0] at hf
    have hput := Lib.hid (fun w h => put_any15 p n cap t j ⟨q, r, true⟩ w h hj (by omega))
    simp only at hput
    clear h0 he hl hok hq
    go_enter Try.func27, Try.ntmps27
    go_wp2_with fail
    refine (hf.out _ (Hr.out _ hB1)).mono ?_
    rintro e w2 ⟨rfl, hb2⟩
    have HX2 := Lib.hid (hX1.keep hb2 (by omega))
    have HY2 := Lib.hid (hY1.keep hb2 (by omega))
    have HB2 := Lib.hid (bthen hB1 hb2)
    have hs2 := hb2.size
    rw [← hs1] at hs2
    clear hX1 hY1 hB1 hs1 hb2
    obtain ⟨x0, -⟩ := own1S HX2.out
    go_wp2_with fail
    refine (hput.out _ (Hr.out _ HB2.out)).mono ?_
    rintro e w5 ⟨⟨p5, c5, rfl, hT5⟩, hb5⟩
    have HT5 := Lib.hid hT5
    have HY5 := Lib.hid (HY2.out.keep hb5 (by omega))
    have HB5 := Lib.hid (bthen HB2.out hb5)
    clear hT5 hb5 x0
    obtain ⟨y0, v0⟩ := own1S HY5.out
    go_wp2
    exact bodyPost_ret (v := .tuple #[.agg #[.slice p5 n c5], .int .i64 0]) (by simp [results, Try.results27, go_sem, y0]) rfl ⟨⟨p5, n, c5, rfl, (HT5.out.cell _ _ (by simp only; omega)).mono (by omega)⟩, HB5.out.setCell (by simp) _⟩
  · rw [if_neg h0]
    obtain ⟨F, hF⟩ : ∃ F, findE t i q = F := ⟨_, rfl⟩
    rw [hF] at hf h0 ⊢
    have hne : (F != 0) = true := bne_iff_ne.2 h0
    clear hF
    go_enter Try.func27, Try.ntmps27
    go_wp2_with fail
    refine (hf.out _ (Hr.out _ hB1)).mono ?_
    rintro e w2 ⟨rfl, hb2⟩
    have HY2 := Lib.hid (hY1.keep hb2 (by omega))
    have HB2 := Lib.hid (bthen hB1 hb2)
    clear hX1 hY1 hB1 hs1 hb2 h0
    obtain ⟨y0, v0⟩ := own1S HY2.out
    go_wp2
    exact bodyPost_ret (v := .tuple #[.agg #[.slice none 0 0], .int .i64 F]) (by simp [results, Try.results27, go_sem, y0]) rfl ⟨RetT.zero _ _ _, HB2.out.setCell (by simp) _⟩
set_option maxRecDepth 100000 in
set_option maxHeartbeats 1600000 in
theorem refDelete15 (p : Option Addr) (n cap : Nat) (t : List En) (i q : Int) (w : World) (hr : VRow w 3 p n cap (t.flatMap enC)) :
    Calls Try.prog 29 #[.agg #[.slice p n cap], .int .i64 i, .int .i64 q] w fun e w' => RetT w.heap.size (delT t i q) (findE t i q) e w' ∧ Below w.heap.size w w' := by
  have Hr := Lib.hid (fun w' (h : Below w.heap.size w w') => hr.keep h)
  have hf := Lib.hid (fun w h => refGet15 p n cap t i q w h)
  have Hlen := Lib.hid hr.lenT
  obtain ⟨hX1, hY1, hB1, hs1⟩ := start15 (w := w) (p := p) (n := n) (c := cap) (T := 46) (T2 := 46) (vs := [.slice none 0 0])
  obtain ⟨V, hV⟩ : ∃ V, Hid (getT t i q = V) := ⟨_, Lib.hid rfl⟩
  rw [hV.out] at hf
  clear hr
  unfold delT
  by_cases h0 : findE t i q = 0
  · obtain ⟨j, e, rfl, hok, he, hq, -, hl⟩ := findE_zero h0
    have hj : j < n := by rw [← Hlen.out]; exact (List.getElem?_eq_some_iff.1 he).1
    have hn : n ≤ 64 := by rw [← Hlen.out]; exact (okT_iff.1 hok).1
    rw [if_pos h0, Int.toNat_natCast, h0]
    rw [h0] at hf
    have hput := Lib.hid (fun w h => put_any15 p n cap t j ⟨q, 0, false⟩ w h hj (by omega))
    simp only at hput
    clear h0 he hl hok hq
    go_enter Try.func29, Try.ntmps29
    go_wp2_with fail
    refine (hf.out _ (Hr.out _ hB1)).mono ?_
    rintro e w2 ⟨rfl, hb2⟩
    have HX2 := Lib.hid (hX1.keep hb2 (by omega))
    have HY2 := Lib.hid (hY1.keep hb2 (by omega))
    have HB2 := Lib.hid (bthen hB1 hb2)
    have hs2 := hb2.size
    rw [← hs1] at hs2
    clear hX1 hY1 hB1 hs1 hb2
    obtain ⟨x0, -⟩ := own1S HX2.out
    go_wp2_with fail
    refine (hput.out _ (Hr.out _ HB2.out)).mono ?_
    rintro e w5 ⟨⟨p5, c5, rfl, hT5⟩, hb5⟩
    have HT5 := Lib.hid hT5
    have HY5 := Lib.hid (HY2.out.keep hb5 (by omega))
    have HB5 := Lib.hid (bthen HB2.out hb5)
    clear hT5 hb5 x0
    obtain ⟨y0, v0⟩ := own1S HY5.out
    go_wp2
    exact bodyPost_ret (v := .tuple #[.agg #[.slice p5 n c5], .int .i64 0]) (by simp [results, Try.results29, go_sem, y0]) rfl ⟨⟨p5, n, c5, rfl, (HT5.out.cell _ _ (by simp only; omega)).mono (by omega)⟩, HB5.out.setCell (by simp) _⟩
  · rw [if_neg h0]
    obtain ⟨F, hF⟩ : ∃ F, findE t i q = F := ⟨_, rfl⟩
    rw [hF] at hf h0 ⊢
    have hne : (F != 0) = true := bne_iff_ne.2 h0
    clear hF
    go_enter Try.func29, Try.ntmps29
    go_wp2_with fail
    refine (hf.out _ (Hr.out _ hB1)).mono ?_
    rintro e w2 ⟨rfl, hb2⟩
    have HY2 := Lib.hid (hY1.keep hb2 (by omega))
    have HB2 := Lib.hid (bthen hB1 hb2)
    clear hX1 hY1 hB1 hs1 hb2 h0
    obtain ⟨y0, v0⟩ := own1S HY2.out
    go_wp2
    exact bodyPost_ret (v := .tuple #[.agg #[.slice none 0 0], .int .i64 F]) (by simp [results, Try.results29, go_sem, y0]) rfl ⟨RetT.zero _ _ _, HB2.out.setCell (by simp) _⟩
end Go.Proofs.Ytapfbnhcndifhaa
