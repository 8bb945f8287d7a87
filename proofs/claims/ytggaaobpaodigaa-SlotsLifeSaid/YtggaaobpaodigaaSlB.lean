/- Contract of package slots: partsOf. -/
import Derived.Test.YtggaaobpaodigaaSlK
import Derived.Maps.AppendAt
import Derived.Deep.DeepCutAuto
set_option linter.unusedVariables false
set_option linter.unusedSimpArgs false
namespace Go.Proofs.Ytggaaobpaodigaa
open Go.RowKit

theorem gs_take {t : List En} {k : Nat} {e : En} (h : t[k]? = some e) : gs (t.take (k + 1)) = gs (t.take k) ++ [e.gn] := by
  rw [take_snoc' h]; simp [gs]
theorem tf_takes {t : List En} {k : Nat} {e : En} (h : t[k]? = some e) : tf (t.take (k + 1)) = upd (tf (t.take k)) k (rfO e) := by
  funext j; rw [tf_take h]; rfl
theorem tf_dead {t : List En} {k : Nat} {e : En} (h : t[k]? = some e) (hl : e.lv = false) : tf (t.take (k + 1)) = tf (t.take k) := by
  rw [tf_takes h]
  funext j
  by_cases e1 : j = k
  · subst e1
    rw [upd_same, tf_none (by rw [List.length_take]; omega)]
    unfold rfO; rw [hl]; rfl
  · rw [upd_other _ _ e1]
/-- Every reference is a word. -/
def WfT (t : List En) : Prop := ∀ (k : Nat) (e : En), t[k]? = some e → (Lit.int .u64 e.rf).wf = true

set_option maxRecDepth 100000 in
set_option maxHeartbeats 3200000 in
theorem partsOf_any (p : Option Addr) (n cap : Nat) (t : List En) (w : World) (hr : VRow w 3 p n cap (t.flatMap enC)) (hok : okT t = true) (hwf : WfT t) :
    Calls Try.prog 10 #[.agg #[.slice p n cap]] w fun e w' => RetPa w.heap.size 64 (gs t) (tf t) e w' ∧ Below w.heap.size w w' := by
  have hl := hr.i63.2
  have hn : n ≤ 64 := by have := hr.lenT; have := (okT_iff.1 hok).1; omega
  have Hr := Lib.hid (fun w' (h : Below w.heap.size w w') => hr.keep h)
  have Hlen := Lib.hid hr.lenT
  have Hwf := Lib.hid hwf
  have hmm := run_makeHint
  obtain ⟨i1, hin1, hy0, hy1, hy2⟩ := info_parts infoInt
  clear hr hok hwf
  go_enter Try.func10, Try.ntmps10
  go_upto_region 3 with fail
  obtain ⟨w1, hw1⟩ : ∃ w1, ((((w.alloc (.cells #[.slice p n cap] 25)).alloc (.cells #[.slice none 0 0, .map none] 47)).alloc (.map #[] 0)).alloc (.cells #[.slice none 0 0, .map (some (w.heap.size + 1 + 1))] 47)) = w1 := ⟨_, rfl⟩
  have HR1 := Lib.hid (show OwnL w1 (w.heap.size + 1) [.slice none 0 0, .map none] from by
    rw [← hw1]
    have h := OwnL.new (w.alloc (.cells #[.slice p n cap] 25)) [.slice none 0 0, .map none] 47
    simp only [World.size_alloc] at h
    exact (h.keep below_box (by simp)).keep below_box (by simp))
  have HM1 := Lib.hid (show MR w1 (w.heap.size + 1 + 1) 0 (fun _ => none) from by
    rw [← hw1]
    have h := MR.made ((w.alloc (.cells #[.slice p n cap] 25)).alloc (.cells #[.slice none 0 0, .map none] 47))
    simp only [World.size_alloc] at h
    exact h.keep below_box)
  have HX1 := Lib.hid (show OwnL w1 (w.heap.size + 1 + 1 + 1) [.slice none 0 0, .map (some (w.heap.size + 1 + 1))] from by
    rw [← hw1]
    have h := OwnL.new (((w.alloc (.cells #[.slice p n cap] 25)).alloc (.cells #[.slice none 0 0, .map none] 47)).alloc (.map #[] 0)) [.slice none 0 0, .map (some (w.heap.size + 1 + 1))] 47
    simp only [World.size_alloc] at h
    exact h)
  have HB1 := Lib.hid (show Below w.heap.size w w1 from by rw [← hw1]; exact bthen (bthen (bthen below_box below_box) below_box) below_box)
  have hs1 : w.heap.size + 4 ≤ w1.heap.size := by rw [← hw1]; simp
  rw [hw1]
  clear hw1 hmm
  obtain ⟨S1, hS1⟩ : ∃ S1, w.heap.size + 1 = S1 := ⟨_, rfl⟩
  obtain ⟨S2, hS2⟩ : ∃ S2, S1 + 1 = S2 := ⟨_, rfl⟩
  obtain ⟨S3, hS3⟩ : ∃ S3, S2 + 1 = S3 := ⟨_, rfl⟩
  rw [hS1] at HR1 HM1 HX1 ⊢
  rw [hS2] at HM1 HX1 ⊢
  rw [hS3] at HX1 ⊢
  have h12 : w.heap.size < S1 ∧ S1 < S2 ∧ S2 < S3 ∧ S3 < w1.heap.size := by omega
  obtain ⟨h1a, h1b, h1c, h1d⟩ := h12
  clear hS1 hS2 hS3 hs1
  go_loopw [14] (fun i wr => ∃ (k : Nat) (pg : Option Addr) (cg : Nat), k ≤ n ∧ i = .int .i64 k ∧ OwnL wr S1 [.slice none 0 0, .map none] ∧ OwnL wr S3 [.slice pg k cg, .map (some S2)] ∧ wr.ownsRow w1.heap.size 3 1 (.slice pg k cg) k (ivals .i64 (gs (t.take k))) ∧ MR wr S2 k (tf (t.take k)) ∧ Below w.heap.size w wr ∧ w1.heap.size ≤ wr.heap.size) (fun i _ => n - (intOf i).toNat)
  case atStart => exact ⟨0, none, 0, by omega, rfl, HR1.out, HX1.out, World.ownsRow_nil _ _ _ _, by have h := HM1.out; rw [List.take_zero]; exact h, HB1.out, Nat.le_refl _⟩
  case round =>
    obtain ⟨k, pg, cg, hk, rfl, hR, hX, hG, hM, hb, hws⟩ := hrel
    have HR := Lib.hid hR
    have HX := Lib.hid hX
    have HG := Lib.hid hG
    have HM := Lib.hid hM
    have HB := Lib.hid hb
    obtain ⟨x0, x1, u0, u1⟩ := own2S hX
    clear HR1 HM1 HX1 HB1 hR hX hG hM hb
    by_cases hlt : k < n
    · obtain ⟨e, b, off, hx, rfl, c0, c1, c2⟩ := entry_at (Hr.out _ HB.out) hlt
      have hlt2 : (k : Int) < n := by omega
      have hb1 : b < wr.heap.size := cell_lt c0
      have HGt := Lib.hid (gs_take hx)
      have HFt := Lib.hid (tf_takes hx)
      have HFd := Lib.hid (tf_dead hx)
      have HWf := Lib.hid (Hwf.out k e hx)
      clear hx
      obtain ⟨g, r, l⟩ := e
      simp only at c0 c1 c2
      go_upto_region 5 with fail
      obtain ⟨w2, hw2⟩ : ∃ w2, wr.alloc (.cells #[.int .i64 g, .int .u64 r, .bool l] 54) = w2 := ⟨_, rfl⟩
      have hb2 : Below wr.heap.size wr w2 := by rw [← hw2]; exact below_box
      have HE2 := Lib.hid (show OwnL w2 wr.heap.size [.int .i64 g, .int .u64 r, .bool l] from by rw [← hw2]; exact OwnL.new wr _ _)
      rw [hw2]
      clear hw2
      have HR2 := Lib.hid (HR.out.keep hb2 (by omega))
      have HX2 := Lib.hid (HX.out.keep hb2 (by omega))
      have HG2 := Lib.hid (own_below HG.out hb2)
      have HM2 := Lib.hid (HM.out.keep hb2)
      have HB2 := Lib.hid (bthen HB.out hb2)
      have hs2 := hb2.size
      obtain ⟨E, hE⟩ : ∃ E, wr.heap.size = E := ⟨_, rfl⟩
      rw [hE] at HE2 hs2 hws ⊢
      have hEl : E < w2.heap.size := boxLt HE2.out
      have hgE : ∀ x, (Value.slice pg k cg).ownBlock = some x → w1.heap.size ≤ x ∧ x < E := fun x hx => by rw [← hE]; exact HG.out.lt x hx
      clear x0 x1 u0 u1 c0 c1 c2 hb1 hb2 hE HR HX HG HM HB
      obtain ⟨x0, x1, u0, u1⟩ := own2S HX2.out
      obtain ⟨e0, e1, e2⟩ := own3S HE2.out
      go_wp2_with (at_builtin; refine wpList_append_own_at _ rfl _ _ 44 rfl w1.heap.size 3 i1 _ 1 8 Try.underlying44 hin1 hy0 hy1 hy2 rfl (by decide) (.slice pg k cg) k (ivals .i64 (gs (t.take k))) rfl (HG2.out.alloc _) ⟨w2.heap.size, 0, none⟩ 1 1 [.int .i64 g] rfl rfl (World.news_of_block (cs := #[.int .i64 g]) (fr := (0, 0)) (heap_alloc_new w2 _)) ?m2 ?m3 ?m4 ?m5 ?_)
      case m2 => simp [Value.oneCell']
      case m3 => unfold maxLen; omega
      case m4 => omega
      case m5 => first | omega | (simp; omega)
      intro v' w3 hown hgrow _ hat
      obtain ⟨q4, c4, rfl⟩ := formS hown
      have hbb := below_box (w := w2) (o := .cells #[.int .i64 g] 3)
      have HR3 := Lib.hid (boxG (HR2.out.keep hbb (by omega)) hgrow (by simp; omega) (fun e => by have := (hgE _ e.symm).1; omega))
      have HX3 := Lib.hid (boxG (HX2.out.keep hbb (by omega)) hgrow (by simp; omega) (fun e => by have := (hgE _ e.symm).1; omega))
      have HE3 := Lib.hid (boxG (HE2.out.keep hbb (by omega)) hgrow (by simp; omega) (fun e => by have := (hgE _ e.symm).2; omega))
      have HM3 := Lib.hid ((HM2.out.keep hbb).grown hgrow (fun e => by have := (hgE _ e.symm).1; omega))
      have HB3 := Lib.hid (belowG (bthen HB2.out hbb) (HG2.out.alloc _) hgrow (by omega) (by simp; omega))
      have HG3 := Lib.hid (show w3.ownsRow w1.heap.size 3 1 (.slice q4 (k + 1) c4) (k + 1) (ivals .i64 (gs (t.take (k + 1)))) from by rw [HGt.out, ← ivals_snoc]; exact hown)
      have hs3 : w2.heap.size ≤ w3.heap.size := by have := hgrow.size; simp at this; omega
      clear hown hgrow hat hbb x0 x1 u0 u1 e0 e1 e2
      obtain ⟨x0, x1, u0, u1⟩ := own2S HX3.out
      obtain ⟨e0, e1, e2⟩ := own3S HE3.out
      go_upto_region 6 with fail
      obtain ⟨w4, hw⟩ : ∃ w4, w3.setCell ⟨S3, 0, none⟩ (.slice q4 (k + 1) c4) = w4 := ⟨_, rfl⟩
      have HR4 := Lib.hid (show OwnL w4 S1 [.slice none 0 0, .map none] from by rw [← hw]; exact HR3.out.other _ _ (by simp; omega))
      have HX4 := Lib.hid (show OwnL w4 S3 [.slice q4 (k + 1) c4, .map (some S2)] from by rw [← hw]; exact HX3.out.set 0 _ (by simp))
      have HE4 := Lib.hid (show OwnL w4 E [.int .i64 g, .int .u64 r, .bool l] from by rw [← hw]; exact HE3.out.other _ _ (by simp; omega))
      have HG4 := Lib.hid (show w4.ownsRow w1.heap.size 3 1 (.slice q4 (k + 1) c4) (k + 1) (ivals .i64 (gs (t.take (k + 1)))) from by rw [← hw]; exact cellS HG3.out _ _ (fun e => by have := (HG3.out.lt _ e).1; simp only at this; omega))
      have HM4 := Lib.hid (show MR w4 S2 k (tf (t.take k)) from by rw [← hw]; exact HM3.out.cell _ _ (by simp only; omega))
      have HB4 := Lib.hid (show Below w.heap.size w w4 from by rw [← hw]; exact HB3.out.setCell (by simp only; omega) _)
      have hs4 : w3.heap.size = w4.heap.size := by rw [← hw]; simp
      rw [hw]
      clear hw x0 x1 u0 u1 e0 e1 e2 HR2 HX2 HE2 HM2 HB2 HG2 HR3 HX3 HE3 HM3 HB3 HG3
      obtain ⟨x0, x1, u0, u1⟩ := own2S HX4.out
      obtain ⟨e0, e1, e2⟩ := own3S HE4.out
      cases l
      · go_wp2
        go_roundw
        case rel => exact ⟨k + 1, q4, c4, by omega, by go_num, HR4.out, HX4.out, HG4.out, by rw [HFd.out rfl]; exact HM4.out.mono (by omega), HB4.out, by omega⟩
        case measure => first | omega | (simp [intOf]; omega) | (simp [RowKit.intOf]; omega)
      · go_wp2_with (at_mapUpdate; refine wpList_put_mr rfl _ _ _ rfl rfl HM4.out (by omega) k (by omega) r HWf.out rfl rfl ?_)
        intro w5 hM5 hg5
        have hs5 := hg5.size
        have hne : some S2 ≠ (Value.slice q4 (k + 1) c4).ownBlock := HM4.out.row HG4.out
        go_wp2
        go_roundw
        case rel => exact ⟨k + 1, q4, c4, by omega, by go_num, boxG HR4.out hg5 (by omega) (by simp; omega), boxG HX4.out hg5 (by omega) (by simp; omega), grownS HG4.out hg5 (.inr (Ne.symm hne)), by rw [HFt.out]; exact hM5, belowM HB4.out hg5 (by omega) (by omega), by omega⟩
        case measure => first | omega | (simp [intOf]; omega) | (simp [RowKit.intOf]; omega)
    · obtain rfl : k = n := by omega
      have hT : t.take k = t := List.take_of_length_le (by have := Hlen.out; omega)
      rw [hT] at HG HM
      obtain ⟨y0, y1, v0, v1⟩ := own2S HR.out
      go_wp2
      exact bodyPost_ret (v := .agg #[.slice pg k cg, .map (some S2)]) (by simp [results, Try.results10, go_sem, y0, y1]) rfl ⟨⟨pg, k, cg, S2, rfl, ⟨lowerS (cellS (cellS HG.out _ _ (fun e => by have := (HG.out.lt _ e).1; simp only at this; omega)) _ _ (fun e => by have := (HG.out.lt _ e).1; simp only at this; omega)) (by omega), ((HM.out.cell _ _ (by simp only; omega)).cell _ _ (by simp only; omega)).mono hn, by omega⟩⟩, (HB.out.setCell (by simp only; omega) _).setCell (by simp only; omega) _⟩
end Go.Proofs.Ytggaaobpaodigaa
