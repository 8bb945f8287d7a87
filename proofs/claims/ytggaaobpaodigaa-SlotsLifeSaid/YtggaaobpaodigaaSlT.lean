/- Layer 15: words stay words; light, awake; the law SlotsValid. -/
import Derived.Test.YtggaaobpaodigaaSlR
import Derived.Test.YtggaaobpaodigaaSame
set_option linter.unusedVariables false
set_option linter.unusedSimpArgs false
namespace Go.Proofs.Ytggaaobpaodigaa
open Go.RowKit

theorem wf_put {t : List En} {r : Int} (h : WfT t) (hr : (Lit.int .u64 r).wf = true) : WfT (putV t r) := by
  unfold putV
  cases he : t[nextV t]? with
  | some e =>
    intro k y hy
    simp only at hy
    rw [List.getElem?_set] at hy
    by_cases hk : nextV t = k
    · rw [if_pos hk] at hy
      split at hy
      · cases hy; exact hr
      · cases hy
    · rw [if_neg hk] at hy; exact h k y hy
  | none =>
    intro k y hy
    simp only at hy
    by_cases hk : k < t.length
    · rw [List.getElem?_append_left hk] at hy; exact h k y hy
    · rw [List.getElem?_append_right (by omega)] at hy
      cases hd : k - t.length with
      | zero => rw [hd] at hy; cases hy; exact hr
      | succ j => rw [hd] at hy; simp at hy
theorem wf_nil : WfT [] := fun k e h => by simp at h
theorem wf_new {t : List En} {r : Int} (h : WfT t) (hr : (Lit.int .u64 r).wf = true) : WfT (newT t r) := by
  unfold newT; split
  · exact wf_put h hr
  · exact wf_nil
theorem wf_sets {t : List En} (h : WfT t) (j : Nat) {x : En} (hr : (Lit.int .u64 x.rf).wf = true) : WfT (t.set j x) := by
  intro k y hy
  rw [List.getElem?_set] at hy
  by_cases hk : j = k
  · rw [if_pos hk] at hy
    split at hy
    · cases hy; exact hr
    · cases hy
  · rw [if_neg hk] at hy; exact h k y hy
theorem wf_set {t : List En} {i q r : Int} (h : WfT t) (hr : (Lit.int .u64 r).wf = true) : WfT (setT t i q r) := by
  unfold setT; split
  · exact wf_sets h _ hr
  · exact wf_nil
theorem wf_del {t : List En} {i q : Int} (h : WfT t) : WfT (delT t i q) := by
  unfold delT; split
  · exact wf_sets h _ (show (Lit.int .u64 0).wf = true by decide)
  · exact wf_nil
theorem VRow.setSl {w : World} {s : Nat} {p : Option Addr} {n c : Nat} {vs : List Value} (h : VRow w s p n c vs) (a : Addr) (x : Value) {q : Option Addr} {m d : Nat} (hc : w.cell? a = some (.slice q m d)) (hno : ∀ v ∈ vs, v ≠ .slice q m d) : VRow (w.setCell a x) s p n c vs :=
  ⟨h.len, h.le, h.max, fun i v hv => by
    obtain ⟨b, off, hp, hcell⟩ := h.row i v hv
    refine ⟨b, off, hp, ?_⟩
    have hne : (⟨b, off + i, none⟩ : Addr) ≠ a := fun e => by rw [e, hc] at hcell; exact hno v (List.mem_of_getElem? hv) (Option.some.inj hcell).symm
    rw [World.cell?_setCell_other _ _ _ _ (Ne.symm hne)]; exact hcell⟩
theorem enC_noS (t : List En) (p : Option Addr) (n c : Nat) : ∀ v ∈ t.flatMap enC, v ≠ .slice p n c := by
  intro v hv e
  obtain ⟨s, _, h⟩ := List.mem_flatMap.1 hv
  subst e; simp [enC] at h

set_option maxRecDepth 100000 in
set_option maxHeartbeats 1600000 in
theorem awake15 (w : World) : Calls Try.prog 8 #[] w fun e w' => e = .returned (.bool true) ∧ Below w.heap.size w w' := by
  have h1 := Lib.hid (fun w => slNew_any none 0 0 [] 5 w (VRow.nil _ _ _) wf_nil (by decide))
  rw [show newT [] 5 = [⟨1, 5, true⟩] by decide +kernel, show newN [] = 0 by decide +kernel, show newG [] = 1 by decide +kernel, show newE [] = 0 by decide +kernel] at h1
  have w1 : WfT [⟨1, 5, true⟩] := fun k e h => by
    cases k with
    | zero => cases h; decide
    | succ j => simp at h
  have w2 : WfT [⟨1, 0, false⟩] := fun k e h => by
    cases k with
    | zero => cases h; decide
    | succ j => simp at h
  have h2 := Lib.hid (fun p n c w h => slDelete_any p n c [⟨1, 5, true⟩] 0 1 w h w1)
  rw [show delT [⟨1, 5, true⟩] 0 1 = [⟨1, 0, false⟩] by decide +kernel, show findE [⟨1, 5, true⟩] 0 1 = 0 by decide +kernel] at h2
  have h3 := Lib.hid (fun p n c w h => slNew_any p n c [⟨1, 0, false⟩] 6 w h w2 (by decide))
  rw [show newT [⟨1, 0, false⟩] 6 = [⟨2, 6, true⟩] by decide +kernel, show newN [⟨1, 0, false⟩] = 0 by decide +kernel, show newG [⟨1, 0, false⟩] = 2 by decide +kernel, show newE [⟨1, 0, false⟩] = 0 by decide +kernel] at h3
  clear w1 w2
  go_enter Try.func8, Try.ntmps8
  go_wp2_with fail
  refine (h1.out _).mono ?_
  rintro e v2 ⟨⟨p, n, c, rfl, hT⟩, hb⟩
  go_upto_region 2 with fail
  obtain ⟨v3, hv⟩ : ∃ v3, v2.alloc (.cells #[.slice p n c] 25) = v3 := ⟨_, rfl⟩
  have hb3 : Below v2.heap.size v2 v3 := by rw [← hv]; exact below_box
  have HX := Lib.hid (show OwnL v3 v2.heap.size [.slice p n c] from by rw [← hv]; exact OwnL.new v2 _ _)
  rw [hv]
  have HR := Lib.hid (hT.r.keep hb3)
  have HB := Lib.hid (bthen hb hb3)
  have hs := hb.size
  obtain ⟨P, hP⟩ : ∃ P, v2.heap.size = P := ⟨_, rfl⟩
  rw [hP] at HX hs ⊢
  have hPl := boxLt HX.out
  clear hv hT hb hb3 hP
  obtain ⟨x0, f0⟩ := own1S HX.out
  go_wp2_with fail
  refine (h2.out p n c _ HR.out).mono ?_
  rintro e v4 ⟨⟨q, m, d, rfl, hT⟩, hb⟩
  have HX4 := Lib.hid (HX.out.keep hb hPl)
  have HB4 := Lib.hid (bthen HB.out hb)
  clear x0 f0
  obtain ⟨x0, f0⟩ := own1S HX4.out
  go_upto_region 3 with fail
  obtain ⟨v5, hv⟩ : ∃ v5, v4.setCell ⟨P, 0, none⟩ (.slice q m d) = v5 := ⟨_, rfl⟩
  have HX5 := Lib.hid (show OwnL v5 P [.slice q m d] from by rw [← hv]; exact HX4.out.set 0 _ (by simp))
  have HR5 := Lib.hid (show VRow v5 3 q m d ([⟨1, 0, false⟩].flatMap enC) from by rw [← hv]; exact hT.r.setSl _ _ x0 (enC_noS _ _ _ _))
  have HB5 := Lib.hid (show Below w.heap.size w v5 from by rw [← hv]; exact HB4.out.setCell (by simp only; omega) _)
  rw [hv]
  clear hv hT hb x0 f0
  obtain ⟨x0, f0⟩ := own1S HX5.out
  go_wp2_with fail
  refine (h3.out q m d _ HR5.out).mono ?_
  rintro e v6 ⟨⟨q2, m2, d2, rfl, -⟩, hb⟩
  go_wp2
  go_ret
  exact ⟨rfl, bthen (bthen HB5.out hb) below_box⟩

theorem heldB_keep {B : Nat} {a : Value} {w0 w w' : World} (h : w.cell? ⟨B, 0, none⟩ = some a ∧ Below w0.heap.size w0 w) (hb : Below w.heap.size w w') : w'.cell? ⟨B, 0, none⟩ = some a ∧ Below w0.heap.size w0 w' := ⟨cell_keep hb h.1, bthen h.2 hb⟩
/-- A call returned a list of words. -/
def RetW15 (xs : List Int) (e : Ending) (w' : World) : Prop := ∃ q m c, e = .returned (.slice q m c) ∧ SRow w' .u64 q m c xs
theorem sval15 {B : Nat} {a : Value} {w0 w : World} (p : Option Addr) (n c : Nat) (t : List En) {r : Bool} (h : w.cell? ⟨B, 0, none⟩ = some a ∧ Below w0.heap.size w0 w) (hr : VRow w0 3 p n c (t.flatMap enC)) (ho : okT t = r) :
    Calls Try.prog 9 #[.agg #[.slice p n c]] w fun e w' => e = .returned (.bool r) ∧ Below w.heap.size w w' := by
  subst ho; exact slValid_any p n c t w (hr.keep h.2)
end Go.Proofs.Ytggaaobpaodigaa
