/- Contracts of package slots: parts.table, parts.isLive, parts.next. -/
import Derived.Test.YtggaaobpaodigaaSlB
set_option linter.unusedVariables false
set_option linter.unusedSimpArgs false
namespace Go.Proofs.Ytggaaobpaodigaa
open Go.RowKit

theorem infoEn : (Try.prog.info? 54).map (fun i => (i.zero, i.size, i.bytes)) = some (some (.agg #[.int .i64 0, .int .u64 0, .bool false]), 3, 24) := by kernel_rfl
theorem enC_mk (g : Int) (r : Option Int) : enC (mkE g r) = [.int .i64 g, .int .u64 (r.getD 0), .bool r.isSome] := by
  cases r <;> rfl

set_option maxRecDepth 100000 in
set_option maxHeartbeats 3200000 in
theorem table_any (base : Nat) (pg : Option Addr) (ng cg B N : Nat) (g : List Int) (f : Nat → Option Int) (w : World) (hp : PO w base pg ng cg B N g f) (hn : ng ≤ 100) :
    Calls Try.prog 12 #[.agg #[.slice pg ng cg, .map (some B)]] w fun e w' => (∃ p c, e = .returned (.agg #[.slice p ng c]) ∧ FT w.heap.size w' p ng c (tabOf g f)) ∧ Below w.heap.size w w' := by
  have HP := Lib.hid (fun w' (h : Below w.heap.size w w') => hp.keep h)
  have Hlen := Lib.hid hp.len
  obtain ⟨i1, hin1, hy0, hy1, hy2⟩ := info_parts infoEn
  clear hp
  go_enter Try.func12, Try.ntmps12
  go_upto_region 3 with fail
  obtain ⟨w1, hw1⟩ : ∃ w1, ((w.alloc (.cells #[.slice pg ng cg, .map (some B)] 47)).alloc (.cells #[.slice none 0 0] 25)).alloc (.cells #[.slice none 0 0] 25) = w1 := ⟨_, rfl⟩
  have HA1 := Lib.hid (show OwnL w1 w.heap.size [.slice pg ng cg, .map (some B)] from by
    rw [← hw1]
    exact ((OwnL.new w [.slice pg ng cg, .map (some B)] 47).keep below_box (by simp)).keep below_box (by simp; omega))
  have HR1 := Lib.hid (show OwnL w1 (w.heap.size + 1) [.slice none 0 0] from by
    rw [← hw1]
    have h := OwnL.new (w.alloc (.cells #[.slice pg ng cg, .map (some B)] 47)) [.slice none 0 0] 25
    simp only [World.size_alloc] at h
    exact h.keep below_box (by simp))
  have HX1 := Lib.hid (show OwnL w1 (w.heap.size + 1 + 1) [.slice none 0 0] from by
    rw [← hw1]
    have h := OwnL.new ((w.alloc (.cells #[.slice pg ng cg, .map (some B)] 47)).alloc (.cells #[.slice none 0 0] 25)) [.slice none 0 0] 25
    simp only [World.size_alloc] at h
    exact h)
  have HB1 := Lib.hid (show Below w.heap.size w w1 from by rw [← hw1]; exact bthen (bthen below_box below_box) below_box)
  have hs1 : w.heap.size + 3 ≤ w1.heap.size := by rw [← hw1]; simp
  rw [hw1]
  clear hw1
  obtain ⟨S1, hS1⟩ : ∃ S1, w.heap.size + 1 = S1 := ⟨_, rfl⟩
  obtain ⟨S2, hS2⟩ : ∃ S2, S1 + 1 = S2 := ⟨_, rfl⟩
  rw [hS1] at HR1 HX1 ⊢
  rw [hS2] at HX1 ⊢
  have h12 : w.heap.size < S1 ∧ S1 < S2 ∧ S2 < w1.heap.size := by omega
  obtain ⟨h1a, h1b, h1c⟩ := h12
  clear hS1 hS2 hs1
  go_loopw [11] (fun i wr => ∃ (k : Nat) (p : Option Addr) (c : Nat), k ≤ ng ∧ i = .int .i64 k ∧ OwnL wr w.heap.size [.slice pg ng cg, .map (some B)] ∧ OwnL wr S1 [.slice none 0 0] ∧ OwnL wr S2 [.slice p k c] ∧ wr.ownsRow w1.heap.size 54 3 (.slice p k c) k ((tabOf (g.take k) f).flatMap enC) ∧ Below w.heap.size w wr ∧ w1.heap.size ≤ wr.heap.size) (fun i _ => ng - (intOf i).toNat)
  case atStart => exact ⟨0, none, 0, by omega, rfl, HA1.out, HR1.out, HX1.out, World.ownsRow_nil _ _ _ _, HB1.out, Nat.le_refl _⟩
  case round =>
    obtain ⟨k, p, c, hk, rfl, hA, hR, hX, hT, hb, hws⟩ := hrel
    have HA := Lib.hid hA
    have HR := Lib.hid hR
    have HX := Lib.hid hX
    have HT := Lib.hid hT
    have HB := Lib.hid hb
    have HPr := Lib.hid (HP.out _ hb)
    obtain ⟨a0, a1, -, -⟩ := own2S hA
    obtain ⟨x0, u0⟩ := own1S hX
    clear HA1 HR1 HX1 HB1 hR hX hA hT hb
    by_cases hlt : k < ng
    · obtain ⟨gk, b, off, hx, rfl, c0⟩ := (srowS HPr.out.G).at_ hlt
      have hlt2 : (k : Int) < ng := by omega
      have HTt := Lib.hid (tabOf_take f hx)
      clear hx
      obtain ⟨V, hV⟩ : ∃ V, Hid ((f k).getD 0 = V) := ⟨_, Lib.hid rfl⟩
      obtain ⟨L, hL⟩ : ∃ L, Hid ((f k).isSome = L) := ⟨_, Lib.hid rfl⟩
      have HE := Lib.hid (enC_mk gk (f k))
      rw [hV.out, hL.out] at HE
      go_upto_region 6 with (at_lookup; refine wpList_look_mr rfl _ _ rfl rfl HPr.out.M k (by omega) rfl ?_; rw [hV.out, hL.out])
      go_wp2_with (at_builtin; refine wpList_append_own_at _ rfl _ _ 23 rfl w1.heap.size 54 i1 _ 3 24 Try.underlying23 hin1 hy0 hy1 hy2 rfl (by decide) (.slice p k c) k ((tabOf (g.take k) f).flatMap enC) rfl (HT.out.alloc _) ⟨wr.heap.size, 0, none⟩ 1 1 [.int .i64 gk, .int .u64 V, .bool L] rfl rfl (World.news_of_block (cs := #[.int .i64 gk, .int .u64 V, .bool L]) (fr := (0, 0)) (heap_alloc_new wr _)) ?m2 ?m3 ?m4 ?m5 ?_)
      case m2 => simp [Value.oneCell']
      case m3 => unfold maxLen; omega
      case m4 => omega
      case m5 => first | omega | (simp; omega)
      intro v' w3 hown hgrow _ hat
      obtain ⟨q4, c4, rfl⟩ := formS hown
      have hbb := below_box (w := wr) (o := .cells #[.int .i64 gk, .int .u64 V, .bool L] 54)
      have hgE : ∀ x, (Value.slice p k c).ownBlock = some x → w1.heap.size ≤ x := fun x hx => (HT.out.lt x hx).1
      have HA3 := Lib.hid (boxG (HA.out.keep hbb (by omega)) hgrow (by simp; omega) (fun e => by have := hgE _ e.symm; omega))
      have HR3 := Lib.hid (boxG (HR.out.keep hbb (by omega)) hgrow (by simp; omega) (fun e => by have := hgE _ e.symm; omega))
      have HX3 := Lib.hid (boxG (HX.out.keep hbb (by omega)) hgrow (by simp; omega) (fun e => by have := hgE _ e.symm; omega))
      have HB3 := Lib.hid (belowG (bthen HB.out hbb) (HT.out.alloc _) hgrow (by omega) (by simp; omega))
      have HT3 := Lib.hid (show w3.ownsRow w1.heap.size 54 3 (.slice q4 (k + 1) c4) (k + 1) ((tabOf (g.take (k + 1)) f).flatMap enC) from by rw [HTt.out, ← flat_snoc, HE.out]; exact hown)
      have hs3 : wr.heap.size ≤ w3.heap.size := by have := hgrow.size; simp at this; omega
      clear hown hgrow hat hbb x0 u0 a0 a1 c0
      obtain ⟨x0, u0⟩ := own1S HX3.out
      go_wp2
      go_roundw
      case rel => exact ⟨k + 1, q4, c4, by omega, by go_num, HA3.out.other _ _ (by simp; omega), HR3.out.other _ _ (by simp; omega), HX3.out.set 0 _ (by simp), cellS HT3.out _ _ (fun e => by have := (HT3.out.lt _ e).1; simp only at this; omega), HB3.out.setCell (by simp only; omega) _, by simp; omega⟩
      case measure => first | omega | (simp [intOf]; omega) | (simp [RowKit.intOf]; omega)
    · obtain rfl : k = ng := by omega
      have hT : g.take k = g := List.take_of_length_le (by have := Hlen.out; omega)
      rw [hT] at HT
      obtain ⟨y0, v0⟩ := own1S HR.out
      go_wp2
      exact bodyPost_ret (v := .agg #[.slice p k c]) (by simp [results, Try.results12, go_sem, y0]) rfl ⟨⟨p, c, rfl, ((FT.own HT.out).cell _ _ (by simp only; omega)).mono (by omega)⟩, HB.out.setCell (by simp only; omega) _⟩

set_option maxRecDepth 100000 in
theorem isLive_any (base : Nat) (pg : Option Addr) (ng cg B N : Nat) (g : List Int) (f : Nat → Option Int) (i : Nat) (w : World) (hp : PO w base pg ng cg B N g f) (hi : i ≤ 1000) :
    Calls Try.prog 14 #[.agg #[.slice pg ng cg, .map (some B)], .int .i64 i] w fun e w' => e = .returned (.bool (f i).isSome) ∧ Below w.heap.size w w' := by
  have HM := Lib.hid (fun w' (h : Below w.heap.size w w') => (hp.keep h).M)
  obtain ⟨V, hV⟩ : ∃ V, Hid ((f i).getD 0 = V) := ⟨_, Lib.hid rfl⟩
  obtain ⟨L, hL⟩ : ∃ L, Hid ((f i).isSome = L) := ⟨_, Lib.hid rfl⟩
  rw [hL.out]
  clear hp
  go_enter Try.func14, Try.ntmps14
  go_wp2_with (at_lookup; refine wpList_look_mr rfl _ _ rfl rfl (HM.out _ below_box) i hi rfl ?_; rw [hV.out, hL.out])
  go_ret
  exact ⟨rfl, below_box⟩

set_option maxRecDepth 100000 in
set_option maxHeartbeats 1600000 in
theorem next_any15 (base : Nat) (pg : Option Addr) (ng cg B N : Nat) (t : List En) (w : World) (hp : PO w base pg ng cg B N (gs t) (tf t)) (hn : ng ≤ 100) :
    Calls Try.prog 11 #[.agg #[.slice pg ng cg, .map (some B)]] w fun e w' => e = .returned (.int .i64 (nextV t)) ∧ Below w.heap.size w w' := by
  have HP := Lib.hid (fun w' (h : Below w.heap.size w w') => hp.keep h)
  have Hlen := Lib.hid (show t.length = ng from by have := hp.len; rw [gs_len] at this; exact this)
  clear hp
  go_enter Try.func11, Try.ntmps11
  go_upto_region 2 with fail
  obtain ⟨w1, hw1⟩ : ∃ w1, w.alloc (.cells #[.slice pg ng cg, .map (some B)] 47) = w1 := ⟨_, rfl⟩
  have HX := Lib.hid (show OwnL w1 w.heap.size [.slice pg ng cg, .map (some B)] from by rw [← hw1]; exact OwnL.new w _ _)
  have HB := Lib.hid (show Below w.heap.size w w1 from by rw [← hw1]; exact below_box)
  rw [hw1]
  clear hw1
  have hwl : w.heap.size < w1.heap.size := boxLt HX.out
  go_loopw [8] (fun i wr => ∃ k : Nat, k ≤ ng ∧ (∀ (j : Nat) (e : En), j < k → t[j]? = some e → ¬ (e.lv = false ∧ e.gn < 4294967295)) ∧ i = .int .i64 k ∧ Below w1.heap.size w1 wr) (fun i _ => ng - (intOf i).toNat)
  case atStart => exact ⟨0, by omega, fun j e h => absurd h (Nat.not_lt_zero _), rfl, Below.refl _ _⟩
  case round =>
    obtain ⟨k, hk, hf, rfl, hb⟩ := hrel
    have Hf := Lib.hid hf
    have HBw := Lib.hid hb
    have HBr := Lib.hid (bthen HB.out hb)
    have HPr := Lib.hid (HP.out _ HBr.out)
    obtain ⟨x0, x1, -, -⟩ := own2S (HX.out.keep hb hwl)
    clear hf hb
    by_cases hlt : k < ng
    · obtain ⟨gk, b, off, hx, rfl, c0⟩ := (srowS HPr.out.G).at_ hlt
      have hlt2 : (k : Int) < ng := by omega
      rw [gs_get] at hx
      obtain ⟨e, he⟩ : ∃ e, t[k]? = some e := ⟨_, List.getElem?_eq_getElem (by have := Hlen.out; omega)⟩
      have He := Lib.hid he
      rw [he] at hx
      obtain rfl : e.gn = gk := Option.some.inj hx
      have hlv := Lib.hid (fun w' (h : Below wr.heap.size wr w') => isLive_any base (some ⟨b, off, none⟩) ng cg B N (gs t) (tf t) k w' (HPr.out.keep h) (by omega))
      rw [tf_some he, show (rfO e).isSome = e.lv from by unfold rfO; cases e.lv <;> rfl] at hlv
      clear hx he
      obtain ⟨g, r, l⟩ := e
      simp only at c0
      simp only at hlv
      cases l
      · by_cases hg : g < 4294967295
        · have H := Lib.hid (nextV_is t k Hf.out (by have := Hlen.out; omega) (.inr ⟨_, He.out, rfl, hg⟩))
          go_wp2_with (go_at_call 14; refine (hlv.out _ (Below.refl _ _)).mono ?_; rintro e w3 ⟨rfl, hb3⟩)
          go_ret
          exact ⟨by rw [H.out]; rfl, bthen HBr.out hb3⟩
        · have H := Lib.hid (show ∀ (j : Nat) (e : En), j < k + 1 → t[j]? = some e → ¬ (e.lv = false ∧ e.gn < 4294967295) from fun j e hj hy => by
            by_cases e1 : j = k
            · subst e1; rw [He.out] at hy; cases hy; exact fun h => hg h.2
            · exact Hf.out j e (by omega) hy)
          go_wp2_with (go_at_call 14; refine (hlv.out _ (Below.refl _ _)).mono ?_; rintro e w3 ⟨rfl, hb3⟩)
          go_roundw
          case rel => exact ⟨k + 1, by omega, H.out, by go_num, bthen HBw.out hb3⟩
          case measure => first | omega | (simp [intOf]; omega) | (simp [RowKit.intOf]; omega)
      · have H := Lib.hid (show ∀ (j : Nat) (e : En), j < k + 1 → t[j]? = some e → ¬ (e.lv = false ∧ e.gn < 4294967295) from fun j e hj hy => by
          by_cases e1 : j = k
          · subst e1; rw [He.out] at hy; cases hy; exact fun h => by cases h.1
          · exact Hf.out j e (by omega) hy)
        go_wp2_with (go_at_call 14; refine (hlv.out _ (Below.refl _ _)).mono ?_; rintro e w3 ⟨rfl, hb3⟩)
        go_roundw
        case rel => exact ⟨k + 1, by omega, H.out, by go_num, bthen HBw.out hb3⟩
        case measure => first | omega | (simp [intOf]; omega) | (simp [RowKit.intOf]; omega)
    · obtain rfl : k = ng := by omega
      have H := Lib.hid (nextV_is t k Hf.out (by have := Hlen.out; omega) (.inl Hlen.out))
      go_wp2
      go_ret
      exact ⟨by rw [H.out]; rfl, HBr.out⟩
end Go.Proofs.Ytggaaobpaodigaa
