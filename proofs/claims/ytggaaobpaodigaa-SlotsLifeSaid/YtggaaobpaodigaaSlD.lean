/- Contracts of package slots: find, Get. -/
import Derived.Test.YtggaaobpaodigaaSlC
set_option linter.unusedVariables false
set_option linter.unusedSimpArgs false
namespace Go.Proofs.Ytggaaobpaodigaa
open Go.RowKit

/-- What find answers. -/
def RetFd (base : Nat) (t : List En) (er : Int) (e : Ending) (w' : World) : Prop :=
  (er = 0 ∧ ∃ pg ng cg B, e = .returned (.tuple #[.agg #[.slice pg ng cg, .map (some B)], .int .i64 0]) ∧ PO w' base pg ng cg B 64 (gs t) (tf t)) ∨ (er ≠ 0 ∧ e = .returned (.tuple #[.agg #[.slice none 0 0, .map none], .int .i64 er]))
theorem RetFd.no {base : Nat} {t : List En} {er : Int} {w : World} (h : er ≠ 0) : RetFd base t er (.returned (.tuple #[.agg #[.slice none 0 0, .map none], .int .i64 er])) w := .inr ⟨h, rfl⟩
theorem start15 {w : World} {p : Option Addr} {n c : Nat} {T T2 : TypeId} {vs : List Value} :
    OwnL ((w.alloc (.cells #[.slice p n c] T)).alloc (.cells vs.toArray T2)) w.heap.size [.slice p n c] ∧ OwnL ((w.alloc (.cells #[.slice p n c] T)).alloc (.cells vs.toArray T2)) (w.heap.size + 1) vs ∧
    Below w.heap.size w ((w.alloc (.cells #[.slice p n c] T)).alloc (.cells vs.toArray T2)) ∧ w.heap.size + 2 = ((w.alloc (.cells #[.slice p n c] T)).alloc (.cells vs.toArray T2)).heap.size := by
  have h1 := OwnL.new (w.alloc (.cells #[.slice p n c] T)) vs T2
  simp only [World.size_alloc] at h1
  exact ⟨(OwnL.new w [.slice p n c] T).keep below_box (by simp), h1, bthen below_box below_box, by simp⟩

set_option maxRecDepth 100000 in
set_option maxHeartbeats 3200000 in
theorem find_any15 (p : Option Addr) (n cap : Nat) (t : List En) (i q : Int) (w : World) (hr : VRow w 3 p n cap (t.flatMap enC)) (hwf : WfT t) :
    Calls Try.prog 13 #[.agg #[.slice p n cap], .int .i64 i, .int .i64 q] w fun e w' => RetFd w.heap.size t (findE t i q) e w' ∧ Below w.heap.size w w' := by
  have Hr := Lib.hid (fun w' (h : Below w.heap.size w w') => hr.keep h)
  have hv := Lib.hid (fun w h => slValid_any p n cap t w h)
  have Hlen := Lib.hid hr.lenT
  have hp63 := hr.i63.2
  obtain ⟨hX1, hY1, hB1, hs1⟩ := start15 (w := w) (p := p) (n := n) (c := cap) (T := 25) (T2 := 47) (vs := [.slice none 0 0, .map none])
  have Hwf := Lib.hid hwf
  clear hr hwf
  cases ho : okT t
  · have HF := Lib.hid (findE_a (i := i) (g := q) ho)
    rw [ho] at hv
    rw [HF.out]
    go_enter Try.func13, Try.ntmps13
    go_wp2_with fail
    refine (hv.out _ (Hr.out _ hB1)).mono ?_
    rintro e w2 ⟨rfl, hb2⟩
    have HY2 := Lib.hid (hY1.keep hb2 (by omega))
    have HB2 := Lib.hid (bthen hB1 hb2)
    clear hX1 hY1 hB1 hs1 hb2
    obtain ⟨y0, y1, v0, v1⟩ := own2S HY2.out
    go_wp2
    exact bodyPost_ret (v := .tuple #[.agg #[.slice none 0 0, .map none], .int .i64 1]) (by simp [results, Try.results13, go_sem, y0, y1]) rfl ⟨RetFd.no (by decide), (HB2.out.setCell (by simp) _).setCell (by simp) _⟩
  · have Ho := Lib.hid ho
    have hn := (okT_iff.1 ho).1
    rw [Hlen.out] at hn
    rw [ho] at hv
    have hpo := Lib.hid (fun w h => partsOf_any p n cap t w h ho Hwf.out)
    obtain ⟨F, hF⟩ : ∃ F, Hid (findE t i q = F) := ⟨_, Lib.hid rfl⟩
    rw [hF.out]
    clear ho
    go_enter Try.func13, Try.ntmps13
    go_wp2_with fail
    refine (hv.out _ (Hr.out _ hB1)).mono ?_
    rintro e w2 ⟨rfl, hb2⟩
    have HX2 := Lib.hid (hX1.keep hb2 (by omega))
    have HY2 := Lib.hid (hY1.keep hb2 (by omega))
    have HB2 := Lib.hid (bthen hB1 hb2)
    have hs2 := hb2.size
    rw [← hs1] at hs2
    clear hX1 hY1 hB1 hs1 hb2
    obtain ⟨x0, -⟩ := own1S HX2.out
    go_wp2_with fail
    refine (hpo.out _ (Hr.out _ HB2.out)).mono ?_
    rintro e w3 ⟨⟨pg, ng, cg, B, rfl, hpo3⟩, hb3⟩
    have hng : ng = n := by have h := hpo3.len; rw [gs_len, Hlen.out] at h; omega
    subst hng
    have HY3 := Lib.hid (HY2.out.keep hb3 (by omega))
    have HB3 := Lib.hid (bthen HB2.out hb3)
    have HP3 := Lib.hid hpo3
    have hs3 := hb3.size
    clear hpo3 hb3 x0 HX2 HY2 HB2 hpo
    go_upto_region 4 with fail
    obtain ⟨w4, hw4⟩ : ∃ w4, w3.alloc (.cells #[.slice pg ng cg, .map (some B)] 47) = w4 := ⟨_, rfl⟩
    have hb4 : Below w3.heap.size w3 w4 := by rw [← hw4]; exact below_box
    have HX4 := Lib.hid (show OwnL w4 w3.heap.size [.slice pg ng cg, .map (some B)] from by rw [← hw4]; exact OwnL.new w3 _ _)
    rw [hw4]
    have HY4 := Lib.hid (HY3.out.keep hb4 (by omega))
    have HB4 := Lib.hid (bthen HB3.out hb4)
    have HP4 := Lib.hid (HP3.out.keep hb4)
    obtain ⟨S, hS⟩ : ∃ S, w3.heap.size = S := ⟨_, rfl⟩
    rw [hS] at HX4 hs3 ⊢
    have hSl := boxLt HX4.out
    have hYl := boxLt HY4.out
    clear hw4 hb4 hS HY3 HB3 HP3
    obtain ⟨x0, x1, -, -⟩ := own2S HX4.out
    obtain ⟨y0, y1, v0, v1⟩ := own2S HY4.out
    by_cases hi : i < 0
    · obtain rfl : F = 6 := hF.out.symm.trans (findE_b Ho.out hi)
      go_wp2
      exact bodyPost_ret (v := .tuple #[.agg #[.slice none 0 0, .map none], .int .i64 6]) (by simp [results, Try.results13, go_sem, y0, y1]) rfl ⟨RetFd.no (by decide), (HB4.out.setCell (by simp) _).setCell (by simp) _⟩
    · obtain ⟨j, rfl⟩ : ∃ j : Nat, i = j := ⟨i.toNat, by omega⟩
      by_cases hj : j < ng
      · obtain ⟨gj, b, off, hx, rfl, c0⟩ := (srowS HP4.out.G).at_ hj
        have hj2 : (j : Int) < ng := by omega
        rw [gs_get] at hx
        obtain ⟨e, he⟩ : ∃ e, t[j]? = some e := ⟨_, List.getElem?_eq_getElem (by have := Hlen.out; omega)⟩
        have He := Lib.hid he
        rw [he] at hx
        obtain rfl : e.gn = gj := Option.some.inj hx
        have hlv := Lib.hid (fun w' (h : Below w4.heap.size w4 w') => isLive_any w2.heap.size (some ⟨b, off, none⟩) ng cg B 64 (gs t) (tf t) j w' (HP4.out.keep h) (by omega))
        rw [tf_some he, show (rfO e).isSome = e.lv from by unfold rfO; cases e.lv <;> rfl] at hlv
        have HFd := Lib.hid (hF.out.symm.trans (findE_d (g := q) Ho.out he))
        clear hx he
        obtain ⟨g, r, l⟩ := e
        simp only at c0
        simp only at hlv HFd
        by_cases hq : q < 1
        · obtain rfl : F = 6 := HFd.out.trans (if_pos (.inl hq))
          go_wp2
          exact bodyPost_ret (v := .tuple #[.agg #[.slice none 0 0, .map none], .int .i64 6]) (by simp [results, Try.results13, go_sem, y0, y1]) rfl ⟨RetFd.no (by decide), (HB4.out.setCell (by simp) _).setCell (by simp) _⟩
        · by_cases hqg : g < q
          · obtain rfl : F = 6 := HFd.out.trans (if_pos (.inr hqg))
            go_wp2
            exact bodyPost_ret (v := .tuple #[.agg #[.slice none 0 0, .map none], .int .i64 6]) (by simp [results, Try.results13, go_sem, y0, y1]) rfl ⟨RetFd.no (by decide), (HB4.out.setCell (by simp) _).setCell (by simp) _⟩
          · have HFe := Lib.hid (HFd.out.trans (if_neg (by omega)))
            by_cases hgq : q < g
            · obtain rfl : F = 8 := HFe.out.trans (if_pos (.inl hgq))
              go_wp2
              exact bodyPost_ret (v := .tuple #[.agg #[.slice none 0 0, .map none], .int .i64 8]) (by simp [results, Try.results13, go_sem, y0, y1]) rfl ⟨RetFd.no (by decide), (HB4.out.setCell (by simp) _).setCell (by simp) _⟩
            · cases l
              · obtain rfl : F = 8 := HFe.out.trans (if_pos (.inr rfl))
                go_wp2_with (go_at_call 14; refine (hlv.out _ (Below.refl _ _)).mono ?_; rintro e w5 ⟨rfl, hb5⟩; have HY5 := Lib.hid (HY4.out.keep hb5 hYl); have HB5 := Lib.hid (bthen HB4.out hb5); clear hb5 y0 y1 v0 v1; (obtain ⟨y0, y1, v0, v1⟩ := own2S HY5.out))
                exact bodyPost_ret (v := .tuple #[.agg #[.slice none 0 0, .map none], .int .i64 8]) (by simp [results, Try.results13, go_sem, y0, y1]) rfl ⟨RetFd.no (by decide), (HB5.out.setCell (by simp) _).setCell (by simp) _⟩
              · obtain rfl : F = 0 := HFe.out.trans (if_neg (by simp; omega))
                go_wp2_with (go_at_call 14; refine (hlv.out _ (Below.refl _ _)).mono ?_; rintro e w5 ⟨rfl, hb5⟩; have HY5 := Lib.hid (HY4.out.keep hb5 hYl); have HX5 := Lib.hid (HX4.out.keep hb5 hSl); have HP5 := Lib.hid (HP4.out.keep hb5); have HB5 := Lib.hid (bthen HB4.out hb5); clear hb5 y0 y1 v0 v1 x0 x1; (obtain ⟨y0, y1, v0, v1⟩ := own2S HY5.out); (obtain ⟨x0, x1, -, -⟩ := own2S HX5.out))
                exact bodyPost_ret (v := .tuple #[.agg #[.slice (some ⟨b, off, none⟩) ng cg, .map (some B)], .int .i64 0]) (by simp [results, Try.results13, go_sem, y0, y1]) rfl ⟨.inl ⟨rfl, _, ng, cg, B, rfl, ((HP5.out.cell _ _ (by simp only; omega)).cell _ _ (by simp only; omega)).lower (by omega)⟩, (HB5.out.setCell (by simp) _).setCell (by simp) _⟩
      · obtain rfl : F = 6 := hF.out.symm.trans (findE_c Ho.out (by have := Hlen.out; omega))
        have hj2 : (ng : Int) ≤ j := by omega
        go_wp2
        exact bodyPost_ret (v := .tuple #[.agg #[.slice none 0 0, .map none], .int .i64 6]) (by simp [results, Try.results13, go_sem, y0, y1]) rfl ⟨RetFd.no (by decide), (HB4.out.setCell (by simp) _).setCell (by simp) _⟩

set_option maxRecDepth 100000 in
set_option maxHeartbeats 1600000 in
theorem slGet_any (p : Option Addr) (n cap : Nat) (t : List En) (i q : Int) (w : World) (hr : VRow w 3 p n cap (t.flatMap enC)) (hwf : WfT t) :
    Calls Try.prog 7 #[.agg #[.slice p n cap], .int .i64 i, .int .i64 q] w fun e w' => e = .returned (.tuple #[.int .u64 (getT t i q), .int .i64 (findE t i q)]) ∧ Below w.heap.size w w' := by
  have Hr := Lib.hid (fun w' (h : Below w.heap.size w w') => hr.keep h)
  have hf := Lib.hid (fun w h => find_any15 p n cap t i q w h hwf)
  have hn63 := hr.i63.2
  clear hr hwf
  unfold getT
  by_cases h0 : findE t i q = 0
  · obtain ⟨j, e, rfl, hok, he, -, -, hl⟩ := findE_zero h0
    have hj : j < t.length := (List.getElem?_eq_some_iff.1 he).1
    have h64 := (okT_iff.1 hok).1
    rw [if_pos h0, h0, Int.toNat_natCast]
    rw [h0] at hf
    obtain ⟨V, hV⟩ : ∃ V, Hid ((tf t j).getD 0 = V) := ⟨_, Lib.hid rfl⟩
    rw [hV.out]
    have hj2 : j ≤ 1000 := by omega
    clear h0 he hl hj h64 hok
    go_enter Try.func7, Try.ntmps7
    go_wp2_with fail
    refine (hf.out _ (Hr.out _ below_box)).mono ?_
    rintro e w3 ⟨hret, hb3⟩
    rcases hret with ⟨-, pg, ng, cg, B, rfl, hpo⟩ | ⟨h, -⟩
    · have HM := (hpo.keep (below_box (o := .cells #[.slice pg ng cg, .map (some B)] 47))).M
      have HB := Lib.hid (bthen (bthen below_box hb3) (below_box (o := .cells #[.slice pg ng cg, .map (some B)] 47)))
      clear hpo hb3
      go_wp2_with (at_lookup; refine wpList_get_mr rfl _ _ rfl rfl HM j hj2 rfl ?_; rw [hV.out])
      exact bodyPost_ret (v := .tuple #[.int .u64 V, .int .i64 0]) (by simp [results, Try.results7, go_sem]) rfl ⟨rfl, HB.out⟩
    · exact absurd rfl h
  · rw [if_neg h0]
    obtain ⟨F, hF⟩ : ∃ F, findE t i q = F := ⟨_, rfl⟩
    rw [hF] at hf h0 ⊢
    have hne : (F != 0) = true := bne_iff_ne.2 h0
    clear hF
    go_enter Try.func7, Try.ntmps7
    go_wp2_with fail
    refine (hf.out _ (Hr.out _ below_box)).mono ?_
    rintro e w3 ⟨hret, hb3⟩
    rcases hret with ⟨h, -⟩ | ⟨-, rfl⟩
    · exact absurd h h0
    · have HB := Lib.hid (bthen (bthen below_box hb3) (below_box (o := .cells #[.slice none 0 0, .map none] 47)))
      clear hb3 h0
      go_wp2
      exact bodyPost_ret (v := .tuple #[.int .u64 0, .int .i64 F]) (by simp [results, Try.results7, go_sem]) rfl ⟨rfl, HB.out⟩
end Go.Proofs.Ytggaaobpaodigaa
