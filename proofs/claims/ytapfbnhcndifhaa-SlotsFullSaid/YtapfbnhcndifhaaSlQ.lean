/- Contracts of the reference of layer 15: Refs, Move. -/
import Derived.Test.YtapfbnhcndifhaaSlP
import Derived.Test.YtapfbnhcndifhaaSlH
set_option linter.unusedVariables false
set_option linter.unusedSimpArgs false
namespace Go.Proofs.Ytapfbnhcndifhaa
open Go.RowKit

set_option maxRecDepth 100000 in
set_option maxHeartbeats 1600000 in
theorem refRefs15 (p : Option Addr) (n cap : Nat) (t : List En) (w : World) (hr : VRow w 3 p n cap (t.flatMap enC)) :
    Calls Try.prog 20 #[.agg #[.slice p n cap]] w fun e w' => (∃ q m c, e = .returned (.slice q m c) ∧ SRow w' .u64 q m c (refsT t)) ∧ Below w.heap.size w w' := by
  have Hr := Lib.hid (fun w' (h : Below w.heap.size w w') => hr.keep h)
  have hv := Lib.hid (fun w h => refValid15 p n cap t w h)
  have hn63 := hr.i63.2
  have Hlen := Lib.hid hr.lenT
  obtain ⟨i1, hin1, hy0, hy1, hy2⟩ := info_parts infoU
  have hX1 := OwnL.new w [.slice p n cap] 46
  have hB1 := below_box (w := w) (o := .cells #[.slice p n cap] 46)
  clear hr
  unfold refsT
  cases ho : okT t
  · rw [if_neg (by decide)]
    rw [ho] at hv
    go_enter Try.func20, Try.ntmps20
    go_wp2
    obtain ⟨w1, hw1⟩ : ∃ w1, w.alloc (.cells #[.slice p n cap] 46) = w1 := ⟨_, rfl⟩
    rw [hw1] at hX1 hB1 ⊢
    have hwl := boxLt hX1
    have HX1 := Lib.hid hX1
    have HB1 := Lib.hid hB1
    clear hw1 hX1 hB1
    go_loopw [3, 4] (fun rf i wr => rf = .slice none 0 0 ∧ i = .int .i64 0 ∧ Below w1.heap.size w1 wr) (fun _ i _ => 0)
    case atStart => exact ⟨rfl, rfl, Below.refl _ _⟩
    case round =>
      obtain ⟨rfl, rfl, hb⟩ := hrel
      obtain ⟨x0, -⟩ := own1S (HX1.out.keep hb hwl)
      have HB := Lib.hid (bthen HB1.out hb)
      clear hb
      by_cases h0 : (0 : Int) < n
      · go_wp2_with (go_at_call 17; refine (hv.out _ (Hr.out _ HB.out)).mono ?_; rintro e w2 ⟨rfl, hb2⟩)
        go_ret
        exact ⟨⟨none, 0, 0, rfl, SRow.nil _ _ _⟩, bthen HB.out hb2⟩
      · go_wp2
        go_ret
        exact ⟨⟨none, 0, 0, rfl, SRow.nil _ _ _⟩, HB.out⟩
  · rw [if_pos rfl]
    have h64 := (okT_iff.1 ho).1
    have hn64 : n ≤ 64 := by have := Hlen.out; omega
    rw [ho] at hv
    clear ho
    go_enter Try.func20, Try.ntmps20
    go_wp2
    obtain ⟨w1, hw1⟩ : ∃ w1, w.alloc (.cells #[.slice p n cap] 46) = w1 := ⟨_, rfl⟩
    rw [hw1] at hX1 hB1 ⊢
    have hwl := boxLt hX1
    have HX1 := Lib.hid hX1
    have HB1 := Lib.hid hB1
    clear hw1 hX1 hB1
    go_loopw [3, 4] (fun rf i wr => ∃ (k : Nat) (pr : Option Addr) (m cr : Nat), k ≤ n ∧ m ≤ k ∧ rf = .slice pr m cr ∧ i = .int .i64 k ∧ wr.ownsRow w1.heap.size 38 1 (.slice pr m cr) m (ivals .u64 (refsOf (t.take k))) ∧ Below w1.heap.size w1 wr) (fun _ i _ => n - (RowKit.intOf i).toNat)
    case atStart => exact ⟨0, none, 0, 0, by omega, by omega, rfl, rfl, World.ownsRow_nil _ _ _ _, Below.refl _ _⟩
    case round =>
      obtain ⟨k, pr, m, cr, hk, hm, rfl, rfl, hG, hb⟩ := hrel
      have HG := Lib.hid hG
      have HBw := Lib.hid hb
      have HB := Lib.hid (bthen HB1.out hb)
      have HX := Lib.hid (HX1.out.keep hb hwl)
      have hws := hb.size
      clear hG hb
      obtain ⟨x0, -⟩ := own1S HX.out
      by_cases hlt : k < n
      · have hlt2 : (k : Int) < n := by omega
        have hwl2 := boxLt HX.out
        go_upto_region 5 with (go_at_call 17; refine (hv.out _ (Hr.out _ HB.out)).mono ?_; rintro e w2 ⟨rfl, hb2⟩; have HG2 := Lib.hid (own_below HG.out hb2); have HBw2 := Lib.hid (bthen HBw.out hb2); have HB2 := Lib.hid (bthen HB.out hb2); have HX2 := Lib.hid (HX.out.keep hb2 hwl2); have hs2 := hb2.size; clear hb2 x0; (obtain ⟨x0, -⟩ := own1S HX2.out))
        obtain ⟨e, b, off, he, rfl, c0, c1, c2⟩ := entry_at (Hr.out _ HB2.out) hlt
        have hbl : b < w2.heap.size := cell_lt c0
        have HT := Lib.hid (refsOf_take he)
        clear he
        obtain ⟨g, r, l⟩ := e
        simp only at c0 c1 c2
        cases l
        · go_wp2
          go_roundw
          case rel => exact ⟨k + 1, pr, m, cr, by omega, by omega, rfl, by go_num, by rw [HT.out]; simpa using HG2.out, HBw2.out⟩
          case measure => first | omega | (simp [RowKit.intOf]; omega)
        · go_wp2_with (at_builtin; refine wpList_append_own_at _ rfl _ _ 23 rfl w1.heap.size 38 i1 _ 1 8 Try.underlying23 hin1 hy0 hy1 hy2 rfl (by decide) (.slice pr m cr) m (ivals .u64 (refsOf (t.take k))) rfl (HG2.out.alloc _) ⟨w2.heap.size, 0, none⟩ 1 1 [.int .u64 r] rfl rfl (World.news_of_block (cs := #[.int .u64 r]) (fr := (0, 0)) (heap_alloc_new w2 _)) ?m2 ?m3 ?m4 ?m5 ?_)
          case m2 => simp [Value.oneCell']
          case m3 => unfold maxLen; omega
          case m4 => omega
          case m5 => first | omega | (simp; omega)
          intro v' w6 hown hgrow _ hat
          obtain ⟨q4, c4, rfl⟩ := formS hown
          rw [show ivals .u64 (refsOf (t.take k)) ++ [Value.int .u64 r] = ivals .u64 (refsOf (t.take (k + 1))) from by rw [ivals_snoc, HT.out]; rfl] at hown
          have hb6 := belowG (bthen HBw2.out below_box) (HG2.out.alloc _) hgrow (Nat.le_refl _) (by simp; omega)
          go_wp2
          go_roundw
          case rel => exact ⟨k + 1, q4, m + 1, c4, by omega, by omega, rfl, by go_num, hown, hb6⟩
          case measure => first | omega | (simp [RowKit.intOf]; omega)
      · obtain rfl : k = n := by omega
        have HT : t.take k = t := List.take_of_length_le (by have := Hlen.out; omega)
        rw [HT] at HG
        go_wp2
        go_ret
        exact ⟨⟨pr, m, cr, rfl, srowS HG.out⟩, HB.out⟩
end Go.Proofs.Ytapfbnhcndifhaa
