/- Contracts of layer 14: Refs, the program's and the reference's. -/
import Derived.Test.YtjnpmfkkagchjaaScF
import Derived.Test.YtjnpmfkkagchjaaScI
set_option linter.unusedVariables false
namespace Go.Proofs.Ytjnpmfkkagchjaa
open Go.RowKit

/-- What live slots refer to. -/
def refsOf : List Sl → List Int
  | [] => []
  | s :: r => if s.lv then s.rf :: refsOf r else refsOf r
theorem refsOf_append : ∀ a b : List Sl, refsOf (a ++ b) = refsOf a ++ refsOf b
  | [], b => rfl
  | s :: r, b => by rw [List.cons_append, refsOf, refsOf, refsOf_append r b]; split <;> rfl
theorem refsOf_len : ∀ a : List Sl, (refsOf a).length = cnt a
  | [] => rfl
  | s :: r => by rw [refsOf, cnt, ← refsOf_len r]; split <;> rfl
theorem refsOf_take {l : List Sl} {k : Nat} {s : Sl} (h : l[k]? = some s) : refsOf (l.take (k + 1)) = refsOf (l.take k) ++ if s.lv then [s.rf] else [] := by
  rw [take_snoc' h, refsOf_append]; rfl
def refsV (l : Loc) : List Int := if okB l then refsOf l.sl else []
/-- A call returned a slice of words that reads as xs. -/
def RetU (xs : List Int) (e : Ending) (w' : World) : Prop := ∃ q m c, e = .returned (.slice q m c) ∧ SRow w' .u64 q m c xs
theorem RetU.nil (w : World) : RetU [] (.returned (.slice none 0 0)) w := ⟨none, 0, 0, rfl, SRow.nil _ _ _⟩
theorem sl_le {l : Loc} (h : okB l = true) : l.sl.length ≤ 4096 := by
  obtain ⟨h1, _, h3⟩ := okB_iff.1 h
  have h4 := (issAll_iff.1 h1).1
  have hb : ∀ (k : Nat) (s : Sl), l.sl[k]? = some s → (k : Int) + 1 ≤ s.st := by
    intro k
    induction k with
    | zero =>
      intro s hs
      have := issB_iff.1 (slotB_iff.1 (okSl_iff.1 h3 0 s hs)).2.1
      omega
    | succ j ih =>
      intro s hs
      obtain ⟨s', hs'⟩ : ∃ s', l.sl[j]? = some s' := ⟨_, List.getElem?_eq_getElem (by have := (List.getElem?_eq_some_iff.1 hs).1; omega)⟩
      have h5 := (slotB_iff.1 (okSl_iff.1 h3 (j + 1) s hs)).1
      rw [prevSt_succ hs'] at h5
      have := ih s' hs'
      omega
  cases hl : l.sl.length with
  | zero => omega
  | succ k =>
    obtain ⟨s, hs⟩ : ∃ s, l.sl[k]? = some s := ⟨_, List.getElem?_eq_getElem (by omega)⟩
    have h5 := hb k s hs
    have h6 := issB_iff.1 (slotB_iff.1 (okSl_iff.1 h3 k s hs)).2.1
    omega

set_option maxRecDepth 100000 in
set_option maxHeartbeats 1600000 in
theorem scRefs_any (pa : Option Addr) (na ca : Nat) (pb : Option Addr) (nb cb : Nat) (pc : Option Addr) (nc cc : Nat) (l : Loc) (w : World) (hr : LRow w pa na ca pb nb cb pc nc cc l) :
    Calls Try.prog 14 #[.agg #[.slice pa na ca, .slice pb nb cb, .slice pc nc cc]] w fun e w' => RetU (refsV l) e w' ∧ Below w.heap.size w w' := by
  obtain ⟨i0, hi, hz0, hz1, hz2⟩ := info_parts infoU64
  have Hl := Lib.hid hr.lens
  have h63 := hr.i63.1
  have Hr := Lib.hid (fun w' (h : Below w.heap.size w w') => hr.keep h)
  have hv := Lib.hid (fun w h => scValid_any pa na ca pb nb cb pc nc cc l w h)
  clear hr
  unfold refsV
  cases h1 : okB l
  · rw [if_neg (by decide)]
    rw [h1] at hv
    clear h1
    go_enter Try.func14, Try.ntmps14
    go_wp2_with (((go_at_call 11; refine (hv.out _ (Hr.out _ below_box)).mono ?_); rintro e w2 ⟨rfl, hb2⟩))
    go_ret
    exact ⟨RetU.nil _, below_boxed hb2⟩
  · rw [if_pos rfl]
    have h4096 := sl_le h1
    have hna : na ≤ 4096 := by have := Hl.out.1; omega
    rw [h1] at hv
    clear h1 h4096
    go_enter Try.func14, Try.ntmps14
    go_wp2_with (((go_at_call 11; refine (hv.out _ (Hr.out _ below_box)).mono ?_); rintro e w1 ⟨rfl, hb1⟩; have f0 := box_cell hb1 0 rfl; have HB := Lib.hid (below_boxed hb1)))
    clear hb1
    go_loopw [3, 12] (fun v i wr => ∃ j : Nat, j ≤ na ∧ wr.ownsRow w1.heap.size 38 1 v (refsOf (l.sl.take j)).length (ivals .u64 (refsOf (l.sl.take j))) ∧ i = .int .i64 j ∧ Below w1.heap.size w1 wr) (fun _ i _ => na - (intOf i).toNat)
    case atStart => exact ⟨0, by omega, World.ownsRow_nil _ _ _ _, rfl, Below.refl _ _⟩
    case round =>
      obtain ⟨j, hj, hown, rfl, hb⟩ := hrel
      have Hown := Lib.hid hown
      clear hown
      by_cases hlt : j < na
      · obtain ⟨s, b, off, hx, rfl, c0, c1, c2⟩ := slot_at (Hr.out wr (HB.out.trans (hb.mono HB.out.size))).sl hlt
        have hlt2 : (j : Int) < na := by omega
        have hs := refsOf_take hx
        have hlen : (refsOf (l.sl.take j)).length ≤ j := by rw [refsOf_len]; exact Nat.le_trans (cnt_le _) (by simp; omega)
        obtain ⟨xs, hxs⟩ : ∃ xs, Hid (refsOf (l.sl.take j) = xs) := ⟨_, rfl⟩
        rw [hxs.out] at Hown hlen hs
        have hbs := hb.size
        have hsb : b < wr.heap.size := cell_lt c0
        have hne : b ≠ wr.heap.size := by omega
        clear hx
        cases hv2 : s.lv
        · rw [hv2, if_neg (by decide), List.append_nil] at hs
          rw [hv2] at c2
          have Hs := Lib.hid hs
          clear hs hv2
          go_wp2
          go_roundw
          case rel => exact ⟨j + 1, by omega, by rw [Hs.out]; exact Hown.out.alloc _, by go_num, bthen hb below_box⟩
          case measure => simp [intOf]; omega
        · rw [hv2, if_pos rfl] at hs
          rw [hv2] at c2
          have Hs := Lib.hid hs
          clear hs hv2
          go_wp2_with (at_builtin; refine wpList_append_own _ rfl _ _ 30 rfl w1.heap.size 38 i0 (.int .u64 0) 1 8 Try.underlying30 hi hz0 hz1 hz2 rfl (by decide) _ _ _ rfl ((Hown.out.alloc _).alloc _) ⟨wr.heap.size + 1, 0, none⟩ 1 1 [.int .u64 s.rf] rfl rfl ?m1 ?m2 ?m3 ?m4 ?m5 ?_)
          case m1 => simpa using cell_one_new (wr.alloc (.cells #[.int .i64 s.st, .int .u64 s.rf, .bool true] 56)) _ _
          case m2 => simp [Value.oneCell']
          case m3 => unfold maxLen; omega
          case m4 => omega
          case m5 => simp; omega
          intro v' w3 hown2 hgrow _
          have hb3 : Below w1.heap.size w1 w3 := ((hb.alloc hbs _).alloc (by simp; omega) _).grown hgrow (by simp; omega) (fun k h => (Hown.out.lt k h).1)
          rw [ivals_snoc, ← Hs.out] at hown2
          have hl2 : xs.length + 1 = (refsOf (l.sl.take (j + 1))).length := by rw [Hs.out]; simp
          rw [hl2] at hown2
          have Hown2 := Lib.hid hown2
          clear hown2 hgrow hl2
          go_wp2
          go_roundw
          case rel => exact ⟨j + 1, by omega, Hown2.out, by go_num, hb3⟩
          case measure => simp [intOf]; omega
      · have E := Lib.hid (show l.sl.take j = l.sl from List.take_of_length_le (by rw [Hl.out.1]; omega))
        rw [E.out] at Hown
        obtain ⟨q, c, rfl, hq⟩ := SRow.of_own Hown.out
        have Hq := Lib.hid hq
        clear Hown hq
        go_wp2
        go_ret
        exact ⟨⟨q, _, c, rfl, Hq.out⟩, HB.out.trans (hb.mono HB.out.size)⟩

set_option maxRecDepth 100000 in
set_option maxHeartbeats 1600000 in
theorem refRefs_any (pa : Option Addr) (na ca : Nat) (pb : Option Addr) (nb cb : Nat) (pc : Option Addr) (nc cc : Nat) (l : Loc) (w : World) (hr : LRow w pa na ca pb nb cb pc nc cc l) :
    Calls Try.prog 15 #[.agg #[.slice pa na ca, .slice pb nb cb, .slice pc nc cc]] w fun e w' => RetU (refsV l) e w' ∧ Below w.heap.size w w' := by
  obtain ⟨i0, hi, hz0, hz1, hz2⟩ := info_parts infoU64
  have Hl := Lib.hid hr.lens
  have h63 := hr.i63.1
  have Hr := Lib.hid (fun w' (h : Below w.heap.size w w') => hr.keep h)
  have hv := Lib.hid (fun w h => refVal_any pa na ca pb nb cb pc nc cc l w h)
  clear hr
  unfold refsV
  cases h1 : okB l
  · rw [if_neg (by decide)]
    rw [h1] at hv
    clear h1
    go_enter Try.func15, Try.ntmps15
    go_wp2
    go_loopw [3, 4] (fun v i wr => v = .slice none 0 0 ∧ i = .int .i64 0 ∧ wr = w.alloc (.cells #[.slice pa na ca, .slice pb nb cb, .slice pc nc cc] 26)) (fun _ _ _ => 0)
    case atStart => exact ⟨rfl, rfl, rfl⟩
    case round =>
      obtain ⟨rfl, rfl, rfl⟩ := hrel
      by_cases h0 : 0 < na
      · have h0' : (0 : Int) < na := by omega
        go_wp2_with (((go_at_call 12; refine (hv.out _ (Hr.out _ below_box)).mono ?_); rintro e w2 ⟨rfl, hb2⟩))
        go_ret
        exact ⟨RetU.nil _, below_boxed hb2⟩
      · have h0' : (na : Int) ≤ 0 := by omega
        go_wp2
        go_ret
        exact ⟨RetU.nil _, below_box⟩
  · rw [if_pos rfl]
    have h4096 := sl_le h1
    have hna : na ≤ 4096 := by have := Hl.out.1; omega
    rw [h1] at hv
    clear h1 h4096
    go_enter Try.func15, Try.ntmps15
    go_wp2
    obtain ⟨w1, hw1⟩ : ∃ w1, w.alloc (.cells #[.slice pa na ca, .slice pb nb cb, .slice pc nc cc] 26) = w1 := ⟨_, rfl⟩
    have d0 : w1.cell? ⟨w.heap.size, 0, none⟩ = some (.slice pa na ca) := by rw [← hw1]; simp
    have d1 : w1.cell? ⟨w.heap.size, 1, none⟩ = some (.slice pb nb cb) := by rw [← hw1]; simp
    have d2 : w1.cell? ⟨w.heap.size, 2, none⟩ = some (.slice pc nc cc) := by rw [← hw1]; simp
    have HB := Lib.hid (show Below w.heap.size w w1 from by rw [← hw1]; exact below_box)
    rw [hw1]
    clear hw1
    go_loopw [3, 4] (fun v i wr => ∃ j : Nat, j ≤ na ∧ wr.ownsRow w1.heap.size 38 1 v (refsOf (l.sl.take j)).length (ivals .u64 (refsOf (l.sl.take j))) ∧ i = .int .i64 j ∧ Below w1.heap.size w1 wr) (fun _ i _ => na - (intOf i).toNat)
    case atStart => exact ⟨0, by omega, World.ownsRow_nil _ _ _ _, rfl, Below.refl _ _⟩
    case round =>
      obtain ⟨j, hj, hown, rfl, hb⟩ := hrel
      have Hown := Lib.hid hown
      clear hown
      have e0 := cell_keep hb d0
      have e1 := cell_keep hb d1
      have e2 := cell_keep hb d2
      have HBr := Lib.hid (HB.out.trans (hb.mono HB.out.size))
      by_cases hlt : j < na
      · obtain ⟨s, b, off, hx, rfl, -, -, -⟩ := slot_at (Hr.out wr HBr.out).sl hlt
        have HC := Lib.hid (fun w' h => slot_at (Hr.out w' h).sl hlt)
        have Hx := Lib.hid hx
        have hlt2 : (j : Int) < na := by omega
        have hs := refsOf_take hx
        have hlen : (refsOf (l.sl.take j)).length ≤ j := by rw [refsOf_len]; exact Nat.le_trans (cnt_le _) (by simp; omega)
        obtain ⟨xs, hxs⟩ : ∃ xs, Hid (refsOf (l.sl.take j) = xs) := ⟨_, rfl⟩
        rw [hxs.out] at Hown hlen hs
        clear hx
        cases hv2 : s.lv
        · rw [hv2, if_neg (by decide), List.append_nil] at hs
          have Hs := Lib.hid hs
          clear hs
          go_wp2_with (((go_at_call 12; refine (hv.out _ (Hr.out _ HBr.out)).mono ?_); rintro e w2 ⟨rfl, hb2⟩; have g0 := cell_keep hb2 e0; (obtain ⟨s', b', off', hx', hp', c0, c1, c2⟩ := HC.out _ (bthen HBr.out hb2)); (obtain rfl : s = s' := Option.some.inj (Hx.out.symm.trans hx')); cases hp'; clear hx'; rw [hv2] at c2))
          go_roundw
          case rel => exact ⟨j + 1, by omega, by rw [Hs.out]; exact own_below Hown.out hb2, by go_num, bthen hb hb2⟩
          case measure => simp [intOf]; omega
        · rw [hv2, if_pos rfl] at hs
          have Hs := Lib.hid hs
          clear hs
          go_wp2_with (first
            | ((go_at_call 12; refine (hv.out _ (Hr.out _ HBr.out)).mono ?_); rintro e w2 ⟨rfl, hb2⟩; have g0 := cell_keep hb2 e0; (obtain ⟨s', b', off', hx', hp', c0, c1, c2⟩ := HC.out _ (bthen HBr.out hb2)); (obtain rfl : s = s' := Option.some.inj (Hx.out.symm.trans hx')); cases hp'; clear hx'; rw [hv2] at c2; have hb12 := bthen hb hb2; have hsz := hb12.size;  have Hown' := Lib.hid (own_below Hown.out hb2))
            | (at_builtin; refine wpList_append_own _ rfl _ _ 30 rfl w1.heap.size 38 i0 (.int .u64 0) 1 8 Try.underlying30 hi hz0 hz1 hz2 rfl (by decide) _ _ _ rfl (Hown'.out.alloc _) ⟨w2.heap.size, 0, none⟩ 1 1 [.int .u64 s.rf] rfl rfl ?m1 ?m2 ?m3 ?m4 ?m5 ?_))
          case m1 => exact cell_one_new _ _ _
          case m2 => simp [Value.oneCell']
          case m3 => unfold maxLen; omega
          case m4 => omega
          case m5 => simp; omega
          intro v' w3 hown2 hgrow _
          have hb3 : Below w1.heap.size w1 w3 := (hb12.alloc hsz _).grown hgrow (by simp; omega) (fun k h => (Hown'.out.lt k h).1)
          rw [ivals_snoc, ← Hs.out] at hown2
          have hl2 : xs.length + 1 = (refsOf (l.sl.take (j + 1))).length := by rw [Hs.out]; simp
          rw [hl2] at hown2
          have Hown2 := Lib.hid hown2
          clear hown2 hgrow hl2
          go_wp2
          go_roundw
          case rel => exact ⟨j + 1, by omega, Hown2.out, by go_num, hb3⟩
          case measure => simp [intOf]; omega
      · have E := Lib.hid (show l.sl.take j = l.sl from List.take_of_length_le (by rw [Hl.out.1]; omega))
        rw [E.out] at Hown
        obtain ⟨q, c, rfl, hq⟩ := SRow.of_own Hown.out
        have Hq := Lib.hid hq
        have hge : (na : Int) ≤ j := by omega
        clear Hown hq
        go_wp2
        go_ret
        exact ⟨⟨q, _, c, rfl, Hq.out⟩, HBr.out⟩
end Go.Proofs.Ytjnpmfkkagchjaa
