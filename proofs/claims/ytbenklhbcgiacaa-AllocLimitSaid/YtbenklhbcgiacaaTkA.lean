/- Contracts of package page: slices.Clone of pages, take, Small, Large. -/
import Derived.Test.YtbenklhbcgiacaaPgS
import Derived.Test.YtbenklhbcgiacaaPgX
import Derived.Test.YtbenklhbcgiacaaPgU
import Derived.Test.YtbenklhbcgiacaaPageY
import Derived.Lib.SliceRun
set_option linter.unusedVariables false
namespace Go.Proofs.Ytbenklhbcgiacaa
open Go.RowKit

/-- A call returned a copy of a table. -/
def RetC (B n : Nat) (ps : List Pg) (e : Ending) (w' : World) : Prop := ∃ g c, e = .returned (.slice (some ⟨g, 0, none⟩) n c) ∧ B ≤ g ∧ w'.ownsRow B 55 4 (.slice (some ⟨g, 0, none⟩) n c) n (pvals ps)

set_option maxRecDepth 100000 in
set_option maxHeartbeats 800000 in
theorem clone_any (b off n cap : Nat) (ps : List Pg) (w : World) (hr : PRow w (some ⟨b, off, none⟩) n cap ps) (hn : n ≤ 100000) (h1 : 1 ≤ n) :
    Calls Try.prog 50 #[.slice (some ⟨b, off, none⟩) n cap] w fun e w' => RetC w.heap.size n ps e w' ∧ Below w.heap.size w w' := by
  obtain ⟨i0, hin, hz0, hz1, hz2⟩ := info_parts infoPage
  have Hr := Lib.hid hr
  have hown0 : (w.alloc (.cells #[] 55)).ownsRow w.heap.size 55 4 (.slice (some ⟨w.heap.size, 0, none⟩) 0 0) 0 [] := own_empty w 55 4
  have qT : ∀ (w : World) (a : Option Addr) (n c n' c' : Nat), (binOp .eql 30 (.slice a n c) (.slice none n' c')).run Try.prog w = .ok (.bool a.isNone) w := fun w a n c n' c' => Lib.run_eql_slice_nil w _ _ a n c n' c' Try.underlying30
  clear hr
  go_enter Try.func50, Try.ntmps50
  go_wp2_with (at_builtin; refine wpList_append_vrow rfl _ _ 30 rfl w.heap.size 55 i0 _ 4 32 Try.underlying30 hin hz0 hz1 hz2 rfl (by decide) (.slice (some ⟨w.heap.size, 0, none⟩) 0 0) 0 [] rfl hown0 (some ⟨b, off, none⟩) n cap (pvals ps) rfl ?src (pvals_one ps) ?c3 ?c4 ?c5 ?_)
  case src => exact Hr.out.keep below_box
  case c3 => unfold maxLen; omega
  case c4 => omega
  case c5 => simp
  intro v' w2 hown hgrow
  have hb0 : Below w.heap.size w w2 := (below_box).grown hgrow (by simp) (fun k h => by simp [Value.ownBlock] at h; omega)
  try simp only [Nat.zero_add, List.nil_append] at hown
  obtain ⟨g, c, rfl, hg, hgl⟩ := World.ownsRow.form hown (by omega)
  have Hown0 := Lib.hid hown
  clear hgrow hown
  go_wp2
  go_ret
  exact ⟨⟨g, c, rfl, hg, Hown0.out⟩, hb0⟩

theorem put_head {ps : List Pg} {i k : Nat} {x y : Pg} (h : i + k ≤ ps.length) (h1 : 1 ≤ k) : (put ps i k y).set i x = put (ps.set i x) (i + 1) (k - 1) y := by
  have hl : (ps.set i x).length = ps.length := List.length_set
  apply List.ext_getElem?
  intro j
  rw [List.getElem?_set]
  have hp : (put ps i k y).length = ps.length := put_len h
  by_cases hj : i = j
  · rw [if_pos hj, if_pos (by omega), put_get (by omega) (Or.inr (by omega)), List.getElem?_set, if_pos hj, if_pos (by omega)]
  · rw [if_neg hj]
    by_cases h2 : i + 1 ≤ j ∧ j < i + k
    · rw [put_in h (by omega) (by omega), put_in (by omega) h2.1 (by omega)]
    · rw [put_get h (by omega), put_get (by omega) (by omega), List.getElem?_set, if_neg hj]
theorem inUse_all : ∀ l : List Pg, (inUse l = 0) = ((l.all fun x => decide (x.kind = 0)) = true)
  | [] => by simp [inUse]
  | x :: r => by
    rw [List.all_cons, inUse, Bool.and_eq_true, ← inUse_all r, decide_eq_true_eq]
    by_cases h : x.kind = 0
    · rw [if_pos h]; simp [h]
    · rw [if_neg h]; simp [h]
theorem inUse_free {ps : List Pg} {i k : Nat} : inUse ((ps.drop i).take k) = 0 ↔ freeB ps i k = true := by
  rw [inUse_all]; rfl

set_option maxHeartbeats 1600000 in
theorem ptake_in (p : Option Addr) (n cap : Nat) (ps : List Pg) (i k : Nat) (x : Pg) (w : World) (hr : PRow w p n cap ps) (hn : n ≤ 100000) (hk : i + k ≤ n) (hk1 : 1 ≤ k) :
    Calls Try.prog 54 #[.slice p n cap, .int .i64 i, .int .i64 k, .agg #[.int .i64 x.kind, .int .i64 x.space, .int .i64 x.used, .int .i64 x.pins]] w
      fun e w' => RetO w.heap.size (takeV ps i k x ⟨3, x.space, 0, 0⟩) (takeE ps i k) e w' ∧ Below w.heap.size w w' := by
  obtain ⟨_, b, off, _, rfl, _⟩ := hr.at_ (k := i) (by omega)
  have hlc := hr.le
  have hlen := hr.len
  have Hr := Lib.hid (hr.keep (w' := w.alloc (.cells #[.int .i64 x.kind, .int .i64 x.space, .int .i64 x.used, .int .i64 x.pins] 55)) below_box)
  have Hlen := Lib.hid hlen
  have hcut := Lib.hid (Hr.out.cut (l := i) (m := k) hk)
  obtain ⟨ca, hca⟩ : ∃ ca, Hid (cutS 4 (some ⟨b, off, none⟩) cap i = ca) := ⟨_, rfl⟩
  rw [hca.out] at hcut
  have hwi := Lib.hid (fun w => within_yes (n := (i : Int)) (l := 0) (h := (n : Int) - k) (by omega) (by omega) w)
  have hiu := Lib.hid (fun w h => inUse_any ca k (cap - i) ((ps.drop i).take k) w h)
  have hcl := Lib.hid (fun w h => clone_any b off n cap ps w h hn (by omega))
  obtain ⟨xk, xs, xu, xp⟩ := x
  simp only at Hr hcut
  have hko : (i : Int) + k ≤ n := by omega
  have hk10 : (1 : Int) ≤ k := by omega
  have hnn : (n : Int) ≤ 100000 := by omega
  clear hr hlen
  by_cases hf : freeB ps i k = true
  · obtain ⟨e1, e2⟩ := take_ok (x := ⟨xk, xs, xu, xp⟩) (y := ⟨3, xs, 0, 0⟩) (by rw [Hlen.out]; omega) (by rw [Hlen.out]; exact hk) hf
    rw [put_head (by rw [Hlen.out]; exact hk) hk1] at e1
    have E1 := Lib.hid e1
    have E2 := Lib.hid e2
    rw [inUse_free.2 hf] at hiu
    clear e1 e2 hf
    go_enter Try.func54, Try.ntmps54
    go_wp2_with fail
    refine (hwi.out _).mono ?_
    rintro e w1 ⟨rfl, rfl⟩
    clear hwi
    go_wp2_with ((with_reducible show wpList _ _ _ _ _ _); refine wpList_cutS (o := ⟨some 24, _, _, _, _, _⟩) rfl _ _ _ _ rfl 55 Try.underlying30 4 sizePage (some ⟨b, off, none⟩) n cap rfl .i64 .i64 _ _ rfl rfl i k ?c1 ?c2 ?c3 ?_)
    any_goals omega
    rw [hca.out]
    go_wp2_with fail
    refine (hiu.out _ hcut.out).mono ?_
    rintro e w1 ⟨rfl, hb1⟩
    have Hr1 := Lib.hid (Hr.out.keep hb1)
    clear hiu hcut hca Hr
    go_wp2_with fail
    refine (hcl.out _ Hr1.out).mono ?_
    rintro e w2 ⟨⟨g, c, rfl, hg, hown⟩, hb2⟩
    have hb2 := bthen hb1 hb2
    have hsz := hb1.size
    simp only [World.size_alloc] at hsz
    have hown := own_mono hown (show w.heap.size + 1 ≤ w1.heap.size from hsz)
    have hg1 : w.heap.size + 1 ≤ g := Nat.le_trans hsz hg
    have x0 := box_cell hb2 0 (v := .int .i64 xk) rfl
    have x1 := box_cell hb2 1 (v := .int .i64 xs) rfl
    have x2 := box_cell hb2 2 (v := .int .i64 xu) rfl
    have x3 := box_cell hb2 3 (v := .int .i64 xp) rfl
    obtain ⟨z, hz⟩ : ∃ z, ps[i]? = some z := ⟨_, List.getElem?_eq_getElem (by rw [Hlen.out]; omega)⟩
    obtain ⟨⟨c0, c1, c2, c3⟩, f0, f1, f2, f3⟩ := own_page hown hz
    have hs := Lib.hid (own_set4 hown i xk xs xu xp)
    have hbS := Lib.hid (below_set4 (j := i) (a := .int .i64 xk) (b := .int .i64 xs) (c := .int .i64 xu) (d := .int .i64 xp) hb2 (show (w.alloc (.cells #[.int .i64 xk, .int .i64 xs, .int .i64 xu, .int .i64 xp] 55)).heap.size ≤ g by simpa using hg1))
    have hin1 : (i : Int) < n := by omega
    clear hb1 hb2 hcl hown hz hsz hg Hr1
    go_wp2
    go_loopw [11] (fun u wr => ∃ m : Nat, 1 ≤ m ∧ m ≤ k ∧ u = .int .i64 ((i : Int) + m) ∧ wr.ownsRow (w.heap.size + 1) 55 4 (.slice (some ⟨g, 0, none⟩) n c) n (pvals (put (ps.set i ⟨xk, xs, xu, xp⟩) (i + 1) (m - 1) ⟨3, xs, 0, 0⟩)) ∧ Below (w.heap.size + 1) (w.alloc (.cells #[.int .i64 xk, .int .i64 xs, .int .i64 xu, .int .i64 xp] 55)) wr) (fun u _ => (n - (intOf u).toNat))
    case atStart => exact ⟨1, by omega, hk1, by go_num, by rw [put_zero]; exact hs.out, by simpa using hbS.out⟩
    case round =>
      obtain ⟨m, hm1, hm, rfl, hown, hb⟩ := hrel
      have hb' : Below (w.alloc (.cells #[.int .i64 xk, .int .i64 xs, .int .i64 xu, .int .i64 xp] 55)).heap.size (w.alloc (.cells #[.int .i64 xk, .int .i64 xs, .int .i64 xu, .int .i64 xp] 55)) wr := by simpa using hb
      have y1 := box_cell hb' 1 (v := .int .i64 xs) rfl
      clear hb'
      by_cases hlt : m < k
      · obtain ⟨J, hJ0⟩ : ∃ J, J = i + m := ⟨_, rfl⟩
        have hJ : (i : Int) + (m : Int) = (J : Int) := by omega
        have hJn : J < n := by omega
        have hJi : (J : Int) < n := by omega
        have hsl : (ps.set i ⟨xk, xs, xu, xp⟩).length = n := by rw [List.length_set, Hlen.out]
        obtain ⟨z, hz⟩ : ∃ z, (put (ps.set i ⟨xk, xs, xu, xp⟩) (i + 1) (m - 1) ⟨3, xs, 0, 0⟩)[J]? = some z := ⟨_, List.getElem?_eq_getElem (by rw [put_len (by omega)]; omega)⟩
        obtain ⟨⟨c0, c1, c2, c3⟩, f0, f1, f2, f3⟩ := own_page hown hz
        have hs2 := own_set4 hown J 3 xs 0 0
        rw [show J = i + 1 + (m - 1) by omega, put_succ (by omega), show i + 1 + (m - 1) = J by omega, show m - 1 + 1 = m + 1 - 1 by omega] at hs2
        have Hs := Lib.hid hs2
        have hJk : (J : Int) < i + k := by omega
        have HJ0 := Lib.hid hJ0
        clear hz hown hs2 hs hbS hJ0
        rw [hJ]
        clear hJ
        go_wp2
        go_roundw
        case rel => exact ⟨m + 1, by omega, by omega, by rw [HJ0.out]; go_num, Hs.out, below_set4 hb hg1⟩
        case measure => simp [intOf]; omega
      · obtain rfl : k = m := by omega
        have Hrow := Lib.hid (own_mono hown (show w.heap.size ≤ w.heap.size + 1 by omega))
        have hB := Lib.hid (below_of_alloc (w := w) (wr := wr) (o := .cells #[.int .i64 xk, .int .i64 xs, .int .i64 xu, .int .i64 xp] 55) (by simpa using hb))
        clear hown hs hbS
        go_wp2
        go_ret2
        rw [E1.out, E2.out]
        exact ⟨⟨_, _, _, rfl, Hrow.out⟩, hB.out⟩
  · have hf' : freeB ps i k = false := by simpa using hf
    obtain ⟨e1, e2⟩ := take_state (x := ⟨xk, xs, xu, xp⟩) (y := ⟨3, xs, 0, 0⟩) (by rw [Hlen.out]; omega) (by rw [Hlen.out]; exact hk) hf'
    have E1 := Lib.hid e1
    have E2 := Lib.hid e2
    obtain ⟨U, hU⟩ : ∃ U, inUse ((ps.drop i).take k) = U := ⟨_, rfl⟩
    have hU1 : (0 : Int) < U := by
      have : ¬ U = 0 := fun h => hf (inUse_free.1 (hU.trans h))
      omega
    rw [hU] at hiu
    clear e1 e2 hf hf' hU hcl
    go_enter Try.func54, Try.ntmps54
    go_wp2_with fail
    refine (hwi.out _).mono ?_
    rintro e w1 ⟨rfl, rfl⟩
    clear hwi
    go_wp2_with ((with_reducible show wpList _ _ _ _ _ _); refine wpList_cutS (o := ⟨some 24, _, _, _, _, _⟩) rfl _ _ _ _ rfl 55 Try.underlying30 4 sizePage (some ⟨b, off, none⟩) n cap rfl .i64 .i64 _ _ rfl rfl i k ?d1 ?d2 ?d3 ?_)
    any_goals omega
    rw [hca.out]
    go_wp2_with fail
    refine (hiu.out _ hcut.out).mono ?_
    rintro e w1 ⟨rfl, hb1⟩
    have hB := Lib.hid (below_boxed hb1)
    clear hiu hcut hca Hr hb1
    go_wp2
    go_ret2
    rw [E1.out, E2.out]
    exact ⟨RetO.nil _ _ _, hB.out⟩

theorem takeV_one {ps : List Pg} {i : Int} {x y y' : Pg} : takeV ps i 1 x y = takeV ps i 1 x y' := by
  by_cases h : 0 ≤ i ∧ i < ps.length ∧ (1 : Int) ≤ ps.length - i
  · have e : ∀ z, (put ps i.toNat (1 : Int).toNat z).set i.toNat x = ps.set i.toNat x := fun z => by
      rw [put_head (by omega) (by decide)]
      exact put_zero _ _ _
    unfold takeV
    rw [if_pos h, if_pos h, e, e]
  · unfold takeV
    rw [if_neg h, if_neg h]

set_option maxHeartbeats 800000 in
theorem ptake_any (p : Option Addr) (n cap : Nat) (ps : List Pg) (i : Int) (k : Nat) (x : Pg) (w : World) (hr : PRow w p n cap ps) (hn : n ≤ 100000) (hk1 : 1 ≤ k) (hk4 : k ≤ 100000) :
    Calls Try.prog 54 #[.slice p n cap, .int .i64 i, .int .i64 k, .agg #[.int .i64 x.kind, .int .i64 x.space, .int .i64 x.used, .int .i64 x.pins]] w
      fun e w' => RetO w.heap.size (takeV ps i k x ⟨3, x.space, 0, 0⟩) (takeE ps i k) e w' ∧ Below w.heap.size w w' := by
  have hl := hr.len
  by_cases h : 0 ≤ i ∧ i < n ∧ (k : Int) ≤ n - i
  · obtain ⟨h1, h2, h3⟩ := h
    obtain ⟨i, rfl⟩ := Int.eq_ofNat_of_zero_le h1
    exact ptake_in p n cap ps i k x w hr hn (by omega) hk1
  · obtain ⟨e1, e2⟩ := take_out (ps := ps) (i := i) (k := k) (x := x) (y := ⟨3, x.space, 0, 0⟩) (by rw [hl]; exact h)
    rw [e1, e2]
    obtain ⟨xk, xs, xu, xp⟩ := x
    have hk5 : (k : Int) ≤ 100000 := by omega
    have hk6 : (1 : Int) ≤ k := by omega
    have hn5 : (n : Int) ≤ 100000 := by omega
    have hwi := Lib.hid (fun w => within_no (n := i) (l := 0) (h := (n : Int) - k) (by omega) w)
    clear e1 e2 hr h
    go_enter Try.func54, Try.ntmps54
    go_wp2_with fail
    refine (hwi.out _).mono ?_
    rintro e w1 ⟨rfl, rfl⟩
    go_wp2
    go_ret2
    exact ⟨RetO.nil _ _ _, below_box⟩

theorem space_le {sp : Int} : spaceB sp = true ↔ 0 ≤ sp ∧ sp ≤ 1 := by
  unfold spaceB; rw [decide_eq_true_eq]; omega

set_option maxHeartbeats 800000 in
theorem psmall_any (p : Option Addr) (n cap : Nat) (ps : List Pg) (i sp : Int) (w : World) (hr : PRow w p n cap ps) (hn : n ≤ 100000) :
    Calls Try.prog 47 #[.slice p n cap, .int .i64 i, .int .i64 sp] w fun e w' => RetO w.heap.size (smallPV ps i sp) (smallPE ps i sp) e w' ∧ Below w.heap.size w w' := by
  have hs := Lib.hid (fun w => isSpace_is (n := sp) rfl w)
  by_cases h : 0 ≤ sp ∧ sp ≤ 1
  · obtain ⟨e1, e2⟩ := smallP_ok (ps := ps) (i := i) h
    rw [takeV_one (y' := ⟨3, sp, 0, 0⟩)] at e1
    have E1 := Lib.hid e1
    have E2 := Lib.hid e2
    have hc := Lib.hid (ptake_any p n cap ps i 1 ⟨1, sp, 0, 0⟩ w hr hn (by omega) (by omega))
    rw [space_le.2 h] at hs
    clear e1 e2 hr h
    go_enter Try.func47, Try.ntmps47
    go_wp2_with fail
    refine (hs.out _).mono ?_
    rintro e w1 ⟨rfl, rfl⟩
    go_wp2_with fail
    refine hc.out.mono ?_
    rintro e w1 ⟨⟨q, m, c, rfl, hq⟩, hb1⟩
    have Hq := Lib.hid hq
    clear hc hq
    go_wp2
    go_ret2
    exact ⟨RetO.mk Hq.out E1.out E2.out, hb1⟩
  · obtain ⟨e1, e2⟩ := smallP_no (ps := ps) (i := i) h
    rw [e1, e2]
    have hs0 : spaceB sp = false := by
      cases hh : spaceB sp
      · rfl
      · exact absurd (space_le.1 hh) h
    rw [hs0] at hs
    clear e1 e2 hr h hs0
    go_enter Try.func47, Try.ntmps47
    go_wp2_with fail
    refine (hs.out _).mono ?_
    rintro e w1 ⟨rfl, rfl⟩
    go_wp2
    go_ret2
    exact ⟨RetO.nil _ _ _, Below.refl _ _⟩

set_option maxHeartbeats 800000 in
theorem plarge_any (pw np : Int) (p : Option Addr) (n cap : Nat) (ps : List Pg) (i sp words : Int) (w : World) (hr : PRow w p n cap ps) (hn : n ≤ 100000) :
    Calls Try.prog 43 #[.agg #[.int .i64 pw, .int .i64 np], .slice p n cap, .int .i64 i, .int .i64 sp, .int .i64 words] w fun e w' => RetO w.heap.size (largePV pw np ps i sp words) (largePE pw np ps i sp words) e w' ∧ Below w.heap.size w w' := by
  have hs := Lib.hid (fun w => isSpace_is (n := sp) rfl w)
  have hnd := Lib.hid (fun w => need_any pw np words w)
  have Hr := Lib.hid hr
  clear hr
  by_cases h : 1 ≤ needV pw np words ∧ 0 ≤ sp ∧ sp ≤ 1
  · obtain ⟨e1, e2⟩ := largeP_ok (ps := ps) (i := i) h
    obtain ⟨h0, h12⟩ := h
    obtain ⟨k, hk⟩ := Int.eq_ofNat_of_zero_le (show 0 ≤ needV pw np words by omega)
    have hk4 : k ≤ 100000 := by have := needV_le pw np words; omega
    rw [hk] at e1 e2 hnd h0
    rw [space_le.2 h12] at hs
    have E1 := Lib.hid e1
    have E2 := Lib.hid e2
    clear e1 e2 hk h12
    go_enter Try.func43, Try.ntmps43
    go_wp2_with fail
    refine (hnd.out _).mono ?_
    rintro e w0 ⟨rfl, hb0⟩
    have hw0 := below_boxed hb0
    clear hnd hb0
    go_wp2_with fail
    refine (hs.out _).mono ?_
    rintro e w1 ⟨rfl, rfl⟩
    go_wp2_with fail
    refine (ptake_any p n cap ps i k ⟨2, sp, words, 0⟩ w0 (Hr.out.keep hw0) hn (by omega) hk4).mono ?_
    rintro e w1 ⟨⟨q, m, c, rfl, hq⟩, hb1⟩
    have Hq := Lib.hid hq
    clear hq
    go_wp2
    go_ret2
    exact ⟨RetO.mk (own_mono Hq.out hw0.size) E1.out E2.out, bthen hw0 hb1⟩
  · obtain ⟨e1, e2⟩ := largeP_no (ps := ps) (i := i) h
    rw [e1, e2]
    obtain ⟨K, hK⟩ : ∃ K, Hid (needV pw np words = K) := ⟨_, rfl⟩
    rw [hK.out] at h hnd
    clear e1 e2 Hr
    by_cases h0 : K < 1
    · clear h hs
      go_enter Try.func43, Try.ntmps43
      go_wp2_with fail
      refine (hnd.out _).mono ?_
      rintro e w0 ⟨rfl, hb0⟩
      go_wp2
      go_ret2
      exact ⟨RetO.nil _ _ _, below_boxed hb0⟩
    · have hs0 : spaceB sp = false := by
        cases hh : spaceB sp
        · rfl
        · exact absurd ⟨by omega, space_le.1 hh⟩ h
      rw [hs0] at hs
      clear h hs0
      go_enter Try.func43, Try.ntmps43
      go_wp2_with fail
      refine (hnd.out _).mono ?_
      rintro e w0 ⟨rfl, hb0⟩
      go_wp2_with fail
      refine (hs.out _).mono ?_
      rintro e w1 ⟨rfl, rfl⟩
      go_wp2
      go_ret2
      exact ⟨RetO.nil _ _ _, below_boxed hb0⟩
end Go.Proofs.Ytbenklhbcgiacaa
