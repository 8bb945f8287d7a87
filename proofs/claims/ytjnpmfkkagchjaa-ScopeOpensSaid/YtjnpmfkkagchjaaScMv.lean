/- Contract of package scope: Move. -/
import Derived.Test.YtjnpmfkkagchjaaScN
import Derived.Test.YtjnpmfkkagchjaaScR
set_option linter.unusedVariables false
set_option linter.unusedSimpArgs false
namespace Go.Proofs.Ytjnpmfkkagchjaa
open Go.RowKit

set_option maxHeartbeats 800000 in
theorem index_any (p : Option Addr) (n cap : Nat) (xs : List Int) (v : Int) (w : World) (hr : SRow w .u64 p n cap xs) :
    Calls Try.prog 58 #[.slice p n cap, .int .u64 v] w fun e w' => (∃ i : Int, e = .returned (.int .i64 i) ∧ (0 ≤ i ↔ v ∈ xs)) ∧ w = w' := by
  have hl := hr.i63.2
  have Hr := Lib.hid hr
  have Hlen := Lib.hid hr.len
  clear hr
  go_enter Try.func58, Try.ntmps58
  go_wp2
  go_loop [8] (fun i => ∃ k : Nat, k ≤ n ∧ (∀ j x, j < k → xs[j]? = some x → x ≠ v) ∧ i = .int .i64 k) (fun i => n - (intOf i).toNat)
  case atStart => exact ⟨0, by omega, fun j x h => absurd h (Nat.not_lt_zero _), rfl⟩
  case round =>
    obtain ⟨k, hk, hf, rfl⟩ := hrel
    have Hf := Lib.hid hf
    clear hf
    by_cases hlt : k < n
    · obtain ⟨x, b, off, hx, rfl, hc⟩ := Hr.out.at_ hlt
      have Hx := Lib.hid hx
      have hlt2 : (k : Int) < n := by omega
      clear hx
      by_cases h0 : v = x
      · have hb : (v == x) = true := beq_iff_eq.2 h0
        have Hin := Lib.hid (show v ∈ xs from by rw [h0]; exact List.mem_of_getElem? Hx.out)
        clear h0
        go_wp2
        go_ret
        exact ⟨⟨k, rfl, ⟨fun _ => Hin.out, fun _ => by omega⟩⟩, rfl⟩
      · have hb : (v == x) = false := beq_eq_false_iff_ne.2 h0
        have Hne := Lib.hid h0
        clear h0
        go_wp2
        go_round
        case rel => exact ⟨k + 1, by omega, fun j y hj hy => by
          by_cases e : j = k
          · subst e; rw [Hx.out] at hy; cases hy; exact fun e => Hne.out e.symm
          · exact Hf.out j y (by omega) hy, by go_num⟩
        case measure => simp [intOf]; omega
    · have Hno := Lib.hid (show ¬ v ∈ xs from fun h => by
        obtain ⟨j, hj⟩ := List.getElem?_of_mem h
        exact Hf.out j v (by have := (List.getElem?_eq_some_iff.1 hj).1; have := Hlen.out; omega) hj rfl)
      go_wp2
      go_ret
      exact ⟨⟨-1, rfl, ⟨fun h => absurd h (by decide), fun h => absurd h Hno.out⟩⟩, rfl⟩
theorem contains_any (p : Option Addr) (n cap : Nat) (xs : List Int) (v : Int) (w : World) (hr : SRow w .u64 p n cap xs) {r : Bool} (hR : decide (v ∈ xs) = r) :
    Calls Try.prog 48 #[.slice p n cap, .int .u64 v] w fun e w' => e = .returned (.bool r) ∧ w = w' := by
  have h := Lib.hid (index_any p n cap xs v w hr)
  have HR := Lib.hid hR
  clear hr hR
  go_enter Try.func48, Try.ntmps48
  go_wp2_with (((go_at_call 58; refine h.out.mono ?_); rintro e w' ⟨⟨i, rfl, hi⟩, rfl⟩; have Hi := Lib.hid hi; clear hi))
  go_ret
  exact ⟨ret_bool (by rw [← HR.out, Bool.eq_iff_iff]; simp [Hi.out]), rfl⟩

/-- The slots with the first k looked at: the live ones have got their new references. -/
def mv (sl : List Sl) (xs : List Int) : Nat → List Sl
  | 0 => sl
  | k + 1 => match sl[k]? with
    | some s => if s.lv then (mv sl xs k).set k ⟨s.st, (xs[cnt (sl.take k)]?).getD 0, true⟩ else mv sl xs k
    | none => mv sl xs k
theorem mv_len (sl : List Sl) (xs : List Int) : ∀ k, (mv sl xs k).length = sl.length
  | 0 => rfl
  | k + 1 => by
    unfold mv
    split
    · split
      · rw [List.length_set, mv_len sl xs k]
      · exact mv_len sl xs k
    · exact mv_len sl xs k
theorem mv_ge (sl : List Sl) (xs : List Int) : ∀ k j, k ≤ j → (mv sl xs k)[j]? = sl[j]?
  | 0, j, _ => rfl
  | k + 1, j, h => by
    unfold mv
    split
    · split
      · rw [List.getElem?_set_ne (by omega), mv_ge sl xs k j (by omega)]
      · exact mv_ge sl xs k j (by omega)
    · exact mv_ge sl xs k j (by omega)
theorem mv_live {sl : List Sl} {xs : List Int} {k : Nat} {s : Sl} {x : Int} (hs : sl[k]? = some s) (hl : s.lv = true) (hx : xs[cnt (sl.take k)]? = some x) : mv sl xs (k + 1) = (mv sl xs k).set k ⟨s.st, x, true⟩ := by
  rw [mv, hs]; simp only; rw [if_pos hl, hx]; rfl
theorem mv_dead {sl : List Sl} {xs : List Int} {k : Nat} {s : Sl} (hs : sl[k]? = some s) (hl : s.lv = false) : mv sl xs (k + 1) = mv sl xs k := by
  rw [mv, hs]; simp only; rw [if_neg (by rw [hl]; decide)]
theorem cnt_mono {sl : List Sl} {k : Nat} : cnt (sl.take k) ≤ cnt sl := by
  have h := cnt_append (sl.take k) (sl.drop k)
  rw [List.take_append_drop] at h; omega
theorem cnt_lt {sl : List Sl} {k : Nat} {s : Sl} (hs : sl[k]? = some s) (hl : s.lv = true) : cnt (sl.take k) < cnt sl := by
  have h := cnt_take hs
  rw [if_pos hl] at h
  have := cnt_mono (sl := sl) (k := k + 1)
  omega
def moveE (l : Loc) (xs : List Int) : Int := if okB l = false then 1 else if xs.length ≠ cnt l.sl then 1 else if (0 : Int) ∈ xs then 1 else 0
def moveL (l : Loc) (xs : List Int) : Loc := if moveE l xs = 0 then ⟨mv l.sl xs l.sl.length, l.sc, l.is⟩ else loc0
theorem moveL_no {l : Loc} {xs : List Int} {e : Int} (h : moveE l xs = e) (he : e ≠ 0) : moveL l xs = loc0 := by unfold moveL; rw [if_neg (by omega)]
theorem flat_set1 {sl : List Sl} {k : Nat} {s : Sl} (x : Int) (hs : sl[k]? = some s) : (sl.flatMap slC).set (k * 3 + 1) (.int .u64 x) = (sl.set k ⟨s.st, x, s.lv⟩).flatMap slC := by
  have hk := (List.getElem?_eq_some_iff.1 hs).1
  rw [← flat_set3 slC slC_len ⟨s.st, x, s.lv⟩ rfl sl k hk]
  have h0 := flat_at slC 3 slC_len sl k s 0 (by decide) hs
  have h2 := flat_at slC 3 slC_len sl k s 2 (by decide) hs
  apply List.ext_getElem?
  intro i
  simp only [List.getElem?_set, List.length_set]
  have hl : (sl.flatMap slC).length = sl.length * 3 := flat_len slC 3 slC_len sl
  have hk3 : k * 3 + 2 < (sl.flatMap slC).length := by rw [hl]; omega
  by_cases e2 : k * 3 + 2 = i
  · subst e2
    rw [if_neg (by omega), if_pos rfl, if_pos hk3, h2]; rfl
  · rw [if_neg e2]
    by_cases e1 : k * 3 + 1 = i
    · rw [if_pos e1, if_pos e1]
    · rw [if_neg e1, if_neg e1]
      by_cases e0 : k * 3 = i
      · subst e0
        rw [if_pos rfl, if_pos (by omega)]
        rw [Nat.add_zero] at h0; rw [h0]; rfl
      · rw [if_neg e0]
theorem own_setRf {w : World} {base g n cap : Nat} {e : TypeId} {qs : List Sl} (h : w.ownsRow base e 3 (.slice (some ⟨g, 0, none⟩) n cap) n (qs.flatMap slC)) {k : Nat} {s : Sl} (hs : qs[k]? = some s) (x : Int) :
    (w.setCell ⟨g, k * 3 + 1, none⟩ (.int .u64 x)).ownsRow base e 3 (.slice (some ⟨g, 0, none⟩) n cap) n ((qs.set k ⟨s.st, x, s.lv⟩).flatMap slC) := by
  rw [← flat_set1 x hs]; exact (h.stored _ _).1

set_option maxRecDepth 100000 in
set_option maxHeartbeats 3200000 in
theorem scMove_any (pa : Option Addr) (na ca : Nat) (pb : Option Addr) (nb cb : Nat) (pc : Option Addr) (nc cc : Nat) (l : Loc) (pr : Option Addr) (nr cr : Nat) (xs : List Int) (w : World) (hr : LRow w pa na ca pb nb cb pc nc cc l) (hx : SRow w .u64 pr nr cr xs) :
    Calls Try.prog 31 #[.agg #[.slice pa na ca, .slice pb nb cb, .slice pc nc cc], .slice pr nr cr] w fun e w' => RetL (moveL l xs) (moveE l xs) e w' ∧ Below w.heap.size w w' := by
  have Hl := Lib.hid hr.lens
  obtain ⟨h63a, h63b, h63c⟩ := hr.i63
  have Hr := Lib.hid (fun w' (h : Below w.heap.size w w') => hr.keep h)
  have hv := Lib.hid (fun w h => scValid_any pa na ca pb nb cb pc nc cc l w h)
  have Hx := Lib.hid (fun w' (h : Below w.heap.size w w') => hx.keep h)
  have hct := Lib.hid (fun w h => countLive_any pa na ca l.sl w h)
  have hr63 := hx.i63.2
  have HxL := Lib.hid hx.len
  clear hr hx
  cases ho : okB l
  · have E : moveE l xs = 1 := by unfold moveE; rw [if_pos ho]
    rw [moveL_no E (by decide), E]
    rw [ho] at hv
    clear E ho
    go_enter Try.func31, Try.ntmps31
    go_wp2_with (((go_at_call 11; refine (hv.out _ (Hr.out _ (bthen below_box below_box))).mono ?_); rintro e w2 ⟨rfl, hb2⟩; (obtain ⟨hX, hY, hB2, hs2⟩ := start2 hb2); have HX := Lib.hid hX; have HY := Lib.hid hY; have HB := Lib.hid hB2; (obtain ⟨x0, x1, x2⟩ := own3c hX); (obtain ⟨y0, y1, y2, z0, z1, z2⟩ := own6 hY); clear hX hY hB2 hb2))
    exact bodyPost_ret (v := .tuple #[.agg #[.slice none 0 0, .slice none 0 0, .slice none 0 0], .int .i64 1]) (by simp [results, Try.results31, go_sem, y0, y1, y2]) rfl ⟨RetL.zero _ _, ((HB.out.setCell (by simp) _).setCell (by simp) _).setCell (by simp) _⟩
  · rw [ho] at hv
    have hnot : ¬ okB l = false := by rw [ho]; decide
    obtain ⟨k1, k2, k3⟩ := lens_ok ho
    have k4 := k1
    rw [Hl.out.1] at k1
    rw [Hl.out.2.1] at k2
    rw [Hl.out.2.2] at k3
    have hcl := cnt_le l.sl
    obtain ⟨C, hC⟩ : ∃ C, Hid (cnt l.sl = C) := ⟨_, rfl⟩
    rw [hC.out] at hct hcl
    by_cases h1 : nr = C
    · have hq1 : ((nr : Int) != (C : Int)) = false := by simp [h1]
      cases h2 : decide ((0 : Int) ∈ xs)
      · have E : moveE l xs = 0 := by unfold moveE; rw [if_neg hnot, if_neg (by rw [HxL.out, hC.out]; simp [h1]), if_neg (of_decide_eq_false h2)]
        have EL : moveL l xs = ⟨mv l.sl xs l.sl.length, l.sc, l.is⟩ := by unfold moveL; rw [if_pos E]
        rw [E, EL]
        have hco := Lib.hid (fun w h => contains_any pr nr cr xs 0 w h h2)
        have Hnr := Lib.hid h1
        clear E EL ho hnot h1 h2
        go_enter Try.func31, Try.ntmps31
        go_upto_region 4 with (first | ((go_at_call 11; refine (hv.out _ (Hr.out _ (bthen below_box below_box))).mono ?_); rintro e w2 ⟨rfl, hb2⟩; (obtain ⟨hX, hY, hB2, hs2⟩ := start2 hb2); have HX := Lib.hid hX; have HY := Lib.hid hY; have HB := Lib.hid hB2; (obtain ⟨x0, x1, x2⟩ := own3c hX); (obtain ⟨y0, y1, y2, z0, z1, z2⟩ := own6 hY); clear hX hY hB2 hb2) | ((go_at_call 47; refine (hct.out _ (Hr.out _ HB.out).sl).mono ?_); rintro e w2b ⟨rfl, hb2b⟩; have HXb := Lib.hid (HX.out.keep hb2b (by omega)); have HYb := Lib.hid (HY.out.keep hb2b (by omega)); have HBb := Lib.hid (bthen HB.out hb2b); have hs2b : w.heap.size + 2 ≤ w2b.heap.size := (by have := hb2b.size; omega); clear x0 x1 x2 y0 y1 y2 z0 z1 z2 hb2b; (obtain ⟨x0, x1, x2, xz0, xz1, xz2⟩ := own6 HXb.out); (obtain ⟨y0, y1, y2, z0, z1, z2⟩ := own6 HYb.out)) | ((go_at_call 48; refine (hco.out _ (Hx.out _ HBb.out)).mono ?_); rintro e w2c ⟨rfl, hb2c⟩; cases hb2c) | ((go_at_call 45; refine (owned_any _ _ _ _ _ _ _ _ _ _ _ (Hr.out _ HBb.out) (by omega) (by omega) (by omega)).mono ?_); rintro e w3 ⟨⟨q1, c1, q2, c2, q3, c3, rfl, hO⟩, hb3⟩; have HO := Lib.hid hO; have HX3 := Lib.hid (HXb.out.keep hb3 (by omega)); have HY3 := Lib.hid (HYb.out.keep hb3 (by omega)); have HB3 := Lib.hid (HBb.out.trans (hb3.mono HBb.out.size)); have hs3 := hb3.size; clear x0 x1 x2 xz0 xz1 xz2 y0 y1 y2 z0 z1 z2 hO hb3; (obtain ⟨x0, x1, x2, u0, u1, u2⟩ := own6 HX3.out); (obtain ⟨y0, y1, y2, z0, z1, z2⟩ := own6 HY3.out)))
        obtain ⟨w4, hw4⟩ : ∃ w4, ((w3.setCell ⟨w.heap.size, 0, none⟩ (.slice q1 l.sl.length c1)).setCell ⟨w.heap.size, 1, none⟩ (.slice q2 l.sc.length c2)).setCell ⟨w.heap.size, 2, none⟩ (.slice q3 l.is.length c3) = w4 := ⟨_, rfl⟩
        have HX4 := Lib.hid (show OwnL w4 w.heap.size [.slice q1 l.sl.length c1, .slice q2 l.sc.length c2, .slice q3 l.is.length c3] from by rw [← hw4]; exact set3_own HX3.out)
        have HY4 := Lib.hid (show OwnL w4 (w.heap.size + 1) [.slice none 0 0, .slice none 0 0, .slice none 0 0] from by rw [← hw4]; exact set3_other HY3.out (by omega))
        have HO4 := Lib.hid (show OwnLoc w4 w2b.heap.size q1 l.sl.length c1 q2 l.sc.length c2 q3 l.is.length c3 l from by rw [← hw4]; exact set3_loc HO.out (by omega))
        have HB4 := Lib.hid (show Below w.heap.size w w4 from by rw [← hw4]; exact set3_below HB3.out (Nat.le_refl _))
        have hs4 : w2b.heap.size ≤ w4.heap.size := by rw [← hw4, set3_size]; exact hs3
        rw [hw4]
        clear hw4 HO HX3 HY3 HB3 HXb HYb HBb HX HY HB hs3 x0 x1 x2 u0 u1 u2 y0 y1 y2 z0 z1 z2
        obtain ⟨x0, x1, x2, u0, u1, u2⟩ := own6 HX4.out
        obtain ⟨y0, y1, y2, z0, z1, z2⟩ := own6 HY4.out
        go_wp2
        go_loopw [6, 29] (fun nx i wr => ∃ k m : Nat, k ≤ l.sl.length ∧ m = cnt (l.sl.take k) ∧ m ≤ k ∧ nx = .int .i64 m ∧ i = .int .i64 k ∧ OwnLoc wr w2b.heap.size q1 l.sl.length c1 q2 l.sc.length c2 q3 l.is.length c3 ⟨mv l.sl xs k, l.sc, l.is⟩ ∧ OwnL wr w.heap.size [.slice q1 l.sl.length c1, .slice q2 l.sc.length c2, .slice q3 l.is.length c3] ∧ OwnL wr (w.heap.size + 1) [.slice none 0 0, .slice none 0 0, .slice none 0 0] ∧ Below w.heap.size w wr) (fun _ i _ => l.sl.length - (intOf i).toNat)
        case atStart => exact ⟨0, 0, by omega, by simp [cnt], by omega, rfl, rfl, HO4.out, HX4.out, HY4.out, HB4.out⟩
        case round =>
          clear x0 x1 x2 u0 u1 u2 y0 y1 y2 z0 z1 z2 HO4 HX4 HY4 HB4
          obtain ⟨k, m, hk, hm, hmk, rfl, rfl, hO, hX, hY, hB⟩ := hrel
          have HX4 := Lib.hid hX
          have HY4 := Lib.hid hY
          have HB4 := Lib.hid hB
          have Hm := Lib.hid hm
          clear hX hY hB hm
          obtain ⟨x0, x1, x2, u0, u1, u2⟩ := own6 HX4.out
          obtain ⟨y0, y1, y2, z0, z1, z2⟩ := own6 HY4.out
          by_cases hlt : k < l.sl.length
          · have hlt2 : (k : Int) < l.sl.length := by omega
            have hsl : l.sl[k]? = some (l.sl[k]'hlt) := List.getElem?_eq_getElem _
            obtain ⟨s, hs⟩ : ∃ s, s = l.sl[k]'hlt := ⟨_, rfl⟩
            rw [← hs] at hsl
            have hmk2 : (mv l.sl xs k)[k]? = some s := (mv_ge _ _ _ _ (Nat.le_refl _)).trans hsl
            have hq := hO.a
            obtain ⟨g, c4, he, hg, hlg⟩ := World.ownsRow.form hq (by omega)
            cases he
            obtain ⟨⟨r0, r1, r2⟩, s0, s1, s2⟩ := own_slot hq hmk2
            have hgb : g ≠ w.heap.size := by omega
            have hgb1 : g ≠ w.heap.size + 1 := by omega
            have HO4 := Lib.hid hO
            have HSl := Lib.hid hsl
            have HMk := Lib.hid hmk2
            clear hq hO hs hsl hmk2
            cases hv2 : s.lv
            · rw [hv2] at r2
              have HT := Lib.hid (cnt_take HSl.out)
              rw [hv2] at HT
              have HD := Lib.hid (mv_dead (xs := xs) HSl.out hv2)
              clear hv2
              go_wp2
              go_roundw
              case rel => exact ⟨k + 1, m, by omega, by rw [HT.out, Hm.out]; simp, by omega, rfl, by go_num, by rw [HD.out]; exact HO4.out, HX4.out, HY4.out, HB4.out⟩
              case measure => simp [intOf]; omega
            · have hmC := cnt_lt HSl.out hv2
              rw [← Hm.out, hC.out, ← Hnr.out] at hmC
              obtain ⟨x, b2, off2, hx2, rfl, c0⟩ := (Hx.out wr HB4.out).at_ hmC
              have hmC2 : (m : Int) < nr := by omega
              have hm0 : (0 : Int) ≤ m := Int.natCast_nonneg _
              have hk0 : (0 : Int) ≤ k := Int.natCast_nonneg _
              rw [hv2] at r2
              have HT := Lib.hid (cnt_take HSl.out)
              rw [hv2] at HT
              have HLv := Lib.hid (mv_live HSl.out hv2 (by rw [← Hm.out]; exact hx2))
              have Hv2 := Lib.hid hv2
              have HOn := Lib.hid (show OwnLoc (wr.setCell ⟨g, k * 3 + 1, none⟩ (.int .u64 x)) w2b.heap.size (some ⟨g, 0, none⟩) l.sl.length c1 q2 l.sc.length c2 q3 l.is.length c3 ⟨mv l.sl xs (k + 1), l.sc, l.is⟩ from
                ⟨by rw [HLv.out, ← Hv2.out]; exact own_setRf HO4.out.a HMk.out x, own_cell HO4.out.b _ _ (HO4.out.ab g rfl), own_cell HO4.out.c _ _ (HO4.out.ac g rfl), HO4.out.ab, HO4.out.ac, HO4.out.bc⟩)
              clear hv2 hx2
              go_wp2
              go_region
              go_wp2
              go_roundw
              case rel => exact ⟨k + 1, m + 1, by omega, by rw [HT.out, ← Hm.out]; simp, by omega, by go_num, by go_num, HOn.out.keep (Below.drew (Below.refl _ _)), (HX4.out.other _ _ hgb).keep (Below.drew (Below.refl _ _)) (by have := cell_lt x0; simpa using this), (HY4.out.other _ _ hgb1).keep (Below.drew (Below.refl _ _)) (by have := cell_lt y0; simpa using this), (HB4.out.setCell (p := ⟨g, k * 3 + 1, none⟩) (by simp; omega) _).drew⟩
              case measure => simp [intOf]; omega
          · obtain rfl : k = l.sl.length := by omega
            have HO4 := Lib.hid hO
            clear hO
            go_wp2
            exact bodyPost_ret (v := .tuple #[.agg #[.slice q1 l.sl.length c1, .slice q2 l.sc.length c2, .slice q3 l.is.length c3], .int .i64 0]) (by simp [results, Try.results31, go_sem, y0, y1, y2]) rfl ⟨⟨q1, _, c1, q2, _, c2, q3, _, c3, rfl, (set3_loc HO4.out (by omega)).row⟩, set3_below HB4.out (by omega)⟩
      · have E : moveE l xs = 1 := by unfold moveE; rw [if_neg hnot, if_neg (by rw [HxL.out, hC.out]; simp [h1]), if_pos (of_decide_eq_true h2)]
        rw [moveL_no E (by decide), E]
        have hco := Lib.hid (fun w h => contains_any pr nr cr xs 0 w h h2)
        clear E ho hnot h1 h2
        go_enter Try.func31, Try.ntmps31
        go_wp2_with (first | ((go_at_call 11; refine (hv.out _ (Hr.out _ (bthen below_box below_box))).mono ?_); rintro e w2 ⟨rfl, hb2⟩; (obtain ⟨hX, hY, hB2, hs2⟩ := start2 hb2); have HX := Lib.hid hX; have HY := Lib.hid hY; have HB := Lib.hid hB2; (obtain ⟨x0, x1, x2⟩ := own3c hX); (obtain ⟨y0, y1, y2, z0, z1, z2⟩ := own6 hY); clear hX hY hB2 hb2) | ((go_at_call 47; refine (hct.out _ (Hr.out _ HB.out).sl).mono ?_); rintro e w2b ⟨rfl, hb2b⟩; have HXb := Lib.hid (HX.out.keep hb2b (by omega)); have HYb := Lib.hid (HY.out.keep hb2b (by omega)); have HBb := Lib.hid (bthen HB.out hb2b); have hs2b : w.heap.size + 2 ≤ w2b.heap.size := (by have := hb2b.size; omega); clear x0 x1 x2 y0 y1 y2 z0 z1 z2 hb2b; (obtain ⟨x0, x1, x2, xz0, xz1, xz2⟩ := own6 HXb.out); (obtain ⟨y0, y1, y2, z0, z1, z2⟩ := own6 HYb.out)) | ((go_at_call 48; refine (hco.out _ (Hx.out _ HBb.out)).mono ?_); rintro e w2c ⟨rfl, hb2c⟩; cases hb2c))
        exact bodyPost_ret (v := .tuple #[.agg #[.slice none 0 0, .slice none 0 0, .slice none 0 0], .int .i64 1]) (by simp [results, Try.results31, go_sem, y0, y1, y2]) rfl ⟨RetL.zero _ _, ((HBb.out.setCell (by simp) _).setCell (by simp) _).setCell (by simp) _⟩
    · have hq1 : ((nr : Int) != (C : Int)) = true := bne_iff_ne.2 (by omega)
      have E : moveE l xs = 1 := by unfold moveE; rw [if_neg hnot, if_pos (by rw [HxL.out, hC.out]; exact h1)]
      rw [moveL_no E (by decide), E]
      clear E ho hnot h1
      go_enter Try.func31, Try.ntmps31
      go_wp2_with (first | ((go_at_call 11; refine (hv.out _ (Hr.out _ (bthen below_box below_box))).mono ?_); rintro e w2 ⟨rfl, hb2⟩; (obtain ⟨hX, hY, hB2, hs2⟩ := start2 hb2); have HX := Lib.hid hX; have HY := Lib.hid hY; have HB := Lib.hid hB2; (obtain ⟨x0, x1, x2⟩ := own3c hX); (obtain ⟨y0, y1, y2, z0, z1, z2⟩ := own6 hY); clear hX hY hB2 hb2) | ((go_at_call 47; refine (hct.out _ (Hr.out _ HB.out).sl).mono ?_); rintro e w2b ⟨rfl, hb2b⟩; have HXb := Lib.hid (HX.out.keep hb2b (by omega)); have HYb := Lib.hid (HY.out.keep hb2b (by omega)); have HBb := Lib.hid (bthen HB.out hb2b); have hs2b : w.heap.size + 2 ≤ w2b.heap.size := (by have := hb2b.size; omega); clear x0 x1 x2 y0 y1 y2 z0 z1 z2 hb2b; (obtain ⟨x0, x1, x2, xz0, xz1, xz2⟩ := own6 HXb.out); (obtain ⟨y0, y1, y2, z0, z1, z2⟩ := own6 HYb.out)))
      exact bodyPost_ret (v := .tuple #[.agg #[.slice none 0 0, .slice none 0 0, .slice none 0 0], .int .i64 1]) (by simp [results, Try.results31, go_sem, y0, y1, y2]) rfl ⟨RetL.zero _ _, ((HBb.out.setCell (by simp) _).setCell (by simp) _).setCell (by simp) _⟩
end Go.Proofs.Ytjnpmfkkagchjaa
