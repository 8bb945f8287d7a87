/- The law BitsBack walked: Unpack undoes Pack, and Pack undoes Unpack. -/
import Derived.Test.YtmnfcepdmjondaaBitsI
import Derived.Deep.DeepCutAuto
namespace Go.Proofs.Ytmnfcepdmjondaa
open Go.RowKit

theorem fitL_split (fs : List (Int × Nat)) {left : Int} (h0 : left ≤ 64) (h : 0 ≤ left) (hf : fitL left (fs.map (·.1)) = true) (hok : okF fs = true) :
    uvals (packR fs) (fs.map (·.1)) = fs.map (fun f => (f.2 : Int)) ∧ packR fs >>> sumW (fs.map (·.1)) = 0 := by
  induction fs generalizing left with
  | nil => exact ⟨rfl, rfl⟩
  | cons f r ih =>
    rw [List.map_cons] at hf
    obtain ⟨h1, h2, h3⟩ := fitL_cons hf
    simp only [okF, List.all_cons, Bool.and_eq_true, decide_eq_true_eq] at hok
    obtain ⟨i1, i2⟩ := ih (by omega) (by omega) h3 hok.2
    have hv := lt_pow_of_ones (by omega) hok.1
    have e1 : packR (f :: r) >>> f.1.toNat = packR r := by
      rw [packR, ← Nat.shiftLeft_add_eq_or_of_lt hv, Nat.shiftRight_eq_div_pow, Nat.shiftLeft_eq, Nat.mul_comm, Nat.mul_add_div (pow_pos2 _), Nat.div_eq_of_lt hv, Nat.add_zero]
    have e2 : packR (f :: r) &&& onesN f.1 = f.2 := by
      rw [and_ones, show min f.1.toNat 64 = f.1.toNat from by omega, packR, ← Nat.shiftLeft_add_eq_or_of_lt hv, Nat.shiftLeft_eq, Nat.mul_comm, Nat.mul_add_mod, Nat.mod_eq_of_lt hv]
    constructor
    · rw [List.map_cons, uvals, e1, e2, i1, List.map_cons]
    · rw [List.map_cons, sumW, Nat.shiftRight_add, e1, i2]

/-- Widths and numbers as fields. -/
def zipF : List Int → List Int → List (Int × Nat)
  | a :: r, v :: s => (a, v.toNat) :: zipF r s
  | _, _ => []
theorem zip_back (ws : List Int) : ∀ (x : Nat) {left : Int}, left ≤ 64 → 0 ≤ left → fitL left ws = true → x >>> sumW ws = 0 →
    (zipF ws (uvals x ws)).map (·.1) = ws ∧ okF (zipF ws (uvals x ws)) = true ∧ packR (zipF ws (uvals x ws)) = x := by
  induction ws with
  | nil => intro x left _ _ _ h; rw [sumW, Nat.shiftRight_zero] at h; subst h; exact ⟨rfl, rfl, rfl⟩
  | cons a r ih =>
    intro x left h0 h hf hx
    obtain ⟨h1, h2, h3⟩ := fitL_cons hf
    rw [sumW, Nat.shiftRight_add] at hx
    obtain ⟨i1, i2, i3⟩ := ih (x >>> a.toNat) (by omega) (by omega) h3 hx
    have hlt : x &&& onesN a < 2 ^ a.toNat := by
      rw [and_ones, show min a.toNat 64 = a.toNat from by omega]; exact Nat.mod_lt _ (pow_pos2 _)
    rw [uvals, zipF]
    refine ⟨by rw [List.map_cons, i1], ?_, ?_⟩
    · simp only [okF, List.all_cons, Bool.and_eq_true, decide_eq_true_eq]
      refine ⟨?_, i2⟩
      rw [Int.toNat_natCast, le_ones_iff, Nat.and_assoc, Nat.and_self]
    · rw [packR, i3, Int.toNat_natCast, ← Nat.shiftLeft_add_eq_or_of_lt hlt, and_ones, show min a.toNat 64 = a.toNat from by omega, Nat.shiftRight_eq_div_pow, Nat.shiftLeft_eq]
      exact Nat.div_add_mod' x (2 ^ a.toNat)

theorem uvals_nonneg (ws : List Int) : ∀ x, ∀ v ∈ uvals x ws, 0 ≤ v := by
  induction ws with
  | nil => intro x v h; cases h
  | cons a r ih =>
    intro x v h
    rw [uvals] at h
    rcases List.mem_cons.1 h with rfl | h
    · exact Int.natCast_nonneg _
    · exact ih _ v h
theorem zipF_get : ∀ (ws us : List Int), (∀ v ∈ us, 0 ≤ v) → ∀ (k : Nat) (z : Int × Nat), (zipF ws us)[k]? = some z → ws[k]? = some z.1 ∧ us[k]? = some (z.2 : Int)
  | [], _, _, k, z, h => by simp [zipF] at h
  | _ :: _, [], _, k, z, h => by simp [zipF] at h
  | a :: r, v :: s, hn, k, z, h => by
    rw [zipF] at h
    cases k with
    | zero =>
      simp at h
      subst h
      have := hn v (List.mem_cons_self)
      simp; omega
    | succ k =>
      rw [List.getElem?_cons_succ] at h
      have := zipF_get r s (fun u hu => hn u (List.mem_cons_of_mem _ hu)) k z h
      simpa using this

theorem back_ok {fs : List (Int × Nat)} {pv : Int} (h : packB fs = (pv, 0)) : ∃ v : Nat, pv = (v : Int) ∧ v < 18446744073709551616 ∧ unpE v (fs.map (·.1)) = 0 ∧ unpV v (fs.map (·.1)) = fs.map (fun f => (f.2 : Int)) := by
  by_cases hf : fitL 64 (fs.map (·.1)) = true
  · by_cases hok : okF fs = true
    · rw [packB_ok hf hok] at h
      injection h with h1 h2
      obtain ⟨e1, e2⟩ := fitL_split fs (by omega) (by omega) hf hok
      obtain ⟨E, V⟩ := unp_ok hf e2
      have hl := packR_lt fs hok (fits_all hf 0).1
      have h64 := pow_le64 _ (fits_all hf 0).2
      exact ⟨packR fs, h1.symm, Nat.lt_of_lt_of_le hl h64, E, by rw [V.out, e1]⟩
    · rw [packB_bad hf (by simpa using hok)] at h; injection h with _ h2; cases h2
  · rw [packB_no hf] at h; injection h with _ h2; cases h2
theorem forth_ok {x : Nat} {ws : List Int} (h : unpE x ws = 0) : unpV x ws = uvals x ws ∧ (zipF ws (uvals x ws)).length = ws.length ∧ packB (zipF ws (uvals x ws)) = ((x : Int), 0) := by
  by_cases hf : fitL 64 ws = true
  · by_cases hz : x >>> sumW ws = 0
    · obtain ⟨E, V⟩ := unp_ok hf hz
      obtain ⟨h1, h2, h3⟩ := zip_back ws x (left := 64) (by omega) (by omega) hf hz
      refine ⟨V.out, ?_, ?_⟩
      · have := congrArg List.length h1; rw [List.length_map] at this; exact this
      · rw [packB_ok (by rw [h1]; exact hf) h2, h3]
    · obtain ⟨E, V⟩ := unp_bad hf hz; rw [E.out] at h; cases h
  · obtain ⟨E, V⟩ := unp_no (x := x) hf; rw [E.out] at h; cases h

set_option maxRecDepth 100000 in
set_option maxHeartbeats 1600000 in
theorem lawBack (p : Option Addr) (n cap : Nat) (fs : List (Int × Nat)) (x : Nat) (w : World) (hlen : Hid (fs.length = n)) (hn : (n : Int) ≤ 9223372036854775807) (hx : x < 18446744073709551616) (hr : FRow w p fs) :
    Calls Try.prog 8 #[.slice p n cap, .int .u64 x] w fun e w' => e = .returned (.bool true) ∧ Below w.heap.size w w' := by
  have hr1 := Lib.hid hr
  clear hr
  by_cases hlt : (100 : Int) < n
  · go_enter Try.func8, Try.ntmps8
    go_wp2
    go_ret
    exact ⟨rfl, Below.refl _ _⟩
  · have hn2 : n ≤ 100000 := by omega
    obtain ⟨i0, hi, hz0, hz1, hz2⟩ := info_parts infoInt
    obtain ⟨ws, hws⟩ : ∃ ws, Hid (ws = fs.map (·.1)) := ⟨_, rfl⟩
    obtain ⟨pv, pe, hpb⟩ : ∃ pv pe, Hid (packB fs = (pv, pe)) := ⟨_, _, rfl⟩
    go_enter Try.func8, Try.ntmps8
    go_wp2
    go_loopw [5, 6] (fun v i wr => ∃ (k : Nat), k ≤ n ∧ wr.ownsRow w.heap.size 3 1 v k (ivals .i64 (ws.take k)) ∧ i = .int .i64 k ∧ Below w.heap.size w wr) (fun _ i _ => n - (intOf i).toNat)
    case atStart => exact ⟨0, by omega, World.ownsRow_nil _ _ _ _, rfl, Below.refl _ _⟩
    case round =>
      obtain ⟨k, hk, hown, rfl, hb⟩ := hrel
      have hsz := hb.size
      by_cases hlt : k < n
      · obtain ⟨y, hy⟩ : ∃ x, fs[k]? = some x := ⟨_, List.getElem?_eq_getElem (by rw [hlen.out]; exact hlt)⟩
        obtain ⟨b, off, rfl, c1, c2⟩ := hr1.out.keep hb _ y hy
        have Hx := Lib.hid (show ws[k]? = some y.1 by rw [hws.out, List.getElem?_map, hy]; rfl)
        clear hy
        go_wp2_with (at_builtin; refine wpList_append_own _ rfl _ _ 39 rfl w.heap.size 3 i0 (.int .i64 0) 1 8 Try.underlying39 hi hz0 hz1 hz2 rfl (by decide) _ _ _ rfl (hown.alloc _) ⟨wr.heap.size, 0, none⟩ 1 1 [.int .i64 y.1] rfl rfl ?c1 ?c2 ?c3 ?c4 ?c5 ?_)
        case c1 => exact cell_one_new _ _ _
        case c2 => simp [Value.oneCell']
        case c3 => unfold maxLen; omega
        case c4 => omega
        case c5 => simp; omega
        intro v' w1 hown1 hgrow1 _
        have hb1 := below_append hb hown hgrow1
        have hown2 := Lib.hid (own_append hown1 Hx.out)
        clear hown1 hgrow1 hown
        go_wp2
        go_roundw
        case rel => exact ⟨k + 1, by omega, hown2.out, by go_num, hb1⟩
        case measure => simp [intOf]; omega
      · obtain rfl : n = k := by omega
        have hwl : ws.length = n := by rw [hws.out, List.length_map]; exact hlen.out
        rw [List.take_of_length_le (by omega)] at hown
        obtain ⟨q, c, rfl, _, hrow⟩ := IRow.of_own hown
        have Hrow := Lib.hid hrow
        have Hwl := Lib.hid hwl
        have hr2 := Lib.hid (hr1.out.keep hb)
        clear hown hrow hwl
        go_wp2_with fail
        refine (fields_any p n cap fs _ hlen hn2 hr2.out).mono ?_
        rintro e w1 ⟨⟨q1, c1, rfl, hq⟩, hb1⟩
        have hb01 := hb.trans (hb1.mono hb.size)
        go_wp2_with fail
        refine (pack_any q1 n c1 fs _ hlen hn hq).mono ?_
        rw [hpb.out]
        rintro e w2 ⟨rfl, hb2⟩
        have hb02 := hb01.trans (hb2.mono hb01.size)
        have Hrow2 := Lib.hid ((Hrow.out.keep hb1).keep hb2)
        have hr3 := Lib.hid (hr1.out.keep hb02)
        clear hq hb hb1 hb2 hb01 Hrow hr2
        go_upto_if 42 with fail
        go_cut [11] (fun _ wc => Below w2.heap.size w2 wc)
        case first =>
          by_cases hpe : pe = 0
          · subst hpe
            obtain ⟨v, rfl, hv, hE, hV⟩ := back_ok hpb.out
            rw [← hws.out] at hE hV
            have Hup := Lib.hid (unpack_any v q n c ws w2 hv Hwl hn2 Hrow2.out)
            rw [hE, hV] at Hup
            clear hE hV
            go_wp2_with fail
            refine Hup.out.mono ?_
            rintro e w3 ⟨⟨q2, m2, c2, rfl, hm2, hq2⟩, hb3⟩
            obtain rfl : m2 = n := by rw [List.length_map, hlen.out] at hm2; exact hm2.symm
            have Hq2 := Lib.hid hq2
            have hr4 := Lib.hid (hr3.out.keep hb3)
            clear hq2 hm2 Hup
            go_wp2_with fail
            go_loopw [11] (fun i wr => ∃ (k : Nat), k ≤ m2 ∧ i = .int .i64 k ∧ Drawn w3 wr) (fun i _ => m2 - (intOf i).toNat)
            case atStart => exact ⟨0, by omega, rfl, Drawn.refl _⟩
            case round =>
              obtain ⟨k, hk, rfl, hd⟩ := hrel
              by_cases hlt : k < m2
              · obtain ⟨y, hy⟩ : ∃ y, fs[k]? = some y := ⟨_, List.getElem?_eq_getElem (by rw [hlen.out]; exact hlt)⟩
                obtain ⟨b, off, rfl, d1, d2⟩ := hr4.out.keep (hd.below _) _ y hy
                obtain ⟨b', off', rfl, d3⟩ := Hq2.out.keep (hd.below _) k (y.2 : Int) (by rw [List.getElem?_map, hy]; rfl)
                have hlt2 : (k : Int) < m2 := by omega
                clear hy
                go_wp2
                go_quiet (fail)
                go_wp2
                go_roundw
                case rel => exact ⟨k + 1, by omega, by go_num, hd.step _⟩
                case measure => simp [intOf]; omega
              · go_wp2
                go_meet
                case rel => exact hb3.trans (hd.below _)
          · have hpe' : (pe == 0) = false := by rw [beq_eq_false_iff_ne]; exact hpe
            clear hpe
            go_wp2_with fail
            go_meet
            case rel => exact Below.refl _ _
        case rest =>
          have hb0 := hb02.trans (hcut.mono hb02.size)
          have Hrow3 := Lib.hid (Hrow2.out.keep hcut)
          clear hcut hb02 Hrow2 hr3 hr1
          have Hup := Lib.hid (unpack_any x q n c ws wc hx Hwl hn2 Hrow3.out)
          by_cases hE : unpE x ws = 0
          · obtain ⟨hV, hzl, hpk⟩ := forth_ok hE
            rw [hE, hV] at Hup
            have Hpk := Lib.hid hpk
            have Hzl := Lib.hid hzl
            clear hE hV hpk hzl
            go_wp2_with fail
            refine Hup.out.mono ?_
            rintro e w3 ⟨⟨q2, m2, c2, rfl, hm2, hq2⟩, hb3⟩
            obtain rfl : m2 = n := by rw [uvals_len, Hwl.out] at hm2; exact hm2.symm
            have Hq2 := Lib.hid hq2
            have hb03 := hb0.trans (hb3.mono hb0.size)
            clear hq2 hm2 Hup
            go_wp2_with fail
            obtain ⟨Z, hZ⟩ : ∃ Z, Hid (Z = zipF ws (uvals x ws)) := ⟨_, rfl⟩
            rw [← hZ.out] at Hpk Hzl
            have hnn := Lib.hid (uvals_nonneg ws x)
            obtain ⟨j0, hj, hy0, hy1, hy2⟩ := info_parts infoField
            go_loopw [14, 15] (fun v i wr => ∃ (k : Nat), k ≤ m2 ∧ wr.ownsRow w3.heap.size 47 2 v k (fvals (Z.take k)) ∧ i = .int .i64 k ∧ Below w3.heap.size w3 wr) (fun _ i _ => m2 - (intOf i).toNat)
            case atStart => exact ⟨0, by omega, World.ownsRow_nil _ _ _ _, rfl, Below.refl _ _⟩
            case round =>
              obtain ⟨k, hk, hown, rfl, hb⟩ := hrel
              have hsz := hb.size
              by_cases hlt : k < m2
              · obtain ⟨z, hz⟩ : ∃ z, Z[k]? = some z := ⟨_, List.getElem?_eq_getElem (by rw [Hzl.out, Hwl.out]; exact hlt)⟩
                obtain ⟨g1, g2⟩ := zipF_get ws (uvals x ws) hnn.out k z (by rw [← hZ.out]; exact hz)
                obtain ⟨b, off, rfl, d1⟩ := (Hrow3.out.keep hb3) k z.1 g1
                obtain ⟨b', off', rfl, d2⟩ := Hq2.out k z.2 g2
                have hbw := cell_lt d1
                have hbw' := cell_lt d2
                have c1 := cell_keep hb d1
                have c2 := cell_keep hb d2
                have hne : u14.ownBlock ≠ some b := fun e => by have := (hown.lt b e).1; simp at hbw; omega
                have hne' : u14.ownBlock ≠ some b' := fun e => by have := (hown.lt b' e).1; simp at hbw'; omega
                have Hz := Lib.hid hz
                clear hz g1 g2 d1 d2
                have hk0 : (0 : Int) ≤ (k : Int) := Int.natCast_nonneg _
                have hlt2 : (k : Int) < m2 := by omega
                have lb := cell_lt c1
                have lb' := cell_lt c2
                go_wp2_with fail
                go_region_held3 (fun w' => w'.cell? ⟨b, off + k, none⟩ = some (.int .i64 z.1) ∧ w'.cell? ⟨b', off' + k, none⟩ = some (.int .u64 z.2))
                  (first
                    | go_keep
                    | (go_split_ands
                       refine ⟨?_, ?_⟩
                       · (rw [hgrow.cell_far _ (by simp; omega) (Ne.symm hne)]; assumption)
                       · (rw [hgrow.cell_far _ (by simp; omega) (Ne.symm hne')]; assumption)))
                  ((refine step_append_lies _ (by rfl) _ _ _ (by rfl) w3.heap.size 47 j0 _ 2 16 Try.underlying35 hj hy0 hy1 hy2 rfl (by omega) u14 k (fvals (Z.take k)) (by rfl) ((hown.alloc _).drew)
                      ⟨wr.heap.size, 0, none⟩ 1 1 [.int .i64 z.1, .int .u64 z.2] (by rfl) (by rfl) (World.news_of_block (cs := #[.int .i64 z.1, .int .u64 z.2]) (t := 47) (fr := (0, 0)) (heap_alloc_new wr _)) (by simp [Value.oneCell'])
                      (by omega) (by unfold maxLen; omega) (by omega) (by simp; omega) (wr.heap.size + 1) (by simp) ?_; intro gg cap w1 hown1 hgrow hat hlt))
                have hb1 := below_appendD hb hown hgrow
                have hown2 := Lib.hid (own_appendF hown1 Hz.out)
                clear hown1 hgrow hown hat hlt
                go_wp2
                go_roundw
                case rel => exact ⟨k + 1, by omega, hown2.out, by go_num, hb1⟩
                case measure => simp [intOf]; omega
              · obtain rfl : m2 = k := by omega
                rw [List.take_of_length_le (by rw [Hzl.out, Hwl.out]; exact Nat.le_refl _)] at hown
                obtain ⟨q4, c4, rfl, hl4, hrow4⟩ := FRow.of_own hown
                have Hp := Lib.hid (pack_any q4 m2 c4 Z wr hl4 (by omega) hrow4)
                rw [Hpk.out] at Hp
                have hb04 := hb03.trans (hb.mono hb03.size)
                clear hown hl4 hrow4
                go_wp2_with fail
                refine Hp.out.mono ?_
                rintro e w5 ⟨rfl, hb5⟩
                have hb05 := hb04.trans (hb5.mono hb04.size)
                go_wp2_with fail
                refine (awake_any _).mono ?_
                rintro e w6 ⟨rfl, hb6⟩
                go_wp2
                go_ret
                exact ⟨rfl, hb05.trans (hb6.mono hb05.size)⟩
          · have hE' : (unpE x ws != 0) = true := by rw [bne_iff_ne]; exact hE
            clear hE
            go_wp2_with fail
            refine Hup.out.mono ?_
            rintro e w3 ⟨⟨q2, m2, c2, rfl, hm2, hq2⟩, hb3⟩
            have hb03 := hb0.trans (hb3.mono hb0.size)
            clear hq2 hm2 Hup
            go_wp2_with fail
            refine (awake_any _).mono ?_
            rintro e w4 ⟨rfl, hb4⟩
            go_wp2
            go_ret
            exact ⟨rfl, hb03.trans (hb4.mono hb03.size)⟩
end Go.Proofs.Ytmnfcepdmjondaa
