/- The law ScopeCapacity of layer 14. -/
import Derived.Test.YtjnpmfkkagchjaaScS
import Derived.Test.YtjnpmfkkagchjaaScO
set_option linter.unusedVariables false
set_option linter.unusedSimpArgs false
namespace Go.Proofs.Ytjnpmfkkagchjaa
open Go.RowKit

/-- One scope of n handles, m of them made. -/
def full (n m : Nat) : Loc := ⟨(List.range m).map (fun (i : Nat) => (⟨(i : Int) + 1, (i : Int) + 1, true⟩ : Sl)), [⟨0, n, true⟩], (List.range m).map (fun (i : Nat) => (i : Int))⟩
theorem full_len (n m : Nat) : (full n m).sl.length = m ∧ (full n m).sc.length = 1 ∧ (full n m).is.length = m := by simp [full]
theorem full_at {n m k : Nat} (h : k < m) : (full n m).sl[k]? = some ⟨(k : Int) + 1, (k : Int) + 1, true⟩ := by simp [full, h]
theorem full_is {n m k : Nat} (h : k < m) : (full n m).is[k]? = some (k : Int) := by simp [full, h]
theorem cnt_live : ∀ l : List Sl, (∀ s ∈ l, s.lv = true) → cnt l = l.length
  | [], _ => rfl
  | s :: r, h => by rw [cnt, if_pos (h s (by simp)), cnt_live r fun t ht => h t (by simp [ht]), List.length_cons]
theorem full_cnt (n m : Nat) : cnt (full n m).sl = m := by
  rw [cnt_live _ fun s hs => by simp [full] at hs; obtain ⟨i, _, rfl⟩ := hs; rfl, (full_len n m).1]
theorem part_all (sl : List Sl) (k : Nat) (h : sl.length = k) : part sl 0 k = sl := by
  unfold part; simp [← h]
theorem full_room {n m : Nat} {ref : Int} (ho : okB (full n m) = true) (hr : ref ≠ 0) (hm : m ≤ n) (hn : n ≤ 64) : roomV (full n m) ref = if m = n then 10 else 0 := by
  rw [roomV_c (s := ⟨0, n, true⟩) ho hr (by simp [full]), (full_len n m).1, (full_len n m).2.2, part_all _ _ (full_len n m).1, full_cnt]
  by_cases h : m = n
  · rw [if_pos h, if_pos (by simp [h])]
  · rw [if_neg h, if_neg (by simp; omega), if_neg (by omega)]
theorem full_zero (n : Nat) (hn : n ≤ 64) : openE loc0 n true = 0 ∧ openL loc0 n true = full n 0 := by
  have h1 : okB loc0 = true := by decide +kernel
  have h2 : capB (n : Int) = true := capB_iff.2 ⟨by omega, by omega⟩
  have e : openE loc0 n true = 0 := by unfold openE; rw [h1, h2]; simp [loc0]
  exact ⟨e, by unfold openL; rw [if_pos e]; simp [loc0, full]⟩
theorem full_new {n m : Nat} (ho : okB (full n m) = true) (hm : m < n) (hn : n ≤ 64) : roomV (full n m) (m + 1) = 0 ∧ newL (full n m) (m + 1) = full n (m + 1) ∧ newI (full n m) (m + 1) = m ∧ newS (full n m) (m + 1) = m + 1 := by
  have h0 : roomV (full n m) (m + 1) = 0 := by rw [full_room ho (by omega) (by omega) hn, if_neg (by omega)]
  refine ⟨h0, ?_, by unfold newI; rw [if_pos h0, (full_len n m).1], by unfold newS; rw [if_pos h0, (full_len n m).2.2]⟩
  unfold newL
  rw [if_pos h0, (full_len n m).1, (full_len n m).2.2]
  simp [full, List.range_succ]
theorem full_ok {n : Nat} (hn : n ≤ 64) : ∀ m, m ≤ n → okB (full n m) = true
  | 0, _ => by rw [← (full_zero n hn).2]; exact open_ok (full_zero n hn).1
  | m + 1, h => by
    have ih := full_ok hn m (by omega)
    obtain ⟨h0, h1, _⟩ := full_new ih (by omega) hn
    rw [← h1]; exact new_ok h0
theorem cnt_dead : ∀ (l : List Sl) (j : Nat) (s : Sl) (st rf : Int), l[j]? = some s → s.lv = true → cnt (l.set j ⟨st, rf, false⟩) + 1 = cnt l
  | [], j, s, st, rf, h, _ => by simp at h
  | x :: r, 0, s, st, rf, h, hl => by simp at h; subst h; simp [cnt, hl]
  | x :: r, j + 1, s, st, rf, h, hl => by
    have := cnt_dead r j s st rf (by simpa using h) hl
    simp only [List.set_cons_succ, cnt]; split <;> omega
/-- One deleted. -/
def gap (n h : Nat) : Loc := ⟨(full n n).sl.set h ⟨(h : Int) + 1, 0, false⟩, (full n n).sc, (full n n).is⟩
theorem gap_facts {n h : Nat} (hn : n ≤ 64) (hh : h < n) : findV (full n n) h (h + 1) = 0 ∧ delL (full n n) h (h + 1) = gap n h ∧ roomV (gap n h) 9 = 0 ∧ newI (gap n h) 9 = n ∧ newS (gap n h) 9 = n + 1 := by
  have ho := full_ok hn n (Nat.le_refl _)
  have hf : findV (full n n) h (h + 1) = 0 := findV_live (s := ⟨(h : Int) + 1, (h : Int) + 1, true⟩) ho (issB_iff.2 ⟨by omega, by rw [(full_len n n).2.2]; omega, by rw [show ((h : Int) + 1 - 1).toNat = h by omega]; exact full_is hh⟩) (full_at hh) rfl rfl
  have hd : delL (full n n) h (h + 1) = gap n h := by unfold delL; rw [if_pos hf, Int.toNat_natCast]; rfl
  have hog : okB (gap n h) = true := by rw [← hd]; exact del_ok hf
  have hl : (gap n h).sl.length = n := by unfold gap; simp only; rw [List.length_set, (full_len n n).1]
  have hi : (gap n h).is.length = n := (full_len n n).2.2
  have hc := cnt_dead (full n n).sl h _ ((h : Int) + 1) 0 (full_at hh) rfl
  rw [full_cnt] at hc
  have hr : roomV (gap n h) 9 = 0 := by
    rw [roomV_c (s := ⟨0, n, true⟩) hog (by decide) (by simp [gap, full]), hl, part_all _ _ hl, hi, if_neg (by simp only [gap]; omega), if_neg (by omega)]
  exact ⟨hf, hd, hr, by unfold newI; rw [if_pos hr, hl], by unfold newS; rw [if_pos hr, hi]⟩
theorem full_full {n : Nat} (hn : n ≤ 64) : roomV (full n n) 9 = 10 ∧ newL (full n n) 9 = loc0 ∧ newI (full n n) 9 = 0 ∧ newS (full n n) 9 = 0 := by
  have h : roomV (full n n) 9 = 10 := by rw [full_room (full_ok hn n (Nat.le_refl _)) (by decide) (Nat.le_refl _) hn, if_pos rfl]
  have hne : ¬ (10 : Int) = 0 := by decide
  exact ⟨h, by unfold newL; rw [h, if_neg hne], by unfold newI; rw [h, if_neg hne], by unfold newS; rw [h, if_neg hne]⟩

set_option maxRecDepth 100000 in
set_option maxHeartbeats 3200000 in
theorem lawCapacity (a : Int) (w : World) (h1 : -9223372036854775808 ≤ a) (h2 : a ≤ 9223372036854775807) :
    Calls Try.prog 8 #[.int .i64 a] w fun e w' => e = .returned (.bool true) ∧ Below w.heap.size w w' := by
  obtain ⟨n, hn⟩ : ∃ n : Nat, a.tmod 65 % 65 = n := ⟨(a.tmod 65 % 65).toNat, by omega⟩
  have hn64 : n ≤ 64 := by omega
  have ht1 : -65 < a.tmod 65 := Int.lt_tmod_of_pos a (by decide)
  have ht2 : a.tmod 65 < 65 := Int.tmod_lt_of_pos a (by decide)
  have he := Lib.hid (fun w => enter_any none 0 0 none 0 0 none 0 0 loc0 n w (row0 w))
  rw [(full_zero n hn64).1, (full_zero n hn64).2] at he
  go_enter Try.func8, Try.ntmps8
  go_wp2_with (first
    | ((go_at_call 16; refine (he.out _).mono ?_); rintro e w2 ⟨⟨qa, ma, da, qb, mb, db, qc, mc, dc, rfl, hrow⟩, hb2⟩; have HR := Lib.hid (hrow.keep (below_box (o := .cells #[.slice qa ma da, .slice qb mb db, .slice qc mc dc] 26))); have HB := Lib.hid (bthen hb2 (below_box (o := .cells #[.slice qa ma da, .slice qb mb db, .slice qc mc dc] 26))); have HX := Lib.hid (OwnL.new w2 [.slice qa ma da, .slice qb mb db, .slice qc mc dc] 26); have hs2 := hb2.size; clear hrow hb2))
  obtain ⟨B, hBw⟩ : ∃ B, w2.heap.size = B := ⟨_, rfl⟩
  obtain ⟨w3, hw3⟩ : ∃ w3, w2.alloc (.cells #[.slice qa ma da, .slice qb mb db, .slice qc mc dc] 26) = w3 := ⟨_, rfl⟩
  rw [hBw] at HX hs2 ⊢
  rw [hw3] at HR HB HX ⊢
  clear hBw hw3 he
  go_loopw [6] (fun i wr => ∃ (k : Nat) (qa : Option Addr) (ma da : Nat) (qb : Option Addr) (mb db : Nat) (qc : Option Addr) (mc dc : Nat), k ≤ n ∧ i = .int .i64 k ∧ LRow wr qa ma da qb mb db qc mc dc (full n k) ∧ OwnL wr B [.slice qa ma da, .slice qb mb db, .slice qc mc dc] ∧ Below w.heap.size w wr) (fun i _ => n - (intOf i).toNat)
  case atStart => exact ⟨0, qa, ma, da, qb, mb, db, qc, mc, dc, by omega, rfl, HR.out, HX.out, HB.out⟩
  case round =>
    clear HR HB HX
    obtain ⟨k, qa, ma, da, qb, mb, db, qc, mc, dc, hk, rfl, hrow, hX, hB⟩ := hrel
    have HR := Lib.hid hrow
    have HX := Lib.hid hX
    have HB := Lib.hid hB
    obtain ⟨x0, x1, x2, u0, u1, u2⟩ := own6 hX
    have hBl := cell_lt x0
    clear hrow hX hB
    have ho := full_ok hn64 k hk
    by_cases hlt : k < n
    · obtain ⟨e1, e2, e3, e4⟩ := full_new ho hlt hn64
      have hnw := Lib.hid (fun w h => scNew_any qa ma da qb mb db qc mc dc (full n k) (k + 1) w h)
      rw [e1, e2, e3, e4] at hnw
      have hlt2 : (k : Int) < n := by omega
      clear e1 e2 e3 e4 ho
      go_wp2_with (((go_at_call 25; refine (hnw.out _ HR.out).mono ?_); rintro e w4 ⟨⟨ra, ka, ea, rb, kb, eb, rc, kc, ec, rfl, hrow⟩, hb4⟩; have HX4 := Lib.hid ((HX.out.keep hb4 hBl).keep (below_box (o := .cells #[.slice ra ka ea, .slice rb kb eb, .slice rc kc ec] 26)) (by have := hb4.size; omega)); (obtain ⟨s0, s1, s2, t0, t1, t2⟩ := own6 HX4.out); have HR4 := Lib.hid ((hrow.keep (below_box (o := .cells #[.slice ra ka ea, .slice rb kb eb, .slice rc kc ec] 26))).set3 HX4.out (.slice ra ka ea) (.slice rb kb eb) (.slice rc kc ec)); have HB4 := Lib.hid (bthen (bthen HB.out hb4) (below_box (o := .cells #[.slice ra ka ea, .slice rb kb eb, .slice rc kc ec] 26))); have hs4 := hb4.size; have hne4 : B ≠ w4.heap.size := (by omega); clear hrow hb4))
      go_roundw
      case rel => exact ⟨k + 1, ra, ka, ea, rb, kb, eb, rc, kc, ec, by omega, by go_num, HR4.out, set3_own HX4.out, set3_below HB4.out hs2⟩
      case measure => simp [intOf]; omega
    · obtain rfl : k = n := by omega
      obtain ⟨e1, e2, e3, e4⟩ := full_full hn64
      have hnw := Lib.hid (fun w h => scNew_any qa ma da qb mb db qc mc dc (full k k) 9 w h)
      rw [e1, e2, e3, e4] at hnw
      have hge : (k : Int) ≤ k := Int.le_refl _
      clear e1 e2 e3 e4 ho
      by_cases h0 : k = 0
      · have hz : ((k : Int) == 0) = true := beq_iff_eq.2 (by omega)
        clear h0 hn
        go_wp2_with (first
          | ((go_at_call 25; refine (hnw.out _ HR.out).mono ?_); rintro e w4 ⟨⟨ra, ka, ea, rb, kb, eb, rc, kc, ec, rfl, -⟩, hb4⟩; have HB4 := Lib.hid (bthen (bthen HB.out hb4) (below_box (o := .cells #[.slice ra ka ea, .slice rb kb eb, .slice rc kc ec] 26))); clear hb4)
          | ((go_at_call 10; refine (awake14 _).mono ?_); rintro e w5 ⟨rfl, hb5⟩))
        go_ret
        exact ⟨rfl, bthen HB4.out hb5⟩
      · have hz : ((k : Int) == 0) = false := beq_eq_false_iff_ne.2 (by omega)
        obtain ⟨d1, d2, d3, d4, d5⟩ := gap_facts (n := k) (h := k / 2) hn64 (by omega)
        obtain ⟨h, hh⟩ : ∃ h : Nat, k / 2 = h := ⟨_, rfl⟩
        rw [hh] at d1 d2 d3 d4 d5
        have hq : (k : Int) / 2 = (h : Int) := by omega
        have hq2 : (k : Int).tdiv 2 = (h : Int) := by rw [Int.tdiv_eq_ediv_of_nonneg (by omega)]; exact hq
        have hq3 : (0 : Int) ≤ h ∧ (h : Int) ≤ 64 := by omega
        obtain ⟨hq4, hq5⟩ := hq3
        have hdl := Lib.hid (fun w h' => scDelete_any qa ma da qb mb db qc mc dc (full k k) h (h + 1) w h')
        rw [d1, d2] at hdl
        have hn9 := Lib.hid (fun pa na ca pb nb cb pc nc cc w h' => scNew_any pa na ca pb nb cb pc nc cc (gap k h) 9 w h')
        rw [d3, d4, d5] at hn9
        clear d1 d2 d3 d4 d5 h0 hn hh
        go_wp2_with fail
        refine (hnw.out _ HR.out).mono ?_
        rintro e w4 ⟨⟨ra, ka, ea, rb, kb, eb, rc, kc, ec, rfl, -⟩, hb4⟩
        have HX4 := Lib.hid ((HX.out.keep hb4 hBl).keep (below_box (o := .cells #[.slice ra ka ea, .slice rb kb eb, .slice rc kc ec] 26)) (by have := hb4.size; omega))
        (obtain ⟨s0, s1, s2, t0, t1, t2⟩ := own6 HX4.out)
        have HB4 := Lib.hid (bthen (bthen HB.out hb4) (below_box (o := .cells #[.slice ra ka ea, .slice rb kb eb, .slice rc kc ec] 26)))
        have hs4 := hb4.size
        have HR4 := Lib.hid (HR.out.keep (bthen hb4 (below_box (o := .cells #[.slice ra ka ea, .slice rb kb eb, .slice rc kc ec] 26))))
        have hB4 : B < (w4.alloc (.cells #[.slice ra ka ea, .slice rb kb eb, .slice rc kc ec] 26)).heap.size := (by simp; omega)
        clear hb4
        go_wp2_with fail
        refine (hdl.out _ HR4.out).mono ?_
        rintro e w5 ⟨⟨pa, na, ca, pb, nb, cb, pc, nc, cc, rfl, hrow⟩, hb5⟩
        have hX5 := HX4.out.keep hb5 hB4
        have HR5 := Lib.hid (hrow.set3 hX5 (.slice pa na ca) (.slice pb nb cb) (.slice pc nc cc))
        (obtain ⟨v0, v1, v2, z0, z1, z2⟩ := own6 hX5)
        have HB5 := Lib.hid (set3_below (B := B) (x := .slice pa na ca) (y := .slice pb nb cb) (z := .slice pc nc cc) (bthen HB4.out hb5) hs2)
        clear hrow hb5 hX5
        go_wp2_with fail
        refine (hn9.out _ _ _ _ _ _ _ _ _ _ HR5.out).mono ?_
        rintro e w6 ⟨⟨ra', ka', ea', rb', kb', eb', rc', kc', ec', rfl, -⟩, hb6⟩
        have HB6 := Lib.hid (bthen (bthen HB5.out hb6) (below_box (o := .cells #[.slice ra' ka' ea', .slice rb' kb' eb', .slice rc' kc' ec'] 26)))
        clear hb6
        go_wp2_with fail
        refine (awake14 _).mono ?_
        rintro e w7 ⟨rfl, hb7⟩
        go_wp2
        go_ret
        exact ⟨rfl, bthen HB6.out hb7⟩
end Go.Proofs.Ytjnpmfkkagchjaa
