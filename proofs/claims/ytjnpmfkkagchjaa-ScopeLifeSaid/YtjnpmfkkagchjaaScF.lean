/- Contract of the reference's Valid of layer 14. -/
import Derived.Test.YtjnpmfkkagchjaaScE
namespace Go.Proofs.Ytjnpmfkkagchjaa
open Go.RowKit

theorem held5_keep {B b1 o1 o2 : Nat} {a b c d e : Value} {w0 w w' : World} (h : w.cell? ⟨B, 0, none⟩ = some a ∧ w.cell? ⟨B, 1, none⟩ = some b ∧ w.cell? ⟨B, 2, none⟩ = some c ∧ w.cell? ⟨b1, o1, none⟩ = some d ∧ w.cell? ⟨b1, o2, none⟩ = some e ∧ Below w0.heap.size w0 w) (hb : Below w.heap.size w w') :
    w'.cell? ⟨B, 0, none⟩ = some a ∧ w'.cell? ⟨B, 1, none⟩ = some b ∧ w'.cell? ⟨B, 2, none⟩ = some c ∧ w'.cell? ⟨b1, o1, none⟩ = some d ∧ w'.cell? ⟨b1, o2, none⟩ = some e ∧ Below w0.heap.size w0 w' :=
  ⟨cell_keep hb h.1, cell_keep hb h.2.1, cell_keep hb h.2.2.1, cell_keep hb h.2.2.2.1, cell_keep hb h.2.2.2.2.1, bthen h.2.2.2.2.2 hb⟩
theorem refTo_held {B b1 o1 o2 : Nat} {a b c d e : Value} {w0 w : World} (pa : Option Addr) (na ca : Nat) (pb : Option Addr) (nb cb : Nat) (vc : Value) (l : Loc) (k : Nat) (h : w.cell? ⟨B, 0, none⟩ = some a ∧ w.cell? ⟨B, 1, none⟩ = some b ∧ w.cell? ⟨B, 2, none⟩ = some c ∧ w.cell? ⟨b1, o1, none⟩ = some d ∧ w.cell? ⟨b1, o2, none⟩ = some e ∧ Below w0.heap.size w0 w)
    (hl : l.sl.length = na) (hr : VRow w0 3 pb nb cb (l.sc.flatMap spC)) (hk : k < nb) :
    Calls Try.prog 38 #[.agg #[.slice pa na ca, .slice pb nb cb, vc], .int .i64 k] w fun e w' => e = .returned (.int .i64 (endOf l k)) ∧ Below w.heap.size w w' :=
  refTo_any pa na ca pb nb cb vc l k w hl (hr.keep h.2.2.2.2.2) hk
theorem refLive_held {B b1 o1 o2 : Nat} {a b c d e : Value} {w0 w : World} (pa : Option Addr) (na ca : Nat) (vb vc : Value) (sl : List Sl) (fr to : Int) (h : w.cell? ⟨B, 0, none⟩ = some a ∧ w.cell? ⟨B, 1, none⟩ = some b ∧ w.cell? ⟨B, 2, none⟩ = some c ∧ w.cell? ⟨b1, o1, none⟩ = some d ∧ w.cell? ⟨b1, o2, none⟩ = some e ∧ Below w0.heap.size w0 w)
    (hr : VRow w0 3 pa na ca (sl.flatMap slC)) (h0 : 0 ≤ fr) (h1 : fr ≤ to) (h2 : to ≤ na) :
    Calls Try.prog 37 #[.agg #[.slice pa na ca, vb, vc], .int .i64 fr, .int .i64 to] w fun e w' => e = .returned (.int .i64 (cnt (part sl fr to))) ∧ Below w.heap.size w w' :=
  refLive_any pa na ca vb vc sl fr to w (hr.keep h.2.2.2.2.2) h0 h1 h2
theorem prevSt_nonneg {l : Loc} {k : Nat} (h : ∀ j s, j < k → l.sl[j]? = some s → slotB l j s = true) (hk : k ≤ l.sl.length) : 0 ≤ prevSt l.sl k := by
  cases k with
  | zero => exact Int.le_refl _
  | succ j =>
    obtain ⟨s, hs⟩ : ∃ s, l.sl[j]? = some s := ⟨_, List.getElem?_eq_getElem (by omega)⟩
    rw [prevSt_succ hs]
    have := issB_iff.1 (slotB_iff.1 (h j s (by omega) hs)).2.1
    omega

set_option maxRecDepth 100000 in
set_option maxHeartbeats 6400000 in
theorem refVal_any (pa : Option Addr) (na ca : Nat) (pb : Option Addr) (nb cb : Nat) (pc : Option Addr) (nc cc : Nat) (l : Loc) (w : World) (hr : LRow w pa na ca pb nb cb pc nc cc l) :
    Calls Try.prog 12 #[.agg #[.slice pa na ca, .slice pb nb cb, .slice pc nc cc]] w fun e w' => e = .returned (.bool (okB l)) ∧ Below w.heap.size w w' := by
  obtain ⟨h63a, h63b, h63c⟩ := hr.i63
  obtain ⟨la, lb, lc⟩ := hr.lens
  have Hl := Lib.hid (And.intro la (And.intro lb lc))
  have Hr := Lib.hid (fun w' (h : Below w.heap.size w w') => hr.keep h)
  clear hr la lb lc
  by_cases h4096 : (4096 : Int) < nc
  · have Hno := Lib.hid (okB_no1 (issAll_long (xs := l.is) (by have := Hl.out.2.2; omega)))
    have g0 : decide ((4096 : Int) < nc) = true := decide_eq_true h4096
    go_enter Try.func12, Try.ntmps12
    go_wp2
    go_wp2
    go_ret
    exact ⟨ret_bool Hno.out.symm, below_box⟩
  · have g0 : decide ((4096 : Int) < nc) = false := decide_eq_false h4096
    by_cases h64 : (64 : Int) < nb
    · have Hno := Lib.hid (okB_no2 (l := l) (fun h => by
        obtain ⟨s0, h0⟩ : ∃ s0, l.sc[0]? = some s0 := ⟨_, List.getElem?_eq_getElem (by have := Hl.out.2.1; omega)⟩
        have := (okSc_first h h0).2.1; have := Hl.out.2.1; omega))
      have g1 : decide ((64 : Int) < nb) = true := decide_eq_true h64
      go_enter Try.func12, Try.ntmps12
      go_wp2
      go_wp2
      go_ret
      exact ⟨ret_bool Hno.out.symm, below_box⟩
    · have g1 : decide ((64 : Int) < nb) = false := decide_eq_false h64
      by_cases hz : nb = 0 ∧ 0 < na
      · obtain ⟨hz1, hz2⟩ := hz
        have Hno := Lib.hid (okB_no2 (l := l) (fun h => by
          rw [okSc_nil (by have := Hl.out.2.1; omega)] at h
          have := of_decide_eq_true h; have := Hl.out.1; omega))
        have g2 : ((nb : Int) == 0) = true := beq_iff_eq.2 (by omega)
        have g3 : decide ((0 : Int) < na) = true := decide_eq_true (by omega)
        clear hz1
        go_enter Try.func12, Try.ntmps12
        go_wp2
        go_wp2
        go_ret
        exact ⟨ret_bool Hno.out.symm, below_box⟩
      · have hn0 := Lib.hid (show nb = 0 → na = 0 by omega)
        have g2 : ((nb : Int) == 0) = true ∧ decide (0 < na) = false ∨ ((nb : Int) == 0) = false := by
          by_cases e : nb = 0
          · exact .inl ⟨beq_iff_eq.2 (by omega), decide_eq_false (by omega)⟩
          · exact .inr (beq_eq_false_iff_ne.2 (by omega))
        clear hz
        rcases g2 with ⟨g2, g3⟩ | g2
        · have g4 : decide ((0 : Int) < na) = false := by have := of_decide_eq_false g3; exact decide_eq_false (by omega)
          have g5 : decide ((0 : Int) < nb) = false := by have := eq_of_beq g2; exact decide_eq_false (by omega)
          have g6 : decide (0 < nb) = false := by have := eq_of_beq g2; exact decide_eq_false (by omega)
          have G := Lib.hid (And.intro g2 g3)
          go_enter Try.func12, Try.ntmps12
          go_wp2
          obtain ⟨w1, hw1⟩ : ∃ w1, w.alloc (.cells #[.slice pa na ca, .slice pb nb cb, .slice pc nc cc] 26) = w1 := ⟨_, rfl⟩
          have d0 : w1.cell? ⟨w.heap.size, 0, none⟩ = some (.slice pa na ca) := by rw [← hw1]; simp
          have d1 : w1.cell? ⟨w.heap.size, 1, none⟩ = some (.slice pb nb cb) := by rw [← hw1]; simp
          have d2 : w1.cell? ⟨w.heap.size, 2, none⟩ = some (.slice pc nc cc) := by rw [← hw1]; simp
          have hB : Below w.heap.size w w1 := by rw [← hw1]; exact below_box
          rw [hw1]
          clear hw1
          have HR1 := Lib.hid (Hr.out w1 hB)
          go_loop [3] (fun i => ∃ k : Nat, k ≤ nc ∧ (∀ j x, j < k → l.is[j]? = some x → 0 ≤ x ∧ x < 4096) ∧ i = .int .i64 k) (fun i => nc - (intOf i).toNat)
          case atStart => exact ⟨0, by omega, fun j x h => absurd h (Nat.not_lt_zero _), rfl⟩
          case round =>
            obtain ⟨k, hk, hf, rfl⟩ := hrel
            have Hf := Lib.hid hf
            clear hf
            by_cases hlt : k < nc
            · obtain ⟨x, b, off, hx, rfl, hc⟩ := HR1.out.is.at_ hlt
              have Hx := Lib.hid hx
              have hlt2 : (k : Int) < nc := by omega
              clear hx
              by_cases h0 : x < 0
              · have Hno := Lib.hid (okB_no1 (issAll_bad Hx.out (.inl h0)))
                go_wp2
                go_ret
                exact ⟨ret_bool Hno.out.symm, hB⟩
              · by_cases h1 : 4095 < x
                · have Hno := Lib.hid (okB_no1 (issAll_bad Hx.out (.inr (by omega))))
                  go_wp2
                  go_ret
                  exact ⟨ret_bool Hno.out.symm, hB⟩
                · go_wp2
                  go_round
                  case rel => exact ⟨k + 1, by omega, fun j y hj hy => by
                    by_cases e : j = k
                    · subst e; rw [Hx.out] at hy; cases hy; omega
                    · exact Hf.out j y (by omega) hy, by go_num⟩
                  case measure => simp [intOf]; omega
            · have Hiss := Lib.hid (issAll_good (xs := l.is) (by have := Hl.out.2.2; omega) fun j x hj hx => Hf.out j x (by have := Hl.out.2.2; omega) hx)
              clear Hf
              go_wp2
              have Hyes := Lib.hid (show okB l = true from okB_iff.2 ⟨Hiss.out, by
                rw [okSc_nil (by have := Hl.out.2.1; have := eq_of_beq G.out.1; omega)]; exact decide_eq_true (by have := Hl.out.1; have := of_decide_eq_false G.out.2; omega), okSl_iff.2 fun j s hs => by
                have := (List.getElem?_eq_some_iff.1 hs).1; have := Hl.out.1; have := of_decide_eq_false G.out.2; omega⟩)
              go_loop [5] (fun i => i = .int .i64 0) (fun i => 0)
              case atStart => rfl
              case round =>
                obtain rfl := hrel
                go_wp2
                go_loop [8] (fun i => i = .int .i64 0) (fun i => 0)
                case atStart => rfl
                case round =>
                  obtain rfl := hrel
                  go_wp2
                  go_loop [10] (fun i => i = .int .i64 0) (fun i => 0)
                  case atStart => rfl
                  case round =>
                    obtain rfl := hrel
                    go_wp2
                    go_ret
                    exact ⟨ret_bool Hyes.out.symm, hB⟩
        ·
          go_enter Try.func12, Try.ntmps12
          go_wp2
          obtain ⟨w1, hw1⟩ : ∃ w1, w.alloc (.cells #[.slice pa na ca, .slice pb nb cb, .slice pc nc cc] 26) = w1 := ⟨_, rfl⟩
          have d0 : w1.cell? ⟨w.heap.size, 0, none⟩ = some (.slice pa na ca) := by rw [← hw1]; simp
          have d1 : w1.cell? ⟨w.heap.size, 1, none⟩ = some (.slice pb nb cb) := by rw [← hw1]; simp
          have d2 : w1.cell? ⟨w.heap.size, 2, none⟩ = some (.slice pc nc cc) := by rw [← hw1]; simp
          have hB : Below w.heap.size w w1 := by rw [← hw1]; exact below_box
          rw [hw1]
          clear hw1
          have HR1 := Lib.hid (Hr.out w1 hB)
          go_loop [3] (fun i => ∃ k : Nat, k ≤ nc ∧ (∀ j x, j < k → l.is[j]? = some x → 0 ≤ x ∧ x < 4096) ∧ i = .int .i64 k) (fun i => nc - (intOf i).toNat)
          case atStart => exact ⟨0, by omega, fun j x h => absurd h (Nat.not_lt_zero _), rfl⟩
          case round =>
            obtain ⟨k, hk, hf, rfl⟩ := hrel
            have Hf := Lib.hid hf
            clear hf
            by_cases hlt : k < nc
            · obtain ⟨x, b, off, hx, rfl, hc⟩ := HR1.out.is.at_ hlt
              have Hx := Lib.hid hx
              have hlt2 : (k : Int) < nc := by omega
              clear hx
              by_cases h0 : x < 0
              · have Hno := Lib.hid (okB_no1 (issAll_bad Hx.out (.inl h0)))
                go_wp2
                go_ret
                exact ⟨ret_bool Hno.out.symm, hB⟩
              · by_cases h1 : 4095 < x
                · have Hno := Lib.hid (okB_no1 (issAll_bad Hx.out (.inr (by omega))))
                  go_wp2
                  go_ret
                  exact ⟨ret_bool Hno.out.symm, hB⟩
                · go_wp2
                  go_round
                  case rel => exact ⟨k + 1, by omega, fun j y hj hy => by
                    by_cases e : j = k
                    · subst e; rw [Hx.out] at hy; cases hy; omega
                    · exact Hf.out j y (by omega) hy, by go_num⟩
                  case measure => simp [intOf]; omega
            · have Hiss := Lib.hid (issAll_good (xs := l.is) (by have := Hl.out.2.2; omega) fun j x hj hx => Hf.out j x (by have := Hl.out.2.2; omega) hx)
              clear Hf
              go_wp2
              go_loopw [4, 5] (fun t i wr => ∃ (k : Nat) (last : Int), k ≤ na ∧ prevSt l.sl k = last ∧ (∀ j s, j < k → l.sl[j]? = some s → slotB l j s = true) ∧ t = .int .i64 last ∧ i = .int .i64 k ∧ Below w1.heap.size w1 wr) (fun _ i _ => na - (intOf i).toNat)
              case atStart => exact ⟨0, 0, by omega, rfl, fun j s h => absurd h (Nat.not_lt_zero _), rfl, rfl, Below.refl _ _⟩
              case round =>
                obtain ⟨k2, last, hk2, hp, hf, rfl, rfl, hb⟩ := hrel
                have hla : 0 ≤ last := by rw [← hp]; exact prevSt_nonneg hf (by have := Hl.out.1; omega)
                have Hp := Lib.hid hp
                have Hf := Lib.hid hf
                clear hf hp
                by_cases hlt2 : k2 < na
                · have hlt3 : (k2 : Int) < na := by omega
                  have HR := Lib.hid (HR1.out.keep hb)
                  obtain ⟨x, b, off, hx, rfl, c0, c1, c2⟩ := slot_at HR.out.sl hlt2
                  have Hx := Lib.hid hx
                  have e0 := cell_keep hb d0
                  have e1 := cell_keep hb d1
                  have e2 := cell_keep hb d2
                  have hlo := cell_lt e0
                  have hne : w.heap.size ≠ wr.heap.size := Nat.ne_of_lt hlo
                  clear hx
                  obtain ⟨st, rf, lv⟩ := x
                  simp only at c0 c1 c2
                  by_cases h1 : last < st
                  · by_cases h2 : st ≤ nc
                    · obtain ⟨j, hj⟩ : ∃ j : Nat, st - 1 = j := ⟨(st - 1).toNat, by omega⟩
                      obtain ⟨y, by_, offy, hy, rfl, cy⟩ := (HR.out.keep (w' := wr.alloc (.cells #[.int .i64 st, .int .u64 rf, .bool lv] 56)) below_box).is.at_ (k := j) (by omega)
                      have Hi := Lib.hid (issB_mid (i := (k2 : Int)) (st := st) (by omega) (by rw [Hl.out.2.2]; exact h2) hj hy)
                      have hj1 : j < nc := by omega
                      have hj2 : (j : Int) < nc := by omega
                      clear hy
                      by_cases h3 : y = k2
                      · have Hi2 := Lib.hid (Hi.out.trans (beq_iff_eq.2 h3))
                        by_cases h4 : (lv = true ↔ rf ≠ 0)
                        · have Hs := Lib.hid (slotB_iff (l := l) (k := k2) (s := ⟨st, rf, lv⟩).2 ⟨by rw [Hp.out]; exact h1, Hi2.out, h4⟩)
                          subst h3
                          have hl4 : lv = (rf != 0) := by rw [Bool.eq_iff_iff, h4, bne_iff_ne]
                          cases hlv : (rf != 0)
                          all_goals
                            rw [hlv] at hl4
                            subst hl4
                            clear h4
                            go_wp2
                            go_roundw
                            case rel => exact ⟨k2 + 1, st, by omega, prevSt_succ Hx.out, fun j s hj hs => by
                                by_cases e : j = k2
                                · subst e; rw [Hx.out] at hs; cases hs; exact Hs.out
                                · exact Hf.out j s (by omega) hs, rfl, by go_num, bthen hb below_box⟩
                            case measure => simp [intOf]; omega
                        · have Hno := Lib.hid (okB_no3 Hx.out (by rw [slotB_iff]; exact fun h => h4 h.2.2))
                          subst h3
                          have hl4 : lv = !(rf != 0) := by
                            cases lv
                            · have : rf ≠ 0 := fun e => h4 (by simp [e])
                              simp [this]
                            · have : rf = 0 := Decidable.byContradiction fun e => h4 (by simp [e])
                              simp [this]
                          cases hlv : (rf != 0)
                          all_goals
                            rw [hlv] at hl4
                            simp only [Bool.not_false, Bool.not_true] at hl4
                            subst hl4
                            clear h4
                            go_wp2
                            go_ret
                            exact ⟨ret_bool Hno.out.symm, hB.trans ((bthen hb below_box).mono hB.size)⟩
                      · have Hno := Lib.hid (okB_no3 Hx.out (by rw [slotB_iff]; intro h; have h' := h.2.1; rw [Hi.out, beq_iff_eq] at h'; exact h3 h'))
                        have hyb : (y != (k2 : Int)) = true := bne_iff_ne.2 h3
                        clear h3
                        go_wp2
                        go_ret
                        exact ⟨ret_bool Hno.out.symm, hB.trans ((bthen hb below_box).mono hB.size)⟩
                    · have Hno := Lib.hid (okB_no3 Hx.out (by rw [slotB_iff]; intro h; have h' := (issB_iff.1 h.2.1).2.1; rw [Hl.out.2.2] at h'; exact h2 h'))
                      go_wp2
                      go_ret
                      exact ⟨ret_bool Hno.out.symm, hB.trans ((bthen hb below_box).mono hB.size)⟩
                  · have Hno := Lib.hid (okB_no3 Hx.out (by rw [slotB_iff, Hp.out]; exact fun h => h1 h.1))
                    go_wp2
                    go_ret
                    exact ⟨ret_bool Hno.out.symm, hB.trans ((bthen hb below_box).mono hB.size)⟩
                · have Hsl := Lib.hid (okSl_iff.2 fun j s hs => Hf.out j s (by have := (List.getElem?_eq_some_iff.1 hs).1; rw [Hl.out.1] at this; omega) hs)
                  have e0 := cell_keep hb d0
                  have e1 := cell_keep hb d1
                  have e2 := cell_keep hb d2
                  have HR2 := Lib.hid (HR1.out.keep hb)
                  have hB2 := hB.trans (hb.mono hB.size)
                  clear Hf Hp d0 d1 d2 hb hB
                  go_wp2
                  go_loopw [7, 8] (fun t i W => ∃ (k : Nat) (last : Int), k ≤ nb ∧ prevFr l.sc k = last ∧ (∀ j s, j < k → l.sc[j]? = some s → FrOk l j s) ∧ t = .int .i64 last ∧ i = .int .i64 k ∧ Below wr.heap.size wr W) (fun _ i _ => nb - (intOf i).toNat)
                  case atStart => exact ⟨0, 0, by omega, rfl, fun j s h => absurd h (Nat.not_lt_zero _), rfl, rfl, Below.refl _ _⟩
                  case round =>
                    obtain ⟨k3, last3, hk3, hp, hf, rfl, rfl, hb⟩ := hrel
                    have Hp := Lib.hid hp
                    have Hf := Lib.hid hf
                    clear hf hp
                    by_cases hlt3 : k3 < nb
                    · have hlt4 : (k3 : Int) < nb := by omega
                      have HR := Lib.hid (HR2.out.keep hb)
                      obtain ⟨x, b, off, hx, rfl, c0, c1, c2⟩ := scope_at HR.out.sc hlt3
                      have Hx := Lib.hid hx
                      have f0 := cell_keep hb e0
                      have f1 := cell_keep hb e1
                      have f2 := cell_keep hb e2
                      have hlo := cell_lt f0
                      have hne : w.heap.size ≠ wr.heap.size := Nat.ne_of_lt hlo
                      clear hx
                      obtain ⟨fr, cp, bs⟩ := x
                      simp only at c0 c1 c2
                      by_cases hk0 : k3 = 0 ∧ ¬ (fr = 0 ∧ bs = true)
                      · have Hno := Lib.hid (okB_no2 (l := l) (fun h => hk0.2 ((okSc_fr h Hx.out).1 hk0.1)))
                        obtain ⟨hk1, hk0⟩ := hk0
                        have q1 : ((k3 : Int) == 0) = true := beq_iff_eq.2 (by omega)
                        clear hk1
                        by_cases hf0 : fr = 0
                        · have hbs : bs = false := by rw [← Bool.not_eq_true]; exact fun h => hk0 ⟨hf0, h⟩
                          subst hbs
                          have q0 : (fr != 0) = false := by simpa using hf0
                          clear hk0 hf0
                          go_wp2
                          go_ret
                          exact ⟨ret_bool Hno.out.symm, hB2.trans ((bthen hb below_box).mono hB2.size)⟩
                        · have q0 : (fr != 0) = true := bne_iff_ne.2 hf0
                          clear hk0 hf0
                          go_wp2
                          go_ret
                          exact ⟨ret_bool Hno.out.symm, hB2.trans ((bthen hb below_box).mono hB2.size)⟩
                      · by_cases hall : last3 ≤ fr ∧ fr ≤ na ∧ 0 ≤ cp ∧ cp ≤ 64
                        · obtain ⟨g5, g6, g7, g8⟩ := hall
                          have HF := Lib.hid (show FrOk l k3 ⟨fr, cp, bs⟩ from ⟨fun e => Decidable.byContradiction fun h => hk0 ⟨e, h⟩, by rw [Hp.out]; exact g5, by rw [Hl.out.1]; exact g6, g7, g8⟩)
                          have g9 : ((k3 : Int) == 0) = true ∧ (fr != 0) = false ∧ bs = true ∨ ((k3 : Int) == 0) = false := by
                            by_cases e : k3 = 0
                            · obtain ⟨u1, u2⟩ : fr = 0 ∧ bs = true := Decidable.byContradiction fun h => hk0 ⟨e, h⟩
                              exact .inl ⟨beq_iff_eq.2 (by omega), by simpa using u1, u2⟩
                            · exact .inr (beq_eq_false_iff_ne.2 (by omega))
                          clear hk0
                          rcases g9 with ⟨g9, g10, rfl⟩ | g9
                          all_goals
                            go_wp2
                            go_roundw
                            case rel => exact ⟨k3 + 1, fr, by omega, prevFr_succ Hx.out, fun j s hj hs => by
                                by_cases e : j = k3
                                · subst e; rw [Hx.out] at hs; cases hs; exact HF.out
                                · exact Hf.out j s (by omega) hs, rfl, by go_num, bthen hb below_box⟩
                            case measure => simp [intOf]; omega
                        · have Hno := Lib.hid (okB_no2 (l := l) (fun h => by
                            have hF := okSc_fr h Hx.out
                            have h1 := hF.2.1; have h2 := hF.2.2.1; rw [Hp.out] at h1; rw [Hl.out.1] at h2
                            exact hall ⟨h1, h2, hF.2.2.2⟩))
                          have g9 : ((k3 : Int) == 0) = true ∧ (fr != 0) = false ∧ bs = true ∨ ((k3 : Int) == 0) = false := by
                            by_cases e : k3 = 0
                            · obtain ⟨u1, u2⟩ : fr = 0 ∧ bs = true := Decidable.byContradiction fun h => hk0 ⟨e, h⟩
                              exact .inl ⟨beq_iff_eq.2 (by omega), by simpa using u1, u2⟩
                            · exact .inr (beq_eq_false_iff_ne.2 (by omega))
                          have g5 : fr < last3 ∨ (last3 ≤ fr ∧ (na : Int) < fr) ∨ (last3 ≤ fr ∧ fr ≤ na ∧ cp < 0) ∨ (last3 ≤ fr ∧ fr ≤ na ∧ 0 ≤ cp ∧ 64 < cp) := by omega
                          clear hk0 hall
                          rcases g9 with ⟨g9, g10, rfl⟩ | g9
                          all_goals
                            rcases g5 with g5 | ⟨g5, g6⟩ | ⟨g5, g6, g7⟩ | ⟨g5, g6, g7, g8⟩
                            all_goals
                              go_wp2
                              go_ret
                              exact ⟨ret_bool Hno.out.symm, hB2.trans ((bthen hb below_box).mono hB2.size)⟩
                    · have HF := Lib.hid (show ∀ j s, l.sc[j]? = some s → FrOk l j s from fun j s hs => Hf.out j s (by have := (List.getElem?_eq_some_iff.1 hs).1; rw [Hl.out.2.1] at this; omega) hs)
                      have f0 := cell_keep hb e0
                      have f1 := cell_keep hb e1
                      have f2 := cell_keep hb e2
                      have HR3 := Lib.hid (HR2.out.keep hb)
                      have hB3 := hB2.trans (hb.mono hB2.size)
                      clear Hf Hp e0 e1 e2 hb hB2
                      go_wp2
                      go_loopw [10] (fun i W => ∃ (k : Nat), k ≤ nb ∧ (∀ j s, j < k → l.sc[j]? = some s → (cnt (part l.sl s.fr (endOf l j)) : Int) ≤ s.cp) ∧ i = .int .i64 k ∧ Below wr.heap.size wr W) (fun i _ => nb - (intOf i).toNat)
                      case atStart => exact ⟨0, by omega, fun j s h => absurd h (Nat.not_lt_zero _), rfl, Below.refl _ _⟩
                      case round =>
                        obtain ⟨k4, hk4, hf, rfl, hb⟩ := hrel
                        have Hf := Lib.hid hf
                        clear hf
                        by_cases hlt4 : k4 < nb
                        · have hlt5 : (k4 : Int) < nb := by omega
                          have HR := Lib.hid (HR3.out.keep hb)
                          obtain ⟨x, b, off, hx, rfl, c0, c1, c2⟩ := scope_at HR.out.sc hlt4
                          have Hx := Lib.hid hx
                          have h0 := cell_keep hb f0
                          have h1 := cell_keep hb f1
                          have h2 := cell_keep hb f2
                          have p0 := fr_nonneg HF.out k4 x hx
                          obtain ⟨p1, p2⟩ := fr_end HF.out hx
                          rw [Hl.out.1] at p2
                          clear hx c2
                          obtain ⟨fr, cp, bs⟩ := x
                          simp only at c0 c1 p0 p1
                          obtain ⟨E, hE⟩ : ∃ E, Hid (endOf l k4 = E) := ⟨_, rfl⟩
                          rw [hE.out] at p1 p2
                          by_cases hcp : (cnt (part l.sl fr E) : Int) ≤ cp
                          all_goals
                            go_wp2
                            go_region_held3 (fun w' => w'.cell? ⟨w.heap.size, 0, none⟩ = some (.slice pa na ca) ∧ w'.cell? ⟨w.heap.size, 1, none⟩ = some (.slice (some ⟨b, off, none⟩) nb cb) ∧ w'.cell? ⟨w.heap.size, 2, none⟩ = some (.slice pc nc cc) ∧ w'.cell? ⟨b, off + k4 * 3, none⟩ = some (.int .i64 fr) ∧ w'.cell? ⟨b, off + k4 * 3 + 1, none⟩ = some (.int .i64 cp) ∧ Below wr.heap.size wr w')
                              (first | exact ⟨h0, h1, h2, c0, c1, Below.drew (Below.refl _ _)⟩ | (exact held5_keep ‹_› hbq) | assumption)
                              (first
                                | (go_at_call 38; refine (refTo_held (B := w.heap.size) (b1 := b) (o1 := off + k4 * 3) (o2 := off + k4 * 3 + 1) (a := .slice pa na ca) (b := .slice (some ⟨b, off, none⟩) nb cb) (c := .slice pc nc cc) (d := .int .i64 fr) (e := .int .i64 cp) (w0 := wr) pa na ca (some ⟨b, off, none⟩) nb cb (.slice pc nc cc) l k4 ?_ Hl.out.1 HR.out.sc hlt4).mono ?_; (assumption); rintro e w' ⟨rfl, hbq⟩; rw [hE.out])
                                | (go_at_call 37; refine (refLive_held (B := w.heap.size) (b1 := b) (o1 := off + k4 * 3) (o2 := off + k4 * 3 + 1) (a := .slice pa na ca) (b := .slice (some ⟨b, off, none⟩) nb cb) (c := .slice pc nc cc) (d := .int .i64 fr) (e := .int .i64 cp) (w0 := wr) pa na ca (.slice (some ⟨b, off, none⟩) nb cb) (.slice pc nc cc) l.sl fr E ?_ HR.out.sl p0 p1 p2).mono ?_; (assumption); rintro e w' ⟨rfl, hbq⟩))
                            rename_i hH
                            have hB4 := bthen hb hH.2.2.2.2.2
                            clear hH
                          · go_wp2
                            go_roundw
                            case rel => exact ⟨k4 + 1, by omega, fun j s hj hs => by
                                by_cases e : j = k4
                                · subst e; rw [Hx.out] at hs; cases hs; rw [hE.out]; exact hcp
                                · exact Hf.out j s (by omega) hs, by go_num, hB4⟩
                            case measure => simp [intOf]; omega
                          · have Hno := Lib.hid (okB_no2 (l := l) (fun h => by
                              have := okSc_cnt h Hx.out
                              rw [hE.out] at this; simp only at this; omega))
                            go_wp2
                            go_ret
                            exact ⟨ret_bool Hno.out.symm, hB3.trans (hB4.mono hB3.size)⟩
                        · have h1 := cell_keep hb f1
                          have Hyes := Lib.hid (okB_iff.2 ⟨Hiss.out, okSc_of (by have := Hl.out.2.1; omega) (by have h1 := Hl.out.2.1; have h2 := Hl.out.1; have h3 := hn0.out; omega) HF.out (fun j s hs => Hf.out j s (by have := (List.getElem?_eq_some_iff.1 hs).1; rw [Hl.out.2.1] at this; omega) hs), Hsl.out⟩)
                          go_wp2
                          go_ret
                          exact ⟨ret_bool Hyes.out.symm, hB3.trans (hb.mono hB3.size)⟩
end Go.Proofs.Ytjnpmfkkagchjaa
