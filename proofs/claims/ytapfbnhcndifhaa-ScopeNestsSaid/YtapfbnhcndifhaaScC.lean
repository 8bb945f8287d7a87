/- Contracts of package scope: validScopes, validSlots, Valid. -/
import Derived.Test.YtapfbnhcndifhaaScB
namespace Go.Proofs.Ytapfbnhcndifhaa
open Go.RowKit

theorem allSp_iff {l : Loc} : allSp l = true ↔ ∀ k s, l.sc[k]? = some s → spanB l.sl s (endOf l k) = true := by
  unfold allSp
  rw [all_range]
  constructor
  · intro h k s hs
    have := h k (List.getElem?_eq_some_iff.1 hs).1
    rw [hs] at this; exact this
  · intro h k hk
    have hx : l.sc[k]? = some (l.sc[k]'hk) := List.getElem?_eq_getElem _
    rw [hx]; exact h k _ hx
theorem allSp_no {l : Loc} {k : Nat} {s : Sp} (hs : l.sc[k]? = some s) (h : spanB l.sl s (endOf l k) = false) : allSp l = false := by
  rw [← Bool.not_eq_true, allSp_iff]; intro h'; rw [h' k s hs] at h; cases h
theorem okSl_iff {l : Loc} : okSl l = true ↔ ∀ k s, l.sl[k]? = some s → slotB l k s = true := by
  unfold okSl
  rw [all_range]
  constructor
  · intro h k s hs
    have := h k (List.getElem?_eq_some_iff.1 hs).1
    rw [hs] at this; exact this
  · intro h k hk
    have hx : l.sl[k]? = some (l.sl[k]'hk) := List.getElem?_eq_getElem _
    rw [hx]; exact h k _ hx
theorem okSl_no {l : Loc} {k : Nat} {s : Sl} (hs : l.sl[k]? = some s) (h : slotB l k s = false) : okSl l = false := by
  rw [← Bool.not_eq_true, okSl_iff]; intro h'; rw [h' k s hs] at h; cases h
theorem spanB_iff {sl : List Sl} {s : Sp} {e : Int} : spanB sl s e = true ↔ (0 ≤ s.cp ∧ s.cp ≤ 64) ∧ s.fr ≤ e ∧ e ≤ sl.length ∧ (cnt (part sl s.fr e) : Int) ≤ s.cp := by
  simp [spanB, capB_iff, and_assoc]
theorem okSc_nil {l : Loc} (h : l.sc.length = 0) : okSc l = decide (l.sl.length = 0) := by
  have : l.sc[0]? = none := List.getElem?_eq_none (by omega)
  unfold okSc; rw [this]
theorem okSc_cons {l : Loc} {s : Sp} (h : l.sc[0]? = some s) : okSc l = (decide (s.fr = 0) && s.bs && decide (l.sc.length ≤ 64) && allSp l) := by unfold okSc; rw [h]

/-- A box of three cells that is held while memory is made. -/
theorem held3_keep {B : Nat} {a b c : Value} {w0 w w' : World} (h : w.cell? ⟨B, 0, none⟩ = some a ∧ w.cell? ⟨B, 1, none⟩ = some b ∧ w.cell? ⟨B, 2, none⟩ = some c ∧ Below w0.heap.size w0 w) (hb : Below w.heap.size w w') :
    w'.cell? ⟨B, 0, none⟩ = some a ∧ w'.cell? ⟨B, 1, none⟩ = some b ∧ w'.cell? ⟨B, 2, none⟩ = some c ∧ Below w0.heap.size w0 w' :=
  ⟨cell_keep hb h.1, cell_keep hb h.2.1, cell_keep hb h.2.2.1, bthen h.2.2.2 hb⟩
theorem spanOf_held {B : Nat} {a b c : Value} {w0 w : World} (pa : Option Addr) (na ca : Nat) (pb : Option Addr) (nb cb : Nat) (vc : Value) (l : Loc) (k : Nat) (s : Sp) (h : w.cell? ⟨B, 0, none⟩ = some a ∧ w.cell? ⟨B, 1, none⟩ = some b ∧ w.cell? ⟨B, 2, none⟩ = some c ∧ Below w0.heap.size w0 w)
    (hl : l.sl.length = na) (hr : VRow w0 3 pb nb cb (l.sc.flatMap spC)) (hs : l.sc[k]? = some s) :
    Calls Try.prog 52 #[.agg #[.slice pa na ca, .slice pb nb cb, vc], .int .i64 k] w fun e w' => e = .returned (.agg #[.int .i64 s.fr, .int .i64 s.cp, .bool s.bs, .int .i64 (endOf l k)]) ∧ Below w.heap.size w w' :=
  spanOf_any pa na ca pb nb cb vc l k s w hl (hr.keep h.2.2.2) hs
theorem spanValid_held {B : Nat} {a b c : Value} {w0 w : World} (p : Option Addr) (n cap : Nat) (sl : List Sl) (s : Sp) (to : Int) (h : w.cell? ⟨B, 0, none⟩ = some a ∧ w.cell? ⟨B, 1, none⟩ = some b ∧ w.cell? ⟨B, 2, none⟩ = some c ∧ Below w0.heap.size w0 w)
    (hr : VRow w0 3 p n cap (sl.flatMap slC)) (h0 : 0 ≤ s.fr) {r : Bool} (hR : spanB sl s to = r) :
    Calls Try.prog 62 #[.agg #[.int .i64 s.fr, .int .i64 s.cp, .bool s.bs, .int .i64 to], .slice p n cap] w fun e w' => e = .returned (.bool r) ∧ Below w.heap.size w w' := by
  subst hR; exact spanValid_any p n cap sl s to w (hr.keep h.2.2.2) h0

set_option maxRecDepth 100000 in
set_option maxHeartbeats 3200000 in
theorem validScopes_any (pa : Option Addr) (na ca : Nat) (pb : Option Addr) (nb cb : Nat) (pc : Option Addr) (nc cc : Nat) (l : Loc) (w : World) (hr : LRow w pa na ca pb nb cb pc nc cc l) :
    Calls Try.prog 49 #[.agg #[.slice pa na ca, .slice pb nb cb, .slice pc nc cc]] w fun e w' => e = .returned (.bool (okSc l)) ∧ Below w.heap.size w w' := by
  obtain ⟨h63a, h63b, h63c⟩ := hr.i63
  obtain ⟨la, lb, lc⟩ := hr.lens
  have Hl := Lib.hid (And.intro la (And.intro lb lc))
  have Hr := Lib.hid (fun w' (h : Below w.heap.size w w') => hr.keep h)
  by_cases hb0 : nb = 0
  · have E := Lib.hid (okSc_nil (l := l) (by omega))
    subst hb0
    rw [E.out]
    clear hr la lb lc E
    go_enter Try.func49, Try.ntmps49
    go_wp2
    go_ret
    exact ⟨ret_bool (by rw [Hl.out.1, Bool.eq_iff_iff]; simp), below_box⟩
  · obtain ⟨s, b, off, hx, rfl, c0, c1, c2⟩ := scope_at (Hr.out _ (below_box (o := .cells #[.slice pa na ca, .slice pb nb cb, .slice pc nc cc] 28))).sc (k := 0) (by omega)
    simp only [Nat.zero_mul, Nat.add_zero] at c0 c1 c2
    have E := Lib.hid (okSc_cons hx)
    rw [E.out, Hl.out.2.1]
    have hb1 : (0 : Int) < nb := by omega
    have hb2 : 0 < nb := by omega
    have hb3 : ((nb : Int) == 0) = false := beq_eq_false_iff_ne.2 (by omega)
    have Hx := Lib.hid hx
    clear hr la lb lc E hx
    by_cases h0 : s.fr = 0
    · cases hbs : s.bs
      · rw [h0] at c0
        rw [hbs] at c2
        clear Hx hbs h0
        go_enter Try.func49, Try.ntmps49
        go_wp2
        go_ret
        exact ⟨ret_bool (by simp), below_box.trans (below_box.mono (by simp))⟩
      · by_cases h64 : nb ≤ 64
        · have hD := Lib.hid (show (decide (s.fr = 0) && true && decide (nb ≤ 64) && allSp l) = allSp l by simp [h0, h64])
          rw [hD.out]
          have Hfr := Lib.hid h0
          rw [h0] at c0
          rw [hbs] at c2
          clear hbs h0 hD
          have h64' : (nb : Int) ≤ 64 := by omega
          have h64'' : decide ((64 : Int) < (nb : Int)) = false := decide_eq_false (by omega)
          go_enter Try.func49, Try.ntmps49
          go_wp2
          obtain ⟨w1, hw1⟩ : ∃ w1, w.alloc (.cells #[.slice pa na ca, .slice (some ⟨b, off, none⟩) nb cb, .slice pc nc cc] 28) = w1 := ⟨_, rfl⟩
          have d0 : w1.cell? ⟨w.heap.size, 0, none⟩ = some (.slice pa na ca) := by rw [← hw1]; simp
          have d1 : w1.cell? ⟨w.heap.size, 1, none⟩ = some (.slice (some ⟨b, off, none⟩) nb cb) := by rw [← hw1]; simp
          have d2 : w1.cell? ⟨w.heap.size, 2, none⟩ = some (.slice pc nc cc) := by rw [← hw1]; simp
          have hB : Below w.heap.size w w1 := by rw [← hw1]; exact below_box
          rw [hw1]
          clear hw1 c0 c1 c2
          go_loopw [34] (fun i wr => ∃ k : Nat, k ≤ nb ∧ (∀ j s, j < k → l.sc[j]? = some s → spanB l.sl s (endOf l j) = true) ∧ (∀ s, l.sc[k]? = some s → 0 ≤ s.fr) ∧ i = .int .i64 k ∧ Below w1.heap.size w1 wr) (fun i _ => nb - (intOf i).toNat)
          case atStart => exact ⟨0, by omega, fun j s h => absurd h (Nat.not_lt_zero _), fun s' hs => by rw [Hx.out] at hs; cases hs; have := Hfr.out; omega, rfl, below_box⟩
          case round =>
            obtain ⟨k, hk, hf, hg, rfl, hb⟩ := hrel
            have Hf := Lib.hid hf
            have Hg := Lib.hid hg
            clear hf hg
            by_cases hlt : k < nb
            · have hlt2 : (k : Int) < nb := by omega
              obtain ⟨s2, hs2⟩ : ∃ s2, l.sc[k]? = some s2 := ⟨_, List.getElem?_eq_getElem (by rw [Hl.out.2.1]; exact hlt)⟩
              have hpos := Hg.out s2 hs2
              have HR := Lib.hid (Hr.out wr (hB.trans (hb.mono hB.size)))
              have Hs := Lib.hid hs2
              have e0 := cell_keep hb d0
              have e1 := cell_keep hb d1
              have e2 := cell_keep hb d2
              clear hs2
              cases hsp : spanB l.sl s2 (endOf l k)
              · have Hsp := Lib.hid hsp
                clear hsp
                go_wp2
                go_region_held3 (fun w' => w'.cell? ⟨w.heap.size, 0, none⟩ = some (.slice pa na ca) ∧ w'.cell? ⟨w.heap.size, 1, none⟩ = some (.slice (some ⟨b, off, none⟩) nb cb) ∧ w'.cell? ⟨w.heap.size, 2, none⟩ = some (.slice pc nc cc) ∧ Below wr.heap.size wr w')
                  (first | exact ⟨e0, e1, e2, Below.drew (Below.refl _ _)⟩ | (exact held3_keep ‹_› hbq) | assumption)
                  (first
                    | (go_at_call 52; refine (spanOf_held (B := w.heap.size) (a := .slice pa na ca) (b := .slice (some ⟨b, off, none⟩) nb cb) (c := .slice pc nc cc) (w0 := wr) pa na ca (some ⟨b, off, none⟩) nb cb (.slice pc nc cc) l k s2 ?_ Hl.out.1 HR.out.sc Hs.out).mono ?_; (assumption); rintro e w' ⟨rfl, hbq⟩)
                    | (go_at_call 62; refine (spanValid_held (B := w.heap.size) (a := .slice pa na ca) (b := .slice (some ⟨b, off, none⟩) nb cb) (c := .slice pc nc cc) (w0 := wr) pa na ca l.sl s2 (endOf l k) ?_ HR.out.sl hpos Hsp.out).mono ?_; (assumption); rintro e w' ⟨rfl, hbq⟩))
                rename_i hH
                have hB2 := hB.trans ((bthen hb hH.2.2.2).mono hB.size)
                clear hH
                have Hno := Lib.hid (allSp_no Hs.out Hsp.out)
                go_wp2
                go_ret
                exact ⟨ret_bool Hno.out.symm, hB2⟩
              · have Hsp := Lib.hid hsp
                clear hsp
                go_wp2
                go_region_held3 (fun w' => w'.cell? ⟨w.heap.size, 0, none⟩ = some (.slice pa na ca) ∧ w'.cell? ⟨w.heap.size, 1, none⟩ = some (.slice (some ⟨b, off, none⟩) nb cb) ∧ w'.cell? ⟨w.heap.size, 2, none⟩ = some (.slice pc nc cc) ∧ Below wr.heap.size wr w')
                  (first | exact ⟨e0, e1, e2, Below.drew (Below.refl _ _)⟩ | (exact held3_keep ‹_› hbq) | assumption)
                  (first
                    | (go_at_call 52; refine (spanOf_held (B := w.heap.size) (a := .slice pa na ca) (b := .slice (some ⟨b, off, none⟩) nb cb) (c := .slice pc nc cc) (w0 := wr) pa na ca (some ⟨b, off, none⟩) nb cb (.slice pc nc cc) l k s2 ?_ Hl.out.1 HR.out.sc Hs.out).mono ?_; (assumption); rintro e w' ⟨rfl, hbq⟩)
                    | (go_at_call 62; refine (spanValid_held (B := w.heap.size) (a := .slice pa na ca) (b := .slice (some ⟨b, off, none⟩) nb cb) (c := .slice pc nc cc) (w0 := wr) pa na ca l.sl s2 (endOf l k) ?_ HR.out.sl hpos Hsp.out).mono ?_; (assumption); rintro e w' ⟨rfl, hbq⟩))
                rename_i hH
                have hB2 := bthen hb hH.2.2.2
                clear hH
                go_wp2
                go_roundw
                case rel => exact ⟨k + 1, by omega, fun j s hj hs => by
                    by_cases e : j = k
                    · subst e; rw [Hs.out] at hs; cases hs; exact Hsp.out
                    · exact Hf.out j s (by omega) hs, fun s hs => by
                    have h1 := (spanB_iff.1 Hsp.out).2.1
                    rw [endOf_in hs] at h1; omega, by go_num, hB2⟩
                case measure => simp [intOf]; omega
            · have Hall := Lib.hid (allSp_iff.2 fun j s hs => Hf.out j s (by have := (List.getElem?_eq_some_iff.1 hs).1; rw [Hl.out.2.1] at this; omega) hs)
              go_wp2
              go_ret
              exact ⟨ret_bool Hall.out.symm, hB.trans (hb.mono hB.size)⟩
        · rw [h0] at c0
          rw [hbs] at c2
          have h64' : (64 : Int) < nb := by omega
          have hD := Lib.hid (show (decide (s.fr = 0) && true && decide (nb ≤ 64) && allSp l) = false by simp [h64])
          rw [hD.out]
          clear hbs h0 hD Hx
          go_enter Try.func49, Try.ntmps49
          go_wp2
          go_ret
          exact ⟨rfl, below_box.trans (below_box.mono (by simp))⟩
    · have hb : (s.fr != 0) = true := bne_iff_ne.2 h0
      have hD := Lib.hid (show (decide (s.fr = 0) && s.bs && decide (nb ≤ 64) && allSp l) = false by simp [h0])
      rw [hD.out]
      clear hD Hx h0
      go_enter Try.func49, Try.ntmps49
      go_wp2
      go_ret
      exact ⟨rfl, below_box.trans (below_box.mono (by simp))⟩
end Go.Proofs.Ytapfbnhcndifhaa
