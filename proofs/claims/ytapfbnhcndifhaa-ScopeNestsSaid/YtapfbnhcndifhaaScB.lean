/- Contracts of package scope: issued, spanOf, span.valid. -/
import Derived.Test.YtapfbnhcndifhaaScA
import Derived.Test.YtapfbnhcndifhaaDraw
namespace Go.Proofs.Ytapfbnhcndifhaa
open Go.RowKit

set_option maxHeartbeats 800000 in
theorem issued_any (va vb : Value) (pc : Option Addr) (nc cc : Nat) (is : List Int) (i st : Int) (w : World) (hr : SRow w .i64 pc nc cc is) :
    Calls Try.prog 57 #[.agg #[va, vb, .slice pc nc cc], .int .i64 i, .int .i64 st] w fun e w' => e = .returned (.bool (issB is i st)) ∧ Below w.heap.size w w' := by
  have hl := hr.i63.2
  have Hr := Lib.hid (fun w' (h : Below w.heap.size w w') => hr.keep h)
  have Hlen := Lib.hid hr.len
  clear hr
  by_cases h1 : 1 ≤ st
  · by_cases h2 : st ≤ nc
    · obtain ⟨k, hk⟩ : ∃ k : Nat, st - 1 = k := ⟨(st - 1).toNat, by omega⟩
      obtain ⟨x, b, off, hx, rfl, c0⟩ := (Hr.out (w.alloc (.cells #[va, vb, .slice pc nc cc] 28)) below_box).at_ (k := k) (by omega)
      have H := Lib.hid (issB_mid (i := i) h1 (by rw [Hlen.out]; exact h2) hk hx)
      have hk1 : k < nc := by omega
      have hk2 : (k : Int) < nc := by omega
      have hk0 : st - 1 = (k : Int) := hk
      clear hx hk
      go_enter Try.func57, Try.ntmps57
      go_wp2
      go_ret
      exact ⟨ret_bool H.out.symm, below_box⟩
    · have H := Lib.hid (issB_hi (is := is) (i := i) (st := st) (by rw [Hlen.out]; omega))
      go_enter Try.func57, Try.ntmps57
      go_wp2
      go_ret
      exact ⟨ret_bool H.out.symm, below_box⟩
  · have H := Lib.hid (issB_lo (is := is) (i := i) (st := st) (by omega))
    go_enter Try.func57, Try.ntmps57
    go_wp2
    go_ret
    exact ⟨ret_bool H.out.symm, below_box⟩

theorem endOf_in {l : Loc} {k : Nat} {s : Sp} (h : l.sc[k + 1]? = some s) : endOf l k = s.fr := by unfold endOf; rw [h]
theorem endOf_out {l : Loc} {k : Nat} (h : l.sc.length ≤ k + 1) : endOf l k = l.sl.length := by unfold endOf; rw [List.getElem?_eq_none h]

set_option maxHeartbeats 1600000 in
theorem spanOf_any (pa : Option Addr) (na ca : Nat) (pb : Option Addr) (nb cb : Nat) (vc : Value) (l : Loc) (k : Nat) (s : Sp) (w : World) (hl : l.sl.length = na) (hr : VRow w 3 pb nb cb (l.sc.flatMap spC)) (hs : l.sc[k]? = some s) :
    Calls Try.prog 52 #[.agg #[.slice pa na ca, .slice pb nb cb, vc], .int .i64 k] w fun e w' => e = .returned (.agg #[.int .i64 s.fr, .int .i64 s.cp, .bool s.bs, .int .i64 (endOf l k)]) ∧ Below w.heap.size w w' := by
  have h63 := hr.i63.2
  have hlen : l.sc.length = nb := by have h := hr.len; rw [flat_len _ 3 spC_len] at h; omega
  have hkn : k < nb := by rw [← hlen]; exact (List.getElem?_eq_some_iff.1 hs).1
  have hkn2 : (k : Int) < nb := by omega
  have hr1 := (hr.keep (w' := w.alloc (.cells #[.slice pa na ca, .slice pb nb cb, vc] 28)) below_box).keep (w' := (w.alloc (.cells #[.slice pa na ca, .slice pb nb cb, vc] 28)).alloc (.cells #[.int .i64 0, .int .i64 0, .bool false, .int .i64 0] 95)) below_box
  obtain ⟨s', b, off, hx, rfl, c0, c1, c2⟩ := scope_at hr1 hkn
  obtain rfl : s = s' := by rw [hs] at hx; cases hx; rfl
  have hbA : b < w.heap.size := by
    obtain ⟨_, b', off', _, hp', e0, _, _⟩ := scope_at hr hkn
    cases hp'; exact cell_lt e0
  have hn1 : b ≠ w.heap.size := by omega
  have hn2 : b ≠ w.heap.size + 1 := by omega
  by_cases hlt : k + 1 < nb
  · obtain ⟨s2, b2, off2, hx2, hp2, d0, d1, d2⟩ := scope_at hr1 hlt
    simp only [Option.some.injEq, Addr.mk.injEq, and_true] at hp2
    obtain ⟨rfl, rfl⟩ := hp2
    have E := Lib.hid (endOf_in hx2)
    rw [E.out]
    have hlt2 : (k : Int) + 1 < nb := by omega
    have Hl := Lib.hid hl
    clear hr hr1 hs hx hx2 hlen hl E d1 d2
    go_enter Try.func52, Try.ntmps52
    go_wp2
    go_region
    all_goals go_wp2
    exact bodyPost_ret (v := .agg #[.int .i64 s.fr, .int .i64 s.cp, .bool s.bs, .int .i64 s2.fr]) (by simp [results, Try.results52, go_sem]) rfl ⟨rfl, ((below_box.alloc (by simp) _).drew)⟩
  · have E := Lib.hid ((endOf_out (l := l) (k := k) (by omega)).trans (by rw [hl]))
    rw [E.out]
    have hlt2 : (nb : Int) ≤ (k : Int) + 1 := by omega
    clear hr hr1 hs hx hlen hl E
    go_enter Try.func52, Try.ntmps52
    go_wp2
    go_region
    all_goals go_wp2
    exact bodyPost_ret (v := .agg #[.int .i64 s.fr, .int .i64 s.cp, .bool s.bs, .int .i64 na]) (by simp [results, Try.results52, go_sem]) rfl ⟨rfl, ((below_box.alloc (by simp) _).drew)⟩
/-- A box of four cells that is held while memory is made. -/
def Held4 (B : Nat) (a b c d : Value) (w0 w : World) : Prop := w.cell? ⟨B, 0, none⟩ = some a ∧ w.cell? ⟨B, 1, none⟩ = some b ∧ w.cell? ⟨B, 2, none⟩ = some c ∧ w.cell? ⟨B, 3, none⟩ = some d ∧ Below w0.heap.size w0 w
theorem Held4.keep {B : Nat} {a b c d : Value} {w0 w w' : World} (h : w.cell? ⟨B, 0, none⟩ = some a ∧ w.cell? ⟨B, 1, none⟩ = some b ∧ w.cell? ⟨B, 2, none⟩ = some c ∧ w.cell? ⟨B, 3, none⟩ = some d ∧ Below w0.heap.size w0 w) (hb : Below w.heap.size w w') :
    w'.cell? ⟨B, 0, none⟩ = some a ∧ w'.cell? ⟨B, 1, none⟩ = some b ∧ w'.cell? ⟨B, 2, none⟩ = some c ∧ w'.cell? ⟨B, 3, none⟩ = some d ∧ Below w0.heap.size w0 w' :=
  ⟨cell_keep hb h.1, cell_keep hb h.2.1, cell_keep hb h.2.2.1, cell_keep hb h.2.2.2.1, bthen h.2.2.2.2 hb⟩
theorem spanLive_held {B : Nat} {a b c d : Value} {w0 w : World} {p : Option Addr} {n cap : Nat} {sl : List Sl} (fr cp : Int) (bs : Bool) (to : Int) (h : w.cell? ⟨B, 0, none⟩ = some a ∧ w.cell? ⟨B, 1, none⟩ = some b ∧ w.cell? ⟨B, 2, none⟩ = some c ∧ w.cell? ⟨B, 3, none⟩ = some d ∧ Below w0.heap.size w0 w)
    (hr : VRow w0 3 p n cap (sl.flatMap slC)) (h0 : 0 ≤ fr) (h1 : fr ≤ to) (h2 : to ≤ n) :
    Calls Try.prog 53 #[.agg #[.int .i64 fr, .int .i64 cp, .bool bs, .int .i64 to], .slice p n cap] w fun e w' => e = .returned (.int .i64 (cnt (part sl fr to))) ∧ Below w.heap.size w w' :=
  spanLive_any p n cap sl fr cp bs to w (hr.keep h.2.2.2.2) h0 h1 h2

set_option maxHeartbeats 1600000 in
theorem spanValid_any (p : Option Addr) (n cap : Nat) (sl : List Sl) (s : Sp) (to : Int) (w : World) (hr : VRow w 3 p n cap (sl.flatMap slC)) (h0 : 0 ≤ s.fr) :
    Calls Try.prog 62 #[.agg #[.int .i64 s.fr, .int .i64 s.cp, .bool s.bs, .int .i64 to], .slice p n cap] w fun e w' => e = .returned (.bool (spanB sl s to)) ∧ Below w.heap.size w w' := by
  have h63 := hr.i63.2
  have hlen : sl.length = n := by have h := hr.len; rw [flat_len _ 3 slC_len] at h; omega
  obtain ⟨fr, cp, bs⟩ := s
  simp only at h0 ⊢
  unfold spanB
  simp only
  rw [hlen]
  have hv := Lib.hid (fun w => (validCap_any cp w).mono (fun e w' h => (⟨h.1, h.2.symm⟩ : e = .returned (.bool (capB cp)) ∧ w' = w)))
  have hv2 := Lib.hid (fun w => validCap_any cp w)
  have Hr := Lib.hid (hr.keep (w' := w.alloc (.cells #[.int .i64 fr, .int .i64 cp, .bool bs, .int .i64 to] 95)) below_box)
  clear hr hlen
  cases hc : capB cp
  · simp only [Bool.false_and]
    rw [hc] at hv
    clear hc hv2
    go_enter Try.func62, Try.ntmps62
    go_wp2
    go_quiet ((go_at_call 51; exact Calls.quiet_of_same (hv.out _)))
    go_wp2
    go_ret
    exact ⟨rfl, below_drewN below_box _⟩
  · simp only [Bool.true_and]
    rw [hc] at hv hv2
    clear hc
    by_cases h1 : fr ≤ to
    · by_cases h2 : to ≤ n
      · clear hv
        go_enter Try.func62, Try.ntmps62
        go_wp2
        obtain ⟨w1, hw1⟩ : ∃ w1, w.alloc (.cells #[.int .i64 fr, .int .i64 cp, .bool bs, .int .i64 to] 95) = w1 := ⟨_, rfl⟩
        have d0 : w1.cell? ⟨w.heap.size, 0, none⟩ = some (.int .i64 fr) := by rw [← hw1]; simp
        have d1 : w1.cell? ⟨w.heap.size, 1, none⟩ = some (.int .i64 cp) := by rw [← hw1]; simp
        have d2 : w1.cell? ⟨w.heap.size, 2, none⟩ = some (.bool bs) := by rw [← hw1]; simp
        have d3 : w1.cell? ⟨w.heap.size, 3, none⟩ = some (.int .i64 to) := by rw [← hw1]; simp
        have hB : Below w.heap.size w w1 := by rw [← hw1]; exact below_box
        rw [hw1] at Hr ⊢
        clear hw1
        go_region_held3 (fun w' => w'.cell? ⟨w.heap.size, 0, none⟩ = some (.int .i64 fr) ∧ w'.cell? ⟨w.heap.size, 1, none⟩ = some (.int .i64 cp) ∧ w'.cell? ⟨w.heap.size, 2, none⟩ = some (.bool bs) ∧ w'.cell? ⟨w.heap.size, 3, none⟩ = some (.int .i64 to) ∧ Below w1.heap.size w1 w')
          (first | exact ⟨d0, d1, d2, d3, Below.drew (Below.refl _ _)⟩ | (exact Held4.keep ‹_› hbq) | assumption)
          (first
            | (go_at_call 51; refine (hv2.out _).mono ?_; rintro e w' ⟨rfl, rfl⟩)
            | (go_at_call 53; refine (spanLive_held (B := w.heap.size) (a := .int .i64 fr) (b := .int .i64 cp) (c := .bool bs) (d := .int .i64 to) (w0 := w1) (p := p) (n := n) (cap := cap) (sl := sl) fr cp bs to ?_ Hr.out h0 h1 h2).mono ?_; (assumption); rintro e w' ⟨rfl, hbq⟩))
        rename_i hH
        have hB2 := hB.trans (hH.2.2.2.2.mono hB.size)
        clear hH
        go_wp2
        go_ret
        exact ⟨ret_bool (by simp [h1, h2]), hB2⟩
      · clear hv2
        have b1 : decide (fr ≤ to) = true := by simpa using h1
        have b2 : decide (to ≤ (n : Int)) = false := by simpa using h2
        go_enter Try.func62, Try.ntmps62
        go_wp2
        go_quiet ((go_at_call 51; exact Calls.quiet_of_same (hv.out _)))
        go_wp2
        go_ret
        exact ⟨ret_bool (by simp [b1, b2]), below_drewN below_box _⟩
    · clear hv2
      have b1 : decide (fr ≤ to) = false := by simpa using h1
      go_enter Try.func62, Try.ntmps62
      go_wp2
      go_quiet ((go_at_call 51; exact Calls.quiet_of_same (hv.out _)))
      go_wp2
      go_ret
      exact ⟨ret_bool (by simp [b1]), below_drewN below_box _⟩
end Go.Proofs.Ytapfbnhcndifhaa
