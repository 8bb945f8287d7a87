/- Contracts of package scope: room. -/
import Derived.Test.YtapfbnhcndifhaaScI
set_option linter.unusedVariables false
namespace Go.Proofs.Ytapfbnhcndifhaa
open Go.RowKit

/-- The error of New. -/
def roomV (l : Loc) (ref : Int) : Int :=
  if okB l = false ∨ ref = 0 then 1 else
  match l.sc[l.sc.length - 1]? with
  | none => 9
  | some s => if (cnt (part l.sl s.fr l.sl.length) : Int) = s.cp then 10 else if l.is.length = 4096 then 18 else 0
theorem roomV_a {l : Loc} {ref : Int} (h : okB l = false ∨ ref = 0) : roomV l ref = 1 := by unfold roomV; rw [if_pos h]
theorem roomV_b {l : Loc} {ref : Int} (h : okB l = true) (h2 : ref ≠ 0) (h3 : l.sc.length = 0) : roomV l ref = 9 := by
  unfold roomV; rw [if_neg (by rw [h]; simp [h2]), List.getElem?_eq_none (by omega)]
theorem roomV_c {l : Loc} {ref : Int} {s : Sp} (h : okB l = true) (h2 : ref ≠ 0) (h3 : l.sc[l.sc.length - 1]? = some s) :
    roomV l ref = if (cnt (part l.sl s.fr l.sl.length) : Int) = s.cp then 10 else if l.is.length = 4096 then 18 else 0 := by
  unfold roomV; rw [if_neg (by rw [h]; simp [h2]), h3]
/-- What is known of the last scope. -/
theorem last_ok {l : Loc} {s : Sp} (h : okB l = true) (h3 : l.sc[l.sc.length - 1]? = some s) : 0 ≤ s.fr ∧ s.fr ≤ l.sl.length ∧ endOf l (l.sc.length - 1) = l.sl.length ∧ (cnt (part l.sl s.fr l.sl.length) : Int) ≤ s.cp ∧ s.cp ≤ 64 := by
  have hok := (okB_iff.1 h).2.1
  have hF := fun k s hs => okSc_fr hok (k := k) (s := s) hs
  have hl := (List.getElem?_eq_some_iff.1 h3).1
  have he : endOf l (l.sc.length - 1) = l.sl.length := endOf_out (by omega)
  refine ⟨fr_nonneg hF _ _ h3, (hF _ _ h3).2.2.1, he, ?_, (hF _ _ h3).2.2.2.2⟩
  have := okSc_cnt hok h3
  rw [he] at this; exact this

theorem heldR_keep {B C : Nat} {a c0 c1 c2 c3 c4 : Value} {w0 w w' : World} (h : w.cell? ⟨B, 0, none⟩ = some a ∧ w.cell? ⟨C, 0, none⟩ = some c0 ∧ w.cell? ⟨C, 1, none⟩ = some c1 ∧ w.cell? ⟨C, 2, none⟩ = some c2 ∧ w.cell? ⟨C, 3, none⟩ = some c3 ∧ w.cell? ⟨B, 2, none⟩ = some c4 ∧ Below w0.heap.size w0 w) (hb : Below w.heap.size w w') :
    w'.cell? ⟨B, 0, none⟩ = some a ∧ w'.cell? ⟨C, 0, none⟩ = some c0 ∧ w'.cell? ⟨C, 1, none⟩ = some c1 ∧ w'.cell? ⟨C, 2, none⟩ = some c2 ∧ w'.cell? ⟨C, 3, none⟩ = some c3 ∧ w'.cell? ⟨B, 2, none⟩ = some c4 ∧ Below w0.heap.size w0 w' :=
  ⟨cell_keep hb h.1, cell_keep hb h.2.1, cell_keep hb h.2.2.1, cell_keep hb h.2.2.2.1, cell_keep hb h.2.2.2.2.1, cell_keep hb h.2.2.2.2.2.1, bthen h.2.2.2.2.2.2 hb⟩
theorem spanLive_heldR {B C : Nat} {a c0 c1 c2 c3 c4 : Value} {w0 w : World} {p : Option Addr} {n cap : Nat} {sl : List Sl} (fr cp : Int) (bs : Bool) (to : Int) (h : w.cell? ⟨B, 0, none⟩ = some a ∧ w.cell? ⟨C, 0, none⟩ = some c0 ∧ w.cell? ⟨C, 1, none⟩ = some c1 ∧ w.cell? ⟨C, 2, none⟩ = some c2 ∧ w.cell? ⟨C, 3, none⟩ = some c3 ∧ w.cell? ⟨B, 2, none⟩ = some c4 ∧ Below w0.heap.size w0 w)
    (hr : VRow w0 3 p n cap (sl.flatMap slC)) (h0 : 0 ≤ fr) (h1 : fr ≤ to) (h2 : to ≤ n) :
    Calls Try.prog 53 #[.agg #[.int .i64 fr, .int .i64 cp, .bool bs, .int .i64 to], .slice p n cap] w fun e w' => e = .returned (.int .i64 (cnt (part sl fr to))) ∧ Below w.heap.size w w' :=
  spanLive_any p n cap sl fr cp bs to w (hr.keep h.2.2.2.2.2.2) h0 h1 h2

set_option maxRecDepth 100000 in
set_option maxHeartbeats 3200000 in
theorem room_any (pa : Option Addr) (na ca : Nat) (pb : Option Addr) (nb cb : Nat) (pc : Option Addr) (nc cc : Nat) (l : Loc) (ref : Int) (w : World) (hr : LRow w pa na ca pb nb cb pc nc cc l) :
    Calls Try.prog 37 #[.agg #[.slice pa na ca, .slice pb nb cb, .slice pc nc cc], .int .u64 ref] w fun e w' => e = .returned (.int .i64 (roomV l ref)) ∧ Below w.heap.size w w' := by
  have Hl := Lib.hid hr.lens
  obtain ⟨h63a, h63b, h63c⟩ := hr.i63
  have Hr := Lib.hid (fun w' (h : Below w.heap.size w w') => hr.keep h)
  have hv := Lib.hid (fun w h => scValid_any pa na ca pb nb cb pc nc cc l w h)
  clear hr
  cases h1 : okB l
  · have E := Lib.hid (roomV_a (ref := ref) (Or.inl h1))
    rw [h1] at hv
    rw [E.out]
    clear h1
    go_enter Try.func37, Try.ntmps37
    go_wp2_with (((go_at_call 35; refine (hv.out _ (Hr.out _ below_box)).mono ?_); rintro e w2 ⟨rfl, hb2⟩))
    go_ret
    exact ⟨rfl, below_boxed hb2⟩
  · rw [h1] at hv
    by_cases h2 : ref = 0
    · have E := Lib.hid (roomV_a (l := l) (Or.inr h2))
      rw [E.out]
      subst h2
      clear h1
      go_enter Try.func37, Try.ntmps37
      go_wp2_with (((go_at_call 35; refine (hv.out _ (Hr.out _ below_box)).mono ?_); rintro e w2 ⟨rfl, hb2⟩))
      go_ret
      exact ⟨rfl, below_boxed hb2⟩
    · have hre : (ref == 0) = false := beq_eq_false_iff_ne.2 h2
      by_cases h3 : nb = 0
      · have E := Lib.hid (roomV_b h1 h2 (by have := Hl.out.2.1; omega))
        rw [E.out]
        have hbz : ((nb : Int) == 0) = true := beq_iff_eq.2 (by omega)
        clear h1 h2 h3
        go_enter Try.func37, Try.ntmps37
        go_wp2_with (((go_at_call 35; refine (hv.out _ (Hr.out _ below_box)).mono ?_); rintro e w2 ⟨rfl, hb2⟩; have f0 := box_cell hb2 0 rfl; have f1 := box_cell hb2 1 rfl; have f2 := box_cell hb2 2 rfl))
        go_ret
        exact ⟨rfl, below_boxed hb2⟩
      · obtain ⟨s, hs⟩ : ∃ s, l.sc[l.sc.length - 1]? = some s := ⟨_, List.getElem?_eq_getElem (by have := Hl.out.2.1; omega)⟩
        obtain ⟨p0, p1, p2, p3, p4⟩ := last_ok h1 hs
        have E := Lib.hid (roomV_c h1 h2 hs)
        rw [E.out]
        obtain ⟨k, hk⟩ : ∃ k, k = nb - 1 := ⟨_, rfl⟩
        have hk1 : (nb : Int) - 1 = (k : Int) := by omega
        rw [Hl.out.2.1, ← hk] at hs
        rw [Hl.out.2.1, ← hk, Hl.out.1] at p2
        rw [Hl.out.1] at p1 p3 ⊢
        have hbz : ((nb : Int) == 0) = false := beq_eq_false_iff_ne.2 (by omega)
        have hso := Lib.hid (fun w h => spanOf_any pa na ca pb nb cb (.slice pc nc cc) l k s w Hl.out.1 h hs)
        rw [p2] at hso
        have Hk := Lib.hid hk
        have HN : Hid (l.is.length = nc) := Lib.hid Hl.out.2.2
        rw [HN.out]
        clear h1 h2 h3 hk E hs p2
        obtain ⟨fr, cp, bs⟩ := s
        simp only at p0 p1 p3 p4 hso ⊢
        obtain ⟨C, hC⟩ : ∃ C : Nat, Hid (cnt (part l.sl fr na) = C) := ⟨_, rfl⟩
        rw [hC.out] at p3 ⊢
        have hposts : ((C : Int) == cp) = true ∨ ((C : Int) == cp) = false ∧ ((nc : Int) == 4096) = true ∨ ((C : Int) == cp) = false ∧ ((nc : Int) == 4096) = false := by
          cases (C : Int) == cp <;> cases (nc : Int) == 4096 <;> simp
        obtain ⟨R, hR⟩ : ∃ R : Int, Hid ((if (C : Int) = cp then (10 : Int) else if nc = 4096 then 18 else 0) = R) := ⟨_, rfl⟩
        rw [hR.out]
        go_enter Try.func37, Try.ntmps37
        go_wp2_with (first
          | ((go_at_call 35; refine (hv.out _ (Hr.out _ below_box)).mono ?_); rintro e w2 ⟨rfl, hb2⟩; have f0 := box_cell hb2 0 rfl; have f1 := box_cell hb2 1 rfl; have f2 := box_cell hb2 2 rfl; have HB := Lib.hid (below_boxed hb2))
          | ((go_at_call 52; refine (hso.out _ (Hr.out _ HB.out).sc).mono ?_); rintro e w3 ⟨rfl, hb3⟩; have g0 := cell_keep hb3 f0; have g1 := cell_keep hb3 f1; have g2 := cell_keep hb3 f2; have HB3 := Lib.hid (bthen HB.out hb3); clear f0 f1 f2))
        obtain ⟨w4, hw4⟩ : ∃ w4, w3.alloc (.cells #[.int .i64 fr, .int .i64 cp, .bool bs, .int .i64 na] 95) = w4 := ⟨_, rfl⟩
        have d0 : w4.cell? ⟨w3.heap.size, 0, none⟩ = some (.int .i64 fr) := by rw [← hw4]; simp
        have d1 : w4.cell? ⟨w3.heap.size, 1, none⟩ = some (.int .i64 cp) := by rw [← hw4]; simp
        have d2 : w4.cell? ⟨w3.heap.size, 2, none⟩ = some (.bool bs) := by rw [← hw4]; simp
        have d3 : w4.cell? ⟨w3.heap.size, 3, none⟩ = some (.int .i64 na) := by rw [← hw4]; simp
        have e0 : w4.cell? ⟨w.heap.size, 0, none⟩ = some (.slice pa na ca) := by rw [← hw4]; exact cell_keep below_box g0
        have e2 : w4.cell? ⟨w.heap.size, 2, none⟩ = some (.slice pc nc cc) := by rw [← hw4]; exact cell_keep below_box g2
        have HB4 := Lib.hid (show Below w.heap.size w w4 from by rw [← hw4]; exact bthen HB3.out below_box)
        rw [hw4]
        clear hw4 g0 g1 g2
        go_region_held3 (fun w' => w'.cell? ⟨w.heap.size, 0, none⟩ = some (.slice pa na ca) ∧ w'.cell? ⟨w3.heap.size, 0, none⟩ = some (.int .i64 fr) ∧ w'.cell? ⟨w3.heap.size, 1, none⟩ = some (.int .i64 cp) ∧ w'.cell? ⟨w3.heap.size, 2, none⟩ = some (.bool bs) ∧ w'.cell? ⟨w3.heap.size, 3, none⟩ = some (.int .i64 na) ∧ w'.cell? ⟨w.heap.size, 2, none⟩ = some (.slice pc nc cc) ∧ Below w4.heap.size w4 w')
          (first | exact ⟨e0, d0, d1, d2, d3, e2, Below.drew (Below.refl _ _)⟩ | (exact heldR_keep ‹_› hbq) | assumption)
          (first
            | (go_at_call 53; refine (spanLive_heldR (B := w.heap.size) (C := w3.heap.size) (a := .slice pa na ca) (c0 := .int .i64 fr) (c1 := .int .i64 cp) (c2 := .bool bs) (c3 := .int .i64 na) (c4 := .slice pc nc cc) (w0 := w4) (p := pa) (n := na) (cap := ca) (sl := l.sl) fr cp bs na ?_ (Hr.out _ HB4.out).sl p0 p1 (Int.le_refl _)).mono ?_; (assumption); rintro e w' ⟨rfl, hbq⟩; rw [hC.out]))
        rename_i hH
        have HB5 := Lib.hid (bthen HB4.out hH.2.2.2.2.2.2)
        have k2 := hH.2.2.2.2.2.1
        clear hH
        rcases hposts with q | ⟨q, q2⟩ | ⟨q, q2⟩
        · have hRv := Lib.hid (show R = 10 from by rw [← hR.out, if_pos (eq_of_beq q)])
          go_wp2
          go_ret
          exact ⟨ret_int hRv.out.symm, HB5.out⟩
        · have hRv := Lib.hid (show R = 18 from by rw [← hR.out, if_neg (by rw [beq_eq_false_iff_ne] at q; exact q), if_pos (by have := eq_of_beq q2; omega)])
          go_wp2
          go_ret
          exact ⟨ret_int hRv.out.symm, HB5.out⟩
        · have hRv := Lib.hid (show R = 0 from by rw [← hR.out, if_neg (by rw [beq_eq_false_iff_ne] at q; exact q), if_neg (by rw [beq_eq_false_iff_ne] at q2; omega)])
          go_wp2
          go_ret
          exact ⟨ret_int hRv.out.symm, HB5.out⟩
end Go.Proofs.Ytapfbnhcndifhaa
