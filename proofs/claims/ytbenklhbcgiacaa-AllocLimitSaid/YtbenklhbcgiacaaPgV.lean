/- Contracts of package page on page tables: proper, Proper. -/
import Derived.Test.YtbenklhbcgiacaaPgU
import Derived.Deep.RegionHeld3
import Derived.Laws.EntriesVeiled
namespace Go.Proofs.Ytbenklhbcgiacaa
open Go.RowKit

/-- Page i as its kind asks. -/
def pageOK (pw np : Int) (ps : List Pg) (i : Nat) (x : Pg) : Bool :=
  if x.kind = 0 then freeOK x else if x.kind = 1 then smallOK pw x else if x.kind = 2 then largeOK pw np ps i x else if x.kind = 3 then tailOK pw np ps i x else false
/-- All pages from place i on are as their kinds ask. -/
def tableFrom (pw np : Int) (ps : List Pg) : Nat → List Pg → Bool
  | _, [] => true
  | i, x :: r => pageOK pw np ps i x && tableFrom pw np ps (i + 1) r
def tableOK (pw np : Int) (ps : List Pg) : Bool := tableFrom pw np ps 0 ps
theorem table_step {pw np : Int} {ps : List Pg} {i : Nat} {x : Pg} (h : ps[i]? = some x) : tableFrom pw np ps i (ps.drop i) = (pageOK pw np ps i x && tableFrom pw np ps (i + 1) (ps.drop (i + 1))) := by
  obtain ⟨hi, rfl⟩ := List.getElem?_eq_some_iff.1 h
  rw [List.drop_eq_getElem_cons hi, tableFrom]
theorem table_end {pw np : Int} {ps : List Pg} {i : Nat} (h : ps.length ≤ i) : tableFrom pw np ps i (ps.drop i) = true := by
  rw [List.drop_eq_nil_of_le h, tableFrom]

theorem keep6 {w0 w w' : World} {a b c d e : Addr} {va vb vc vd ve : Value} (h : w.cell? a = some va ∧ w.cell? b = some vb ∧ w.cell? c = some vc ∧ w.cell? d = some vd ∧ w.cell? e = some ve ∧ Below w0.heap.size w0 w) (hb : Below w.heap.size w w') :
    w'.cell? a = some va ∧ w'.cell? b = some vb ∧ w'.cell? c = some vc ∧ w'.cell? d = some vd ∧ w'.cell? e = some ve ∧ Below w0.heap.size w0 w' :=
  ⟨cell_keep hb h.1, cell_keep hb h.2.1, cell_keep hb h.2.2.1, cell_keep hb h.2.2.2.1, cell_keep hb h.2.2.2.2.1, bthen h.2.2.2.2.2 hb⟩

set_option maxHeartbeats 3200000 in
theorem tproper_any (pw np : Int) (p : Option Addr) (n cap : Nat) (ps : List Pg) (w : World) (hr : PRow w p n cap ps) (hn : n ≤ 100000) :
    Calls Try.prog 30 #[.agg #[.int .i64 pw, .int .i64 np, .slice p n cap]] w fun e w' => e = .returned (.bool (tableOK pw np ps)) ∧ Below w.heap.size w w' := by
  have Hr := Lib.hid (fun w' (h : Below w.heap.size w w') => hr.keep h)
  have Hlen := Lib.hid hr.len
  obtain ⟨R, hR⟩ : ∃ R, Hid (tableOK pw np ps = R) := ⟨_, rfl⟩
  rw [hR.out]
  clear hr
  go_enter Try.func30, Try.ntmps30
  go_wp2
  go_loopw [10] (fun u wr => ∃ j : Nat, j ≤ n ∧ tableFrom pw np ps j (ps.drop j) = R ∧ u = .int .i64 j ∧ Below (w.heap.size + 1 + 1) ((w.alloc (.cells #[.int .i64 pw, .int .i64 np, .slice p n cap] 61)).alloc (.cells #[.func (.func 36) #[] #[], .func (.func 37) #[] #[], .func (.func 38) #[] #[], .func (.func 39) #[] #[]] 68)) wr) (fun u _ => n - (intOf u).toNat)
  case atStart => exact ⟨0, by omega, by rw [List.drop_zero]; exact hR.out, rfl, Below.refl _ _⟩
  case round =>
    obtain ⟨j, hj, hf, rfl, hb⟩ := hrel
    have Hf := Lib.hid hf
    have hwr := Lib.hid (below_2.trans (hb.mono (by omega)))
    have t0 : wr.cell? ⟨w.heap.size, 0, none⟩ = some (.int .i64 pw) := by rw [hb.cell (by simp; omega)]; simp
    have t1 : wr.cell? ⟨w.heap.size, 1, none⟩ = some (.int .i64 np) := by rw [hb.cell (by simp; omega)]; simp
    have t2 : wr.cell? ⟨w.heap.size, 2, none⟩ = some (.slice p n cap) := by rw [hb.cell (by simp; omega)]; simp
    have a0 : wr.cell? ⟨w.heap.size + 1, 0, none⟩ = some (.func (.func 36) #[] #[]) := by rw [hb.cell (by simp)]; simp
    have a1 : wr.cell? ⟨w.heap.size + 1, 1, none⟩ = some (.func (.func 37) #[] #[]) := by rw [hb.cell (by simp)]; simp
    have a2 : wr.cell? ⟨w.heap.size + 1, 2, none⟩ = some (.func (.func 38) #[] #[]) := by rw [hb.cell (by simp)]; simp
    have a3 : wr.cell? ⟨w.heap.size + 1, 3, none⟩ = some (.func (.func 39) #[] #[]) := by rw [hb.cell (by simp)]; simp
    clear hf
    by_cases hjn : j < n
    · have hjlt : (j : Int) < n := by omega
      have Hrow := Lib.hid (Hr.out wr hwr.out)
      obtain ⟨x, b1, off, hx, rfl, c0, c1, c2, c3⟩ := Hrow.out.at_ hjn
      have hst := Lib.hid (table_step (pw := pw) (np := np) hx)
      rw [Hf.out] at hst
      have Hx := Lib.hid hx
      clear hx
      by_cases h0 : x.kind = 0
      · have Hk := Lib.hid h0
        rw [h0] at c0
        have hpk := Lib.hid (show pageOK pw np ps j x = freeOK x from by unfold pageOK; simp [Hk.out])
        clear h0
        obtain ⟨V, hV⟩ : ∃ V, Hid (freeOK x = V) := ⟨_, rfl⟩
        have hcall := Lib.hid (fun w' (h : w'.cell? ⟨wr.heap.size, 0, none⟩ = some (.int .i64 0) ∧ w'.cell? ⟨w.heap.size + 1, 0, none⟩ = some (.func (.func 36) #[] #[]) ∧ w'.cell? ⟨w.heap.size, 0, none⟩ = some (.int .i64 pw) ∧ w'.cell? ⟨w.heap.size, 1, none⟩ = some (.int .i64 np) ∧ w'.cell? ⟨w.heap.size, 2, none⟩ = some (.slice (some ⟨b1, off, none⟩) n cap) ∧ Below wr.heap.size wr w') => tfree_is pw np (some ⟨b1, off, none⟩) n cap ps j x w' (Hr.out w' (bthen hwr.out h.2.2.2.2.2)) Hx.out Hk.out)
        rw [hV.out] at hcall hpk
        have hin := Lib.hid (fun w => within_yes (n := 0) (l := 0) (h := 3) (by omega) (by omega) w)
        have wr0 := below_box (w := wr) (o := .cells #[.int .i64 0, .int .i64 x.space, .int .i64 x.used, .int .i64 x.pins] 55)
        have q0 : (wr.alloc (.cells #[.int .i64 0, .int .i64 x.space, .int .i64 x.used, .int .i64 x.pins] 55)).cell? ⟨wr.heap.size, 0, none⟩ = some (.int .i64 0) := by simp
        have k0 := cell_keep wr0 t0
        have k1 := cell_keep wr0 t1
        have k2 := cell_keep wr0 t2
        have ka := cell_keep wr0 a0
        go_wp2_with fail
        go_region_held3 (fun w' => w'.cell? ⟨wr.heap.size, 0, none⟩ = some (.int .i64 0) ∧ w'.cell? ⟨w.heap.size + 1, 0, none⟩ = some (.func (.func 36) #[] #[]) ∧ w'.cell? ⟨w.heap.size, 0, none⟩ = some (.int .i64 pw) ∧ w'.cell? ⟨w.heap.size, 1, none⟩ = some (.int .i64 np) ∧ w'.cell? ⟨w.heap.size, 2, none⟩ = some (.slice (some ⟨b1, off, none⟩) n cap) ∧ Below wr.heap.size wr w')
          (first | exact ⟨q0, ka, k0, k1, k2, wr0.drew⟩ | (exact keep6 ‹_› (Below.drew (Below.refl _ _))) | (exact keep6 ‹_› hbq))
          (first
            | (go_at_call 24; refine (hin.out _).mono ?_; rintro e w' ⟨rfl, rfl⟩)
            | (go_at_call 36; refine (hcall.out _ ‹_›).mono ?_; rintro e w' ⟨rfl, hbq⟩))
        rename_i hH
        have hB := hH.2.2.2.2.2
        clear hH hbq q0 k0 k1 k2 ka
        cases V
        · have E := Lib.hid (show false = R from by rw [hst.out, hpk.out, Bool.false_and])
          go_wp2
          go_ret
          exact ⟨ret_bool E.out, bthen hwr.out hB⟩
        · have E := Lib.hid (show tableFrom pw np ps (j + 1) (ps.drop (j + 1)) = R from by rw [hst.out, hpk.out, Bool.true_and])
          go_wp2
          go_roundw
          case rel => exact ⟨j + 1, by omega, E.out, by go_num, hb.trans (hB.mono (by have := hb.size; simp at this; omega))⟩
          case measure => simp [intOf]; omega
      · by_cases h1 : x.kind = 1
        · have Hk := Lib.hid h1
          rw [h1] at c0
          have hpk := Lib.hid (show pageOK pw np ps j x = smallOK pw x from by unfold pageOK; simp [Hk.out])
          clear h0 h1
          obtain ⟨V, hV⟩ : ∃ V, Hid (smallOK pw x = V) := ⟨_, rfl⟩
          have hcall := Lib.hid (fun w' (h : w'.cell? ⟨wr.heap.size, 0, none⟩ = some (.int .i64 1) ∧ w'.cell? ⟨w.heap.size + 1, 1, none⟩ = some (.func (.func 37) #[] #[]) ∧ w'.cell? ⟨w.heap.size, 0, none⟩ = some (.int .i64 pw) ∧ w'.cell? ⟨w.heap.size, 1, none⟩ = some (.int .i64 np) ∧ w'.cell? ⟨w.heap.size, 2, none⟩ = some (.slice (some ⟨b1, off, none⟩) n cap) ∧ Below wr.heap.size wr w') => tsmall_is pw np (some ⟨b1, off, none⟩) n cap ps j x w' (Hr.out w' (bthen hwr.out h.2.2.2.2.2)) Hx.out)
          rw [hV.out] at hcall hpk
          have hin := Lib.hid (fun w => within_yes (n := 1) (l := 0) (h := 3) (by omega) (by omega) w)
          have wr0 := below_box (w := wr) (o := .cells #[.int .i64 1, .int .i64 x.space, .int .i64 x.used, .int .i64 x.pins] 55)
          have q0 : (wr.alloc (.cells #[.int .i64 1, .int .i64 x.space, .int .i64 x.used, .int .i64 x.pins] 55)).cell? ⟨wr.heap.size, 0, none⟩ = some (.int .i64 1) := by simp
          have k0 := cell_keep wr0 t0
          have k1 := cell_keep wr0 t1
          have k2 := cell_keep wr0 t2
          have ka := cell_keep wr0 a1
          go_wp2_with fail
          go_region_held3 (fun w' => w'.cell? ⟨wr.heap.size, 0, none⟩ = some (.int .i64 1) ∧ w'.cell? ⟨w.heap.size + 1, 1, none⟩ = some (.func (.func 37) #[] #[]) ∧ w'.cell? ⟨w.heap.size, 0, none⟩ = some (.int .i64 pw) ∧ w'.cell? ⟨w.heap.size, 1, none⟩ = some (.int .i64 np) ∧ w'.cell? ⟨w.heap.size, 2, none⟩ = some (.slice (some ⟨b1, off, none⟩) n cap) ∧ Below wr.heap.size wr w')
            (first | exact ⟨q0, ka, k0, k1, k2, wr0.drew⟩ | (exact keep6 ‹_› (Below.drew (Below.refl _ _))) | (exact keep6 ‹_› hbq))
            (first
              | (go_at_call 24; refine (hin.out _).mono ?_; rintro e w' ⟨rfl, rfl⟩)
              | (go_at_call 37; refine (hcall.out _ ‹_›).mono ?_; rintro e w' ⟨rfl, hbq⟩))
          rename_i hH
          have hB := hH.2.2.2.2.2
          clear hH hbq q0 k0 k1 k2 ka
          cases V
          · have E := Lib.hid (show false = R from by rw [hst.out, hpk.out, Bool.false_and])
            go_wp2
            go_ret
            exact ⟨ret_bool E.out, bthen hwr.out hB⟩
          · have E := Lib.hid (show tableFrom pw np ps (j + 1) (ps.drop (j + 1)) = R from by rw [hst.out, hpk.out, Bool.true_and])
            go_wp2
            go_roundw
            case rel => exact ⟨j + 1, by omega, E.out, by go_num, hb.trans (hB.mono (by have := hb.size; simp at this; omega))⟩
            case measure => simp [intOf]; omega
        · by_cases h2 : x.kind = 2
          · have Hk := Lib.hid h2
            rw [h2] at c0
            have hpk := Lib.hid (show pageOK pw np ps j x = largeOK pw np ps j x from by unfold pageOK; simp [Hk.out])
            clear h0 h1 h2
            obtain ⟨V, hV⟩ : ∃ V, Hid (largeOK pw np ps j x = V) := ⟨_, rfl⟩
            have hcall := Lib.hid (fun w' (h : w'.cell? ⟨wr.heap.size, 0, none⟩ = some (.int .i64 2) ∧ w'.cell? ⟨w.heap.size + 1, 2, none⟩ = some (.func (.func 38) #[] #[]) ∧ w'.cell? ⟨w.heap.size, 0, none⟩ = some (.int .i64 pw) ∧ w'.cell? ⟨w.heap.size, 1, none⟩ = some (.int .i64 np) ∧ w'.cell? ⟨w.heap.size, 2, none⟩ = some (.slice (some ⟨b1, off, none⟩) n cap) ∧ Below wr.heap.size wr w') => tlarge_is pw np (some ⟨b1, off, none⟩) n cap ps j x w' (Hr.out w' (bthen hwr.out h.2.2.2.2.2)) Hx.out hn)
            rw [hV.out] at hcall hpk
            have hin := Lib.hid (fun w => within_yes (n := 2) (l := 0) (h := 3) (by omega) (by omega) w)
            have wr0 := below_box (w := wr) (o := .cells #[.int .i64 2, .int .i64 x.space, .int .i64 x.used, .int .i64 x.pins] 55)
            have q0 : (wr.alloc (.cells #[.int .i64 2, .int .i64 x.space, .int .i64 x.used, .int .i64 x.pins] 55)).cell? ⟨wr.heap.size, 0, none⟩ = some (.int .i64 2) := by simp
            have k0 := cell_keep wr0 t0
            have k1 := cell_keep wr0 t1
            have k2 := cell_keep wr0 t2
            have ka := cell_keep wr0 a2
            go_wp2_with fail
            go_region_held3 (fun w' => w'.cell? ⟨wr.heap.size, 0, none⟩ = some (.int .i64 2) ∧ w'.cell? ⟨w.heap.size + 1, 2, none⟩ = some (.func (.func 38) #[] #[]) ∧ w'.cell? ⟨w.heap.size, 0, none⟩ = some (.int .i64 pw) ∧ w'.cell? ⟨w.heap.size, 1, none⟩ = some (.int .i64 np) ∧ w'.cell? ⟨w.heap.size, 2, none⟩ = some (.slice (some ⟨b1, off, none⟩) n cap) ∧ Below wr.heap.size wr w')
              (first | exact ⟨q0, ka, k0, k1, k2, wr0.drew⟩ | (exact keep6 ‹_› (Below.drew (Below.refl _ _))) | (exact keep6 ‹_› hbq))
              (first
                | (go_at_call 24; refine (hin.out _).mono ?_; rintro e w' ⟨rfl, rfl⟩)
                | (go_at_call 38; refine (hcall.out _ ‹_›).mono ?_; rintro e w' ⟨rfl, hbq⟩))
            rename_i hH
            have hB := hH.2.2.2.2.2
            clear hH hbq q0 k0 k1 k2 ka
            cases V
            · have E := Lib.hid (show false = R from by rw [hst.out, hpk.out, Bool.false_and])
              go_wp2
              go_ret
              exact ⟨ret_bool E.out, bthen hwr.out hB⟩
            · have E := Lib.hid (show tableFrom pw np ps (j + 1) (ps.drop (j + 1)) = R from by rw [hst.out, hpk.out, Bool.true_and])
              go_wp2
              go_roundw
              case rel => exact ⟨j + 1, by omega, E.out, by go_num, hb.trans (hB.mono (by have := hb.size; simp at this; omega))⟩
              case measure => simp [intOf]; omega
          · by_cases h3 : x.kind = 3
            · have Hk := Lib.hid h3
              rw [h3] at c0
              have hpk := Lib.hid (show pageOK pw np ps j x = tailOK pw np ps j x from by unfold pageOK; simp [Hk.out])
              clear h0 h1 h2 h3
              obtain ⟨V, hV⟩ : ∃ V, Hid (tailOK pw np ps j x = V) := ⟨_, rfl⟩
              have hcall := Lib.hid (fun w' (h : w'.cell? ⟨wr.heap.size, 0, none⟩ = some (.int .i64 3) ∧ w'.cell? ⟨w.heap.size + 1, 3, none⟩ = some (.func (.func 39) #[] #[]) ∧ w'.cell? ⟨w.heap.size, 0, none⟩ = some (.int .i64 pw) ∧ w'.cell? ⟨w.heap.size, 1, none⟩ = some (.int .i64 np) ∧ w'.cell? ⟨w.heap.size, 2, none⟩ = some (.slice (some ⟨b1, off, none⟩) n cap) ∧ Below wr.heap.size wr w') => ttail_is pw np (some ⟨b1, off, none⟩) n cap ps j x w' (Hr.out w' (bthen hwr.out h.2.2.2.2.2)) Hx.out hn)
              rw [hV.out] at hcall hpk
              have hin := Lib.hid (fun w => within_yes (n := 3) (l := 0) (h := 3) (by omega) (by omega) w)
              have wr0 := below_box (w := wr) (o := .cells #[.int .i64 3, .int .i64 x.space, .int .i64 x.used, .int .i64 x.pins] 55)
              have q0 : (wr.alloc (.cells #[.int .i64 3, .int .i64 x.space, .int .i64 x.used, .int .i64 x.pins] 55)).cell? ⟨wr.heap.size, 0, none⟩ = some (.int .i64 3) := by simp
              have k0 := cell_keep wr0 t0
              have k1 := cell_keep wr0 t1
              have k2 := cell_keep wr0 t2
              have ka := cell_keep wr0 a3
              go_wp2_with fail
              go_region_held3 (fun w' => w'.cell? ⟨wr.heap.size, 0, none⟩ = some (.int .i64 3) ∧ w'.cell? ⟨w.heap.size + 1, 3, none⟩ = some (.func (.func 39) #[] #[]) ∧ w'.cell? ⟨w.heap.size, 0, none⟩ = some (.int .i64 pw) ∧ w'.cell? ⟨w.heap.size, 1, none⟩ = some (.int .i64 np) ∧ w'.cell? ⟨w.heap.size, 2, none⟩ = some (.slice (some ⟨b1, off, none⟩) n cap) ∧ Below wr.heap.size wr w')
                (first | exact ⟨q0, ka, k0, k1, k2, wr0.drew⟩ | (exact keep6 ‹_› (Below.drew (Below.refl _ _))) | (exact keep6 ‹_› hbq))
                (first
                  | (go_at_call 24; refine (hin.out _).mono ?_; rintro e w' ⟨rfl, rfl⟩)
                  | (go_at_call 39; refine (hcall.out _ ‹_›).mono ?_; rintro e w' ⟨rfl, hbq⟩))
              rename_i hH
              have hB := hH.2.2.2.2.2
              clear hH hbq q0 k0 k1 k2 ka
              cases V
              · have E := Lib.hid (show false = R from by rw [hst.out, hpk.out, Bool.false_and])
                go_wp2
                go_ret
                exact ⟨ret_bool E.out, bthen hwr.out hB⟩
              · have E := Lib.hid (show tableFrom pw np ps (j + 1) (ps.drop (j + 1)) = R from by rw [hst.out, hpk.out, Bool.true_and])
                go_wp2
                go_roundw
                case rel => exact ⟨j + 1, by omega, E.out, by go_num, hb.trans (hB.mono (by have := hb.size; simp at this; omega))⟩
                case measure => simp [intOf]; omega
            · have hpk := Lib.hid (show pageOK pw np ps j x = false from by unfold pageOK; rw [if_neg h0, if_neg h1, if_neg h2, if_neg h3])
              have hinq := Lib.hid (show ∀ w : World, Calls Try.prog 24 #[.int .i64 x.kind, .int .i64 0, .int .i64 3] w fun e w' => e = .returned (.bool false) ∧ w' = w from fun w => (within_no (n := x.kind) (l := 0) (h := 3) (by omega) w).mono fun e w' h => ⟨h.1, h.2.symm⟩)
              clear h0 h1 h2 h3
              have wr0 := below_box (w := wr) (o := .cells #[.int .i64 x.kind, .int .i64 x.space, .int .i64 x.used, .int .i64 x.pins] 55)
              have q0 : (wr.alloc (.cells #[.int .i64 x.kind, .int .i64 x.space, .int .i64 x.used, .int .i64 x.pins] 55)).cell? ⟨wr.heap.size, 0, none⟩ = some (.int .i64 x.kind) := by simp
              have k0 := cell_keep wr0 t0
              have k1 := cell_keep wr0 t1
              have k2 := cell_keep wr0 t2
              have ka := cell_keep wr0 a0
              go_wp2_with fail
              go_quiet (first | (go_at_call 24; refine Calls.quiet_of_same (hinq.out _)))
              have E := Lib.hid (show false = R from by rw [hst.out, hpk.out, Bool.false_and])
              go_wp2
              go_ret
              exact ⟨ret_bool E.out, bthen hwr.out (below_drewN wr0 _)⟩
    · have E := Lib.hid (table_end (pw := pw) (np := np) (ps := ps) (i := j) (by rw [Hlen.out]; omega))
      have E2 := Lib.hid (show true = R from by rw [← Hf.out, E.out])
      go_wp2
      go_ret
      exact ⟨ret_bool E2.out, hwr.out⟩
end Go.Proofs.Ytbenklhbcgiacaa
