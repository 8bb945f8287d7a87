/- The laws of layer 4 walked: PageConfs, PageAddresses, PageNew, PageRuns. -/
import Derived.Test.YtnelnabeajkpfaaPgW
import Derived.Test.YtnelnabeajkpfaaPgY
import Derived.Test.YtnelnabeajkpfaaHeapS
namespace Go.Proofs.Ytnelnabeajkpfaa
open Go.RowKit

theorem table_zeros (pw np : Int) (ps : List Pg) : ∀ (l : List Pg) (i : Nat), (∀ x ∈ l, x = Pg.zero) → tableFrom pw np ps i l = true
  | [], _, _ => rfl
  | x :: r, i, h => by
    have hx := h x (by simp)
    subst hx
    rw [tableFrom, table_zeros pw np ps r (i + 1) fun y hy => h y (by simp [hy])]
    rfl
theorem new_proper {pw np : Int} (hv : confB pw np = true) : properP pw np (List.replicate (np * pw).toNat (0 : Int)).length (List.replicate np.toNat Pg.zero) 0 (-1) = true := by
  obtain ⟨g1, g2⟩ := conf_prod hv
  obtain ⟨k1, k2, -, k4, k5⟩ := conf_parts hv
  have h1 : (((List.replicate (np * pw).toNat (0 : Int)).length : Nat) : Int) = np * pw := by rw [List.length_replicate]; omega
  have h2 : (((List.replicate np.toNat Pg.zero).length : Nat) : Int) = np := by rw [List.length_replicate]; omega
  have h3 : tableOK pw np (List.replicate np.toNat Pg.zero) = true := table_zeros _ _ _ _ _ fun x hx => (List.mem_replicate.1 hx).2
  have h4 : bumpB (List.replicate np.toNat Pg.zero) (-1) = true := decide_eq_true (Or.inl rfl)
  unfold properP
  rw [hv, decide_eq_true h1, decide_eq_true h2, h3, h4]
  rfl

set_option maxHeartbeats 400000 in
theorem conf_any (w : World) :
    Calls Try.prog 31 #[] w fun e w' => e = .returned (.agg #[.int .i64 16, .int .i64 8]) ∧ Below w.heap.size w w' := by
  go_enter Try.func31, Try.ntmps31
  go_wp2
  refine bodyPost_ret (v := .agg #[.int .i64 16, .int .i64 8]) (by simp [results, Try.results31, go_sem]) rfl ?_
  exact ⟨rfl, below_box⟩

set_option maxHeartbeats 1600000 in
theorem awake_any (w : World) :
    Calls Try.prog 7 #[] w fun e w' => e = .returned (.bool true) ∧ Below w.heap.size w w' := by
  have hcf := Lib.hid conf_any
  have hn := Lib.hid (fun w => pnew_any 16 8 w)
  have ha := Lib.hid (fun w => address_any 16 8 1 2 w)
  have hl := Lib.hid (fun w => limit_any 16 8 w)
  have hp := Lib.hid (fun w p n c q m d (hs : SRow w .u64 p n c (List.replicate 128 0)) (hr : PRow w q m d (List.replicate 8 Pg.zero)) => pproper_any 16 8 p q n c m d 0 (-1) (List.replicate 128 0) (List.replicate 8 Pg.zero) w hs hr)
  have hP : properP 16 8 (List.replicate 128 (0 : Int)).length (List.replicate 8 Pg.zero) 0 (-1) = true := new_proper (pw := 16) (np := 8) (by decide)
  rw [hP] at hp
  rw [show newHV 16 8 = ⟨16, 8, List.replicate 128 0, List.replicate 8 Pg.zero, 0, -1⟩ from (newH_ok (by decide)).1, show newHE 16 8 = 0 from by decide] at hn
  rw [show addrV 16 8 1 2 = 4114 from by decide, show addrE 16 8 1 2 = 0 from by decide] at ha
  rw [show limitV 16 8 = 2 from by decide] at hl
  clear hP
  go_enter Try.func7, Try.ntmps7
  go_wp2_with fail
  refine (hcf.out _).mono ?_
  rintro e w1 ⟨rfl, hb1⟩
  go_wp2_with fail
  refine (hn.out _).mono ?_
  rintro e w2 ⟨⟨v, rfl, p, n, c, q, m, d, rfl, hs, hr, -⟩, hb2⟩
  have hw2 := Lib.hid (bthen hb1 hb2)
  have Hs := Lib.hid hs
  have Hr := Lib.hid hr
  have hn128 : n = 128 := by have := hs.len; simpa using this.symm
  subst hn128
  obtain ⟨c0, c1, c2, c3, c4, c5, hbx⟩ := boxH w2 (.int .i64 16) (.int .i64 8) (.slice p 128 c) (.slice q m d) (.int .i64 0) (.int .i64 (-1)) 39
  clear hb1 hb2 hs hr hn
  go_wp2_with fail
  refine (hcf.out _).mono ?_
  rintro e w3 ⟨rfl, hb3⟩
  go_wp2_with fail
  refine (ha.out _).mono ?_
  rintro e w4 ⟨rfl, hb4⟩
  have hb4 := bthen hb3 hb4
  have c0 := cell_keep hb4 c0
  have c1 := cell_keep hb4 c1
  have c2 := cell_keep hb4 c2
  have c3 := cell_keep hb4 c3
  have c4 := cell_keep hb4 c4
  have c5 := cell_keep hb4 c5
  have hx4 := bthen hbx hb4
  have hw4 := Lib.hid (bthen hw2.out hx4)
  have Hs4 := Lib.hid (Hs.out.keep hx4)
  have Hr4 := Lib.hid (Hr.out.keep hx4)
  clear hb3 hb4 hbx hx4 hw2 Hs Hr ha
  go_wp2_with fail
  refine (hp.out _ _ _ _ _ _ _ Hs4.out Hr4.out).mono ?_
  rintro e w5 ⟨rfl, hb5⟩
  go_wp2_with fail
  refine (hcf.out _).mono ?_
  rintro e w6 ⟨rfl, hb6⟩
  go_wp2_with fail
  refine (hl.out _).mono ?_
  rintro e w7 ⟨rfl, hb7⟩
  go_wp2
  go_ret
  exact ⟨rfl, bthen (bthen (bthen hw4.out hb5) hb6) hb7⟩

theorem keep2 {w0 w w' : World} {b : Nat} {x y : Value} (h : w.cell? ⟨b, 0, none⟩ = some x ∧ w.cell? ⟨b, 1, none⟩ = some y ∧ Below w0.heap.size w0 w) (hb : Below w.heap.size w w') :
    w'.cell? ⟨b, 0, none⟩ = some x ∧ w'.cell? ⟨b, 1, none⟩ = some y ∧ Below w0.heap.size w0 w' := ⟨cell_keep hb h.1, cell_keep hb h.2.1, bthen h.2.2 hb⟩

set_option maxHeartbeats 3200000 in
theorem lawConfs (pw np n : Int) (w : World) :
    Calls Try.prog 3 #[.agg #[.int .i64 pw, .int .i64 np], .int .i64 n] w fun e w' => e = .returned (.bool true) ∧ Below w.heap.size w w' := by
  have h1 := Lib.hid (fun w => valid_any pw np w)
  have h2 := Lib.hid (fun w => refConf_any pw np w)
  have h3 := Lib.hid (fun w => limit_any pw np w)
  have h4 := Lib.hid (fun w => refLimit_any pw np w)
  have h5 := Lib.hid (fun w => small_any pw np w)
  have h6 := Lib.hid (fun w => refSmall_any pw np w)
  have h7 := Lib.hid (fun w => need_any pw np n w)
  have h8 := Lib.hid (fun w => refNeed_any pw np n w)
  generalize confB pw np = b1 at h1 h2
  generalize limitV pw np = b2 at h3 h4
  generalize smallV pw np = b3 at h5 h6
  generalize needV pw np n = b4 at h7 h8
  have d0 : (w.alloc (.cells #[.int .i64 pw, .int .i64 np] 23)).cell? ⟨w.heap.size, 0, none⟩ = some (.int .i64 pw) := by simp
  have d1 : (w.alloc (.cells #[.int .i64 pw, .int .i64 np] 23)).cell? ⟨w.heap.size, 1, none⟩ = some (.int .i64 np) := by simp
  have hbx := below_box (w := w) (o := .cells #[.int .i64 pw, .int .i64 np] 23)
  go_enter Try.func3, Try.ntmps3
  go_wp2_with fail
  go_region_held3 (fun w' => w'.cell? ⟨w.heap.size, 0, none⟩ = some (.int .i64 pw) ∧ w'.cell? ⟨w.heap.size, 1, none⟩ = some (.int .i64 np) ∧ Below w.heap.size w w')
    (first | exact ⟨d0, d1, hbx.drew⟩ | (exact keep2 ‹_› (Below.drew (Below.refl _ _))) | (exact keep2 ‹_› hbq))
    (first
      | (go_at_call 7; refine (awake_any _).mono ?_; rintro e w' ⟨rfl, hbq⟩)
      | (go_at_call 8; refine (h1.out _).mono ?_; rintro e w' ⟨rfl, hbq⟩)
      | (go_at_call 9; refine (h2.out _).mono ?_; rintro e w' ⟨rfl, hbq⟩)
      | (go_at_call 10; refine (h3.out _).mono ?_; rintro e w' ⟨rfl, hbq⟩)
      | (go_at_call 11; refine (h4.out _).mono ?_; rintro e w' ⟨rfl, hbq⟩)
      | (go_at_call 12; refine (h5.out _).mono ?_; rintro e w' ⟨rfl, hbq⟩)
      | (go_at_call 13; refine (h6.out _).mono ?_; rintro e w' ⟨rfl, hbq⟩)
      | (go_at_call 14; refine (h7.out _).mono ?_; rintro e w' ⟨rfl, hbq⟩)
      | (go_at_call 15; refine (h8.out _).mono ?_; rintro e w' ⟨rfl, hbq⟩))
  rename_i hH
  have hB := hH.2.2
  go_wp2
  go_ret
  exact ⟨rfl, hB⟩
end Go.Proofs.Ytnelnabeajkpfaa
