/- The laws of layer 4 walked: PageAddresses, PageNew, PageRuns. -/
import Derived.Test.YtnelnabeajkpfaaPgL
namespace Go.Proofs.Ytnelnabeajkpfaa
open Go.RowKit

theorem errE {pw np p o : Int} : (addrE pw np p o = 0 ∧ confB pw np = true ∧ inPg pw np p o = true) ∨ (¬ addrE pw np p o = 0) := by
  cases hv : confB pw np
  · right; rw [(addr_no hv).2]; decide
  · cases hi : inPg pw np p o
    · right; rw [(addr_out hv hi).2]; decide
    · left; exact ⟨(addr_ok hv hi).2, rfl, rfl⟩
theorem addr_lt {pw np p o : Int} (hv : confB pw np = true) (hi : inPg pw np p o = true) : 0 ≤ 4096 + p * pw + o ∧ 4096 + p * pw + o < 18446744073709551616 := by
  unfold inPg at hi
  obtain ⟨a, b, c, d⟩ := of_decide_eq_true hi
  obtain ⟨g1, g2⟩ := page_prod hv a b
  obtain ⟨g3, g4⟩ := conf_prod hv
  obtain ⟨-, k2, -, -, -⟩ := conf_parts hv
  omega

set_option maxHeartbeats 3200000 in
theorem lawAddresses (pw np p o a : Int) (w : World) (ha : 0 ≤ a) (ha2 : a < 18446744073709551616) :
    Calls Try.prog 4 #[.agg #[.int .i64 pw, .int .i64 np], .int .i64 p, .int .i64 o, .int .u64 a] w fun e w' => e = .returned (.bool true) ∧ Below w.heap.size w w' := by
  have h1 := Lib.hid (fun w => address_any pw np p o w)
  have h2 := Lib.hid (fun w => refAddress_any pw np p o w)
  have h3 := Lib.hid (fun w => of_any pw np a w ha ha2)
  have h4 := Lib.hid (fun w => refOf_any pw np a w ha ha2)
  have hback := Lib.hid (fun (w : World) (h : addrE pw np p o = 0) => show Calls Try.prog 18 #[.agg #[.int .i64 pw, .int .i64 np], .int .u64 (addrV pw np p o)] w fun e w' => e = .returned (.tuple #[.int .i64 p, .int .i64 o, .int .i64 0]) ∧ Below w.heap.size w w' from by
    rcases errE (pw := pw) (np := np) (p := p) (o := o) with ⟨-, hv, hi⟩ | h'
    · have e1 := (addr_ok hv hi).1
      obtain ⟨f1, f2, f3⟩ := of_addr hv hi
      obtain ⟨g1, g2, g3⟩ := of_ok hv f1
      have := of_any pw np (4096 + p * pw + o) w (addr_lt hv hi).1 (addr_lt hv hi).2
      rw [g1, g2, g3, f2, f3] at this
      rw [e1]; exact this
    · exact absurd h h')
  obtain ⟨X, hX⟩ : ∃ X, Hid (addrV pw np p o = X) := ⟨_, rfl⟩
  obtain ⟨E, hE⟩ : ∃ E, Hid (addrE pw np p o = E) := ⟨_, rfl⟩
  obtain ⟨I, hI⟩ : ∃ I, Hid (ofI pw np a = I) := ⟨_, rfl⟩
  obtain ⟨K, hK⟩ : ∃ K, Hid (ofK pw np a = K) := ⟨_, rfl⟩
  obtain ⟨G, hG⟩ : ∃ G, Hid (ofE pw np a = G) := ⟨_, rfl⟩
  rw [hX.out, hE.out] at h1 h2 hback
  rw [hI.out, hK.out, hG.out] at h3 h4
  clear hX hE hI hK hG ha ha2
  have d0 : (w.alloc (.cells #[.int .i64 pw, .int .i64 np] 23)).cell? ⟨w.heap.size, 0, none⟩ = some (.int .i64 pw) := by simp
  have d1 : (w.alloc (.cells #[.int .i64 pw, .int .i64 np] 23)).cell? ⟨w.heap.size, 1, none⟩ = some (.int .i64 np) := by simp
  have hbx := below_box (w := w) (o := .cells #[.int .i64 pw, .int .i64 np] 23)
  go_enter Try.func4, Try.ntmps4
  go_wp2_with fail
  refine (h1.out _).mono ?_
  rintro e w1 ⟨rfl, hb1⟩
  have d0 := cell_keep hb1 d0
  have d1 := cell_keep hb1 d1
  have hw := bthen hbx hb1
  clear hb1 hbx
  go_wp2_with fail
  refine (h2.out _).mono ?_
  rintro e w2 ⟨rfl, hb1⟩
  have d0 := cell_keep hb1 d0
  have d1 := cell_keep hb1 d1
  have hw := bthen hw hb1
  clear hb1
  go_wp2_with fail
  refine (h3.out _).mono ?_
  rintro e w3 ⟨rfl, hb1⟩
  have d0 := cell_keep hb1 d0
  have d1 := cell_keep hb1 d1
  have hw := bthen hw hb1
  clear hb1
  go_wp2_with fail
  refine (h4.out _).mono ?_
  rintro e w4 ⟨rfl, hb1⟩
  have d0 := cell_keep hb1 d0
  have d1 := cell_keep hb1 d1
  have hw := bthen hw hb1
  clear hb1 h1 h2 h3 h4
  by_cases h : E = 0
  · subst h
    go_wp2_with fail
    refine (hback.out _ (by trivial)).mono ?_
    rintro e w5 ⟨rfl, hb1⟩
    have hw := bthen hw hb1
    clear hb1
    go_wp2_with fail
    refine (awake_any _).mono ?_
    rintro e w6 ⟨rfl, hb1⟩
    go_wp2
    go_ret
    exact ⟨rfl, bthen hw hb1⟩
  · have b0 : (E == 0) = false := beq_eq_false_iff_ne.2 h
    clear h
    go_wp2_with fail
    refine (awake_any _).mono ?_
    rintro e w6 ⟨rfl, hb1⟩
    go_wp2
    go_ret
    exact ⟨rfl, bthen hw hb1⟩

set_option maxHeartbeats 3200000 in
theorem lawNew (pw np : Int) (w : World) :
    Calls Try.prog 5 #[.agg #[.int .i64 pw, .int .i64 np]] w fun e w' => e = .returned (.bool true) ∧ Below w.heap.size w w' := by
  have h1 := Lib.hid (fun w => pnew_any pw np w)
  have h2 := Lib.hid (fun w => refNew_any pw np w)
  have hp := Lib.hid (fun (w : World) (h : newHE pw np = 0) p n c q m d (hs : SRow w .u64 p n c (newHV pw np).words) (hr : PRow w q m d (newHV pw np).pages) => show Calls Try.prog 23 #[.agg #[.int .i64 (newHV pw np).pw, .int .i64 (newHV pw np).np, .slice p n c, .slice q m d, .int .i64 (newHV pw np).space, .int .i64 (newHV pw np).bump]] w fun e w' => e = .returned (.bool true) ∧ Below w.heap.size w w' from by
    cases hv : confB pw np
    · rw [(newH_no hv).2] at h; cases h
    · rw [(newH_ok hv).1] at hs hr ⊢
      have := pproper_any pw np p q n c m d 0 (-1) _ _ w hs hr
      rw [new_proper hv] at this
      exact this)
  have hsm := Lib.hid (fun (w : World) u v (hu : HV w u (newHV pw np)) (hv : HV w v (newHV pw np)) => sameH_val w hu hv)
  obtain ⟨E, hE⟩ : ∃ E, Hid (newHE pw np = E) := ⟨_, rfl⟩
  obtain ⟨X, hX⟩ : ∃ X, Hid (newHV pw np = X) := ⟨_, rfl⟩
  rw [hE.out, hX.out] at h1 h2 hp
  rw [hX.out] at hsm
  obtain ⟨xpw, xnp, xws, xps, xsp, xbp⟩ := X
  clear hE hX
  have d0 : (w.alloc (.cells #[.int .i64 pw, .int .i64 np] 23)).cell? ⟨w.heap.size, 0, none⟩ = some (.int .i64 pw) := by simp
  have d1 : (w.alloc (.cells #[.int .i64 pw, .int .i64 np] 23)).cell? ⟨w.heap.size, 1, none⟩ = some (.int .i64 np) := by simp
  have hbx := below_box (w := w) (o := .cells #[.int .i64 pw, .int .i64 np] 23)
  go_enter Try.func5, Try.ntmps5
  go_wp2_with fail
  refine (h1.out _).mono ?_
  rintro e w1 ⟨⟨v, rfl, hv⟩, hb1⟩
  have hw := bthen hbx hb1
  have d0 := cell_keep hb1 d0
  have d1 := cell_keep hb1 d1
  obtain ⟨p, n, c, q, m, d, rfl, hs, hr, hwb⟩ := hv
  simp only at hs hr
  have Hs := Lib.hid hs
  have Hr := Lib.hid hr
  have Hwb := Lib.hid hwb
  obtain ⟨c0, c1, c2, c3, c4, c5, hbx1⟩ := boxH w1 (.int .i64 xpw) (.int .i64 xnp) (.slice p n c) (.slice q m d) (.int .i64 xsp) (.int .i64 xbp) 39
  have d0 := cell_keep hbx1 d0
  have d1 := cell_keep hbx1 d1
  clear hs hr hwb hb1 hbx h1
  go_wp2_with fail
  refine (h2.out _).mono ?_
  rintro e w2 ⟨⟨v, rfl, hv⟩, hb2⟩
  obtain ⟨p', n', c', q', m', d', rfl, hs', hr', hwb'⟩ := hv
  simp only at hs' hr'
  have Hs' := Lib.hid hs'
  have Hr' := Lib.hid hr'
  have Hwb' := Lib.hid hwb'
  have hx2 := bthen hbx1 hb2
  have c0 := cell_keep hb2 c0
  have c1 := cell_keep hb2 c1
  have c2 := cell_keep hb2 c2
  have c3 := cell_keep hb2 c3
  have c4 := cell_keep hb2 c4
  have c5 := cell_keep hb2 c5
  obtain ⟨g0, g1, g2, g3, g4, g5, hbx2⟩ := boxH w2 (.int .i64 xpw) (.int .i64 xnp) (.slice p' n' c') (.slice q' m' d') (.int .i64 xsp) (.int .i64 xbp) 39
  have c0 := cell_keep hbx2 c0
  have c1 := cell_keep hbx2 c1
  have c2 := cell_keep hbx2 c2
  have c3 := cell_keep hbx2 c3
  have c4 := cell_keep hbx2 c4
  have c5 := cell_keep hbx2 c5
  have Hs := Lib.hid (Hs.out.keep (bthen hx2 hbx2))
  have Hr := Lib.hid (Hr.out.keep (bthen hx2 hbx2))
  have Hs' := Lib.hid (Hs'.out.keep hbx2)
  have Hr' := Lib.hid (Hr'.out.keep hbx2)
  have hw := bthen hw (bthen hx2 hbx2)
  clear hs' hr' hwb' hb2 hbx1 hbx2 hx2 h2 d0 d1
  go_wp2_with fail
  refine (awake_any _).mono ?_
  rintro e w3 ⟨rfl, hb3⟩
  have c0 := cell_keep hb3 c0
  have c1 := cell_keep hb3 c1
  have c2 := cell_keep hb3 c2
  have c3 := cell_keep hb3 c3
  have c4 := cell_keep hb3 c4
  have c5 := cell_keep hb3 c5
  have g0 := cell_keep hb3 g0
  have g1 := cell_keep hb3 g1
  have g2 := cell_keep hb3 g2
  have g3 := cell_keep hb3 g3
  have g4 := cell_keep hb3 g4
  have g5 := cell_keep hb3 g5
  have Hs := Lib.hid (Hs.out.keep hb3)
  have Hr := Lib.hid (Hr.out.keep hb3)
  have Hs' := Lib.hid (Hs'.out.keep hb3)
  have Hr' := Lib.hid (Hr'.out.keep hb3)
  have hw := bthen hw hb3
  clear hb3
  go_wp2_with fail
  refine (hsm.out _ _ _ ⟨p, n, c, q, m, d, rfl, Hs.out, Hr.out, Hwb.out⟩ ⟨p', n', c', q', m', d', rfl, Hs'.out, Hr'.out, Hwb'.out⟩).mono ?_
  rintro e w4 ⟨rfl, hb4⟩
  have c0 := cell_keep hb4 c0
  have c1 := cell_keep hb4 c1
  have c2 := cell_keep hb4 c2
  have c3 := cell_keep hb4 c3
  have c4 := cell_keep hb4 c4
  have c5 := cell_keep hb4 c5
  have Hs := Lib.hid (Hs.out.keep hb4)
  have Hr := Lib.hid (Hr.out.keep hb4)
  have hw := bthen hw hb4
  clear hb4 g0 g1 g2 g3 g4 g5
  by_cases h : E = 0
  · subst h
    go_wp2_with fail
    refine (hp.out _ (by trivial) _ _ _ _ _ _ Hs.out Hr.out).mono ?_
    rintro e w5 ⟨rfl, hb5⟩
    go_wp2
    go_ret
    exact ⟨rfl, bthen hw hb5⟩
  · have b0 : (E != 0) = true := bne_iff_ne.2 h
    clear h
    go_wp2
    go_ret
    exact ⟨rfl, hw⟩

theorem run_ne {xs ys : List (Int × Int)} {k : Nat} (h : xs = ys) {x y : Int × Int} (h1 : xs[k]? = some x) (h2 : ys[k]? = some y) : x = y := by
  subst h; rw [h1] at h2; exact Option.some.inj h2

set_option maxHeartbeats 1600000 in
theorem sameRuns_eq (p q : Option Addr) (n m cap cap' : Nat) (xs : List (Int × Int)) (w : World) (hr0 : RRow w p n cap xs) (hr0' : RRow w q m cap' xs) :
    Calls Try.prog 26 #[.slice p n cap, .slice q m cap'] w fun e w' => e = .returned (.bool true) ∧ Drawn w w' := by
  obtain rfl : n = m := hr0.len.symm.trans hr0'.len
  have hn := hr0.i63.2
  have hr1 := Lib.hid hr0
  have hr2 := Lib.hid hr0'
  clear hr0 hr0'
  go_enter Try.func26, Try.ntmps26
  go_wp2
  go_loopw [5] (fun i wr => ∃ (k : Nat), k ≤ n ∧ i = .int .i64 k ∧ ∃ d, wr = w.drewN d) (fun i _ => n - (intOf i).toNat)
  case atStart => exact ⟨0, by omega, rfl, 0, rfl⟩
  case round =>
    obtain ⟨k, hk, rfl, d, rfl⟩ := hrel
    by_cases hlt : k < n
    · obtain ⟨x, b, off, hx, rfl, c0, c1⟩ := hr1.out.at_ hlt
      obtain ⟨y, b2, off2, hy, rfl, d0, d1⟩ := hr2.out.at_ hlt
      obtain rfl : x = y := by rw [hx] at hy; exact Option.some.inj hy
      clear hx hy
      have hlt2 : (k : Int) < n := by omega
      go_wp2
      go_quiet (fail)
      go_wp2
      go_roundw
      case rel => exact ⟨k + 1, by omega, by go_num, _, rfl⟩
      case measure => simp [intOf]; omega
    · go_wp2
      go_ret
      exact ⟨rfl, _, rfl⟩

set_option maxHeartbeats 3200000 in
theorem lawRuns (p : Option Addr) (n cap : Nat) (ps : List Pg) (k : Int) (w : World) (hr : PRow w p n cap ps) :
    Calls Try.prog 6 #[.slice p n cap, .int .i64 k] w fun e w' => e = .returned (.bool true) ∧ Below w.heap.size w w' := by
  have hl := hr.i63.2
  by_cases h : n ≤ 200
  · have h1 := Lib.hid (fun w' (h : Below w.heap.size w w') => inUse_any p n cap ps w' (hr.keep h))
    have h2 := Lib.hid (fun w' (h : Below w.heap.size w w') => refInUse_any p n cap ps w' (hr.keep h))
    have h3 := Lib.hid (fun w' (h' : Below w.heap.size w w') => runs_any p n cap ps w' (hr.keep h') (by omega))
    have h4 := Lib.hid (fun w' (h' : Below w.heap.size w w') => refRuns_any p n cap ps w' (hr.keep h') (by omega))
    have h5 := Lib.hid (fun w' (h' : Below w.heap.size w w') => first_any p n cap ps k w' (hr.keep h') (by omega))
    have h6 := Lib.hid (fun w' (h' : Below w.heap.size w w') => refFirst_any p n cap ps k w' (hr.keep h') (by omega))
    generalize runsV ps = R at h3 h4
    generalize (inUse ps : Int) = U at h1 h2
    generalize firstV ps k = F at h5 h6
    have hlt : (n : Int) ≤ 200 := by omega
    clear hr h
    go_enter Try.func6, Try.ntmps6
    go_wp2_with fail
    refine (awake_any _).mono ?_
    rintro e w1 ⟨rfl, hw1⟩
    go_wp2_with fail
    refine (h1.out _ hw1).mono ?_
    rintro e w2 ⟨rfl, hb⟩
    have hw2 := bthen hw1 hb
    clear hb hw1 h1
    go_wp2_with fail
    refine (h2.out _ hw2).mono ?_
    rintro e w3 ⟨rfl, rfl⟩
    clear h2
    go_wp2_with fail
    refine (h3.out _ hw2).mono ?_
    rintro e w4 ⟨⟨q1, m1, c1, rfl, hq1⟩, hb⟩
    have hw4 := bthen hw2 hb
    have Hq1 := Lib.hid hq1
    clear hb hw2 h3 hq1
    go_wp2_with fail
    refine (h4.out _ hw4).mono ?_
    rintro e w5 ⟨⟨q2, m2, c2, rfl, hq2⟩, hb⟩
    have hw5 := bthen hw4 hb
    have Hq2 := Lib.hid hq2
    have Hq1 := Lib.hid (Hq1.out.keep hb)
    clear hb hw4 h4 hq2
    go_wp2_with fail
    refine (sameRuns_eq _ _ _ _ _ _ _ _ Hq1.out Hq2.out).mono ?_
    rintro e w6 ⟨rfl, hd⟩
    have hw6 := bthen hw5 (hd.below _)
    clear hd hw5 Hq1 Hq2
    go_wp2_with fail
    refine (h5.out _ hw6).mono ?_
    rintro e w7 ⟨rfl, hb⟩
    have hw7 := bthen hw6 hb
    clear hb hw6 h5
    go_wp2_with fail
    refine (h6.out _ hw7).mono ?_
    rintro e w8 ⟨rfl, hb⟩
    have hw8 := bthen hw7 hb
    go_wp2
    go_ret
    exact ⟨rfl, hw8⟩
  · have hlt : (200 : Int) < n := by omega
    clear hr h
    go_enter Try.func6, Try.ntmps6
    go_wp2
    go_ret
    exact ⟨rfl, Below.refl _ _⟩
end Go.Proofs.Ytnelnabeajkpfaa
