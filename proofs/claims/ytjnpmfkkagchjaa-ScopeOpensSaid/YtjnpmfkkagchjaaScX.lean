/- Contract of the reference's New of layer 14. -/
import Derived.Test.YtjnpmfkkagchjaaScS
import Derived.IntWalk
import Derived.Test.YtjnpmfkkagchjaaScO
set_option linter.unusedVariables false
set_option linter.unusedSimpArgs false
namespace Go.Proofs.Ytjnpmfkkagchjaa
open Go.RowKit

set_option maxRecDepth 100000 in
set_option maxHeartbeats 3200000 in
theorem refNew_any (pa : Option Addr) (na ca : Nat) (pb : Option Addr) (nb cb : Nat) (pc : Option Addr) (nc cc : Nat) (l : Loc) (ref : Int) (w : World) (hr : LRow w pa na ca pb nb cb pc nc cc l) :
    Calls Try.prog 26 #[.agg #[.slice pa na ca, .slice pb nb cb, .slice pc nc cc], .int .u64 ref] w fun e w' => RetN (newL l ref) (newI l ref) (newS l ref) (roomV l ref) e w' ∧ Below w.heap.size w w' := by
  have Hl := Lib.hid hr.lens
  obtain ⟨h63a, h63b, h63c⟩ := hr.i63
  have Hr := Lib.hid (fun w' (h : Below w.heap.size w w') => hr.keep h)
  have hv := Lib.hid (fun w h => refVal_any pa na ca pb nb cb pc nc cc l w h)
  clear hr
  unfold newL newI newS
  cases ho : okB l
  · have E : roomV l ref = 1 := roomV_a (Or.inl ho)
    rw [E]
    rw [ho] at hv
    clear E ho
    go_enter Try.func26, Try.ntmps26
    go_wp2_with (((go_at_call 12; refine (hv.out _ (Hr.out _ (bthen below_box below_box))).mono ?_); rintro e w2 ⟨rfl, hb2⟩; (obtain ⟨hX, hY, hB2, hs2⟩ := start2 hb2); have HX := Lib.hid hX; have HY := Lib.hid hY; have HB := Lib.hid hB2; (obtain ⟨x0, x1, x2⟩ := own3c hX); (obtain ⟨y0, y1, y2, z0, z1, z2⟩ := own6 hY); clear hX hY hB2 hb2))
    exact bodyPost_ret (v := .tuple #[.agg #[.slice none 0 0, .slice none 0 0, .slice none 0 0], .int .i64 0, .int .i64 0, .int .i64 1]) (by simp [results, Try.results26, go_sem, y0, y1, y2]) rfl ⟨RetN.zero _ _, ((HB.out.setCell (by simp) _).setCell (by simp) _).setCell (by simp) _⟩
  · rw [ho] at hv
    by_cases hre : ref = 0
    · have E : roomV l ref = 1 := roomV_a (Or.inr hre)
      rw [E]
      subst hre
      clear E ho
      go_enter Try.func26, Try.ntmps26
      go_wp2_with (((go_at_call 12; refine (hv.out _ (Hr.out _ (bthen below_box below_box))).mono ?_); rintro e w2 ⟨rfl, hb2⟩; (obtain ⟨hX, hY, hB2, hs2⟩ := start2 hb2); have HX := Lib.hid hX; have HY := Lib.hid hY; have HB := Lib.hid hB2; (obtain ⟨x0, x1, x2⟩ := own3c hX); (obtain ⟨y0, y1, y2, z0, z1, z2⟩ := own6 hY); clear hX hY hB2 hb2))
      exact bodyPost_ret (v := .tuple #[.agg #[.slice none 0 0, .slice none 0 0, .slice none 0 0], .int .i64 0, .int .i64 0, .int .i64 1]) (by simp [results, Try.results26, go_sem, y0, y1, y2]) rfl ⟨RetN.zero _ _, ((HB.out.setCell (by simp) _).setCell (by simp) _).setCell (by simp) _⟩
    · have hre1 : (ref == 0) = false := beq_eq_false_iff_ne.2 hre
      by_cases h0 : nb = 0
      · have E := roomV_b ho hre (by have := Hl.out.2.1; omega)
        rw [E]
        have hbz : ((nb : Int) == 0) = true := beq_iff_eq.2 (by omega)
        clear E ho h0 hre
        go_enter Try.func26, Try.ntmps26
        go_wp2_with (((go_at_call 12; refine (hv.out _ (Hr.out _ (bthen below_box below_box))).mono ?_); rintro e w2 ⟨rfl, hb2⟩; (obtain ⟨hX, hY, hB2, hs2⟩ := start2 hb2); have HX := Lib.hid hX; have HY := Lib.hid hY; have HB := Lib.hid hB2; (obtain ⟨x0, x1, x2⟩ := own3c hX); (obtain ⟨y0, y1, y2, z0, z1, z2⟩ := own6 hY); clear hX hY hB2 hb2))
        exact bodyPost_ret (v := .tuple #[.agg #[.slice none 0 0, .slice none 0 0, .slice none 0 0], .int .i64 0, .int .i64 0, .int .i64 9]) (by simp [results, Try.results26, go_sem, y0, y1, y2]) rfl ⟨RetN.zero _ _, ((HB.out.setCell (by simp) _).setCell (by simp) _).setCell (by simp) _⟩
      · obtain ⟨s, hs⟩ : ∃ s, l.sc[l.sc.length - 1]? = some s := ⟨_, List.getElem?_eq_getElem (by have := Hl.out.2.1; omega)⟩
        obtain ⟨p0, p1, p2, p3, p4⟩ := last_ok ho hs
        have E := roomV_c ho hre hs
        obtain ⟨kl1, kl2, kl3⟩ := lens_ok ho
        have klm := (good_iff.1 ho).len_le
        obtain ⟨k, hk⟩ : ∃ k : Nat, k = nb - 1 := ⟨_, rfl⟩
        have hk1 : (nb : Int) - 1 = (k : Int) := by omega
        have hk4 : IntKind.i64.wrap ((nb : Int) - 1) = (k : Int) := (IntWalk.i64_in _ (by omega)).trans hk1
        have hk5 : (0 : Int) ≤ (k : Int) := Int.natCast_nonneg _
        have hk6 : IntKind.i64.wrap (k : Int) = (k : Int) := IntWalk.i64_in _ (by omega)
        have hk2 : k < nb := by omega
        have hk3 : (k : Int) < nb := by omega
        have hs' : l.sc[k]? = some s := by rw [hk, ← Hl.out.2.1]; exact hs
        have HSc := Lib.hid (fun w' h => scope_at (Hr.out w' h).sc hk2)
        obtain ⟨_, b, off, hx, rfl, -, -, -⟩ := scope_at (Hr.out w (Below.refl _ _)).sc hk2
        have HS2 := Lib.hid hs'
        have hbz : ((nb : Int) == 0) = false := beq_eq_false_iff_ne.2 (by omega)
        obtain ⟨fr, cp, bs⟩ := s
        simp only at p0 p1 p3 p4 E
        rw [Hl.out.1] at p1 p3 E kl1 klm
        rw [Hl.out.2.2] at E kl3 klm
        rw [Hl.out.2.1] at kl2
        obtain ⟨C, hC⟩ : ∃ C : Nat, Hid (cnt (part l.sl fr na) = C) := ⟨_, rfl⟩
        rw [hC.out] at p3 E
        rw [E]
        clear E ho hs hs' hx hk h0 hre p2
        by_cases hcap : (C : Int) = cp
        · rw [if_pos hcap]
          have hge : cp ≤ (C : Int) := by omega
          clear hcap
          go_enter Try.func26, Try.ntmps26
          go_upto_region 6 with (((go_at_call 12; refine (hv.out _ (Hr.out _ (bthen below_box below_box))).mono ?_); rintro e w2 ⟨rfl, hb2⟩; (obtain ⟨hX, hY, hB2, hs2⟩ := start2 hb2); have HX := Lib.hid hX; have HY := Lib.hid hY; have HB := Lib.hid hB2; (obtain ⟨x0, x1, x2⟩ := own3c hX); (obtain ⟨y0, y1, y2, z0, z1, z2⟩ := own6 hY); clear hX hY hB2 hb2; (obtain ⟨s', b', off', hx', hp', d0, d1, d2⟩ := HSc.out _ HB.out); (obtain rfl : (⟨fr, cp, bs⟩ : Sp) = s' := Option.some.inj (HS2.out.symm.trans hx')); cases hp'; clear hx'; simp only at d0 d1))
          go_region_held3 (fun w' => w'.cell? ⟨w.heap.size, 0, none⟩ = some (.slice pa na ca) ∧ w'.cell? ⟨w.heap.size, 1, none⟩ = some (.slice (some ⟨b, off, none⟩) nb cb) ∧ w'.cell? ⟨w.heap.size, 2, none⟩ = some (.slice pc nc cc) ∧ w'.cell? ⟨b, off + k * 3, none⟩ = some (.int .i64 fr) ∧ w'.cell? ⟨b, off + k * 3 + 1, none⟩ = some (.int .i64 cp) ∧ Below w2.heap.size w2 w')
            (first | exact ⟨x0, x1, x2, d0, d1, Below.drew (Below.refl _ _)⟩ | (exact held5_keep ‹_› hbq) | assumption)
            (first
              | (go_at_call 37; refine (refLive_held (B := w.heap.size) (b1 := b) (o1 := off + k * 3) (o2 := off + k * 3 + 1) (a := .slice pa na ca) (b := .slice (some ⟨b, off, none⟩) nb cb) (c := .slice pc nc cc) (d := .int .i64 fr) (e := .int .i64 cp) (w0 := w2) pa na ca (.slice (some ⟨b, off, none⟩) nb cb) (.slice pc nc cc) l.sl fr na ?_ (Hr.out _ HB.out).sl p0 p1 (Int.le_refl _)).mono ?_; (assumption); rintro e w' ⟨rfl, hbq⟩; rw [hC.out]))
          rename_i hH
          have HB5 := Lib.hid (bthen HB.out hH.2.2.2.2.2)
          have HX5 := Lib.hid (HX.out.keep hH.2.2.2.2.2 (by omega))
          have HY5 := Lib.hid (HY.out.keep hH.2.2.2.2.2 (by omega))
          have hs5 : w.heap.size + 2 ≤ w'.heap.size := by have := hH.2.2.2.2.2.size; omega
          clear hH x0 x1 x2 y0 y1 y2 z0 z1 z2 d0 d1 HX HY HB
          obtain ⟨x0, x1, x2, u0, u1, u2⟩ := own6 HX5.out
          obtain ⟨y0, y1, y2, z0, z1, z2⟩ := own6 HY5.out
          go_wp2
          exact bodyPost_ret (v := .tuple #[.agg #[.slice none 0 0, .slice none 0 0, .slice none 0 0], .int .i64 0, .int .i64 0, .int .i64 10]) (by simp [results, Try.results26, go_sem, y0, y1, y2]) rfl ⟨RetN.zero _ _, ((HB5.out.setCell (by simp) _).setCell (by simp) _).setCell (by simp) _⟩
        · rw [if_neg hcap]
          have hge : (C : Int) < cp := by omega
          clear hcap
          by_cases h4 : nc = 4096
          · rw [if_pos h4]
            have h4' : ((nc : Int) == 4096) = true := beq_iff_eq.2 (by omega)
            clear h4
            go_enter Try.func26, Try.ntmps26
            go_upto_region 6 with (((go_at_call 12; refine (hv.out _ (Hr.out _ (bthen below_box below_box))).mono ?_); rintro e w2 ⟨rfl, hb2⟩; (obtain ⟨hX, hY, hB2, hs2⟩ := start2 hb2); have HX := Lib.hid hX; have HY := Lib.hid hY; have HB := Lib.hid hB2; (obtain ⟨x0, x1, x2⟩ := own3c hX); (obtain ⟨y0, y1, y2, z0, z1, z2⟩ := own6 hY); clear hX hY hB2 hb2; (obtain ⟨s', b', off', hx', hp', d0, d1, d2⟩ := HSc.out _ HB.out); (obtain rfl : (⟨fr, cp, bs⟩ : Sp) = s' := Option.some.inj (HS2.out.symm.trans hx')); cases hp'; clear hx'; simp only at d0 d1))
            go_region_held3 (fun w' => w'.cell? ⟨w.heap.size, 0, none⟩ = some (.slice pa na ca) ∧ w'.cell? ⟨w.heap.size, 1, none⟩ = some (.slice (some ⟨b, off, none⟩) nb cb) ∧ w'.cell? ⟨w.heap.size, 2, none⟩ = some (.slice pc nc cc) ∧ w'.cell? ⟨b, off + k * 3, none⟩ = some (.int .i64 fr) ∧ w'.cell? ⟨b, off + k * 3 + 1, none⟩ = some (.int .i64 cp) ∧ Below w2.heap.size w2 w')
              (first | exact ⟨x0, x1, x2, d0, d1, Below.drew (Below.refl _ _)⟩ | (exact held5_keep ‹_› hbq) | assumption)
              (first
                | (go_at_call 37; refine (refLive_held (B := w.heap.size) (b1 := b) (o1 := off + k * 3) (o2 := off + k * 3 + 1) (a := .slice pa na ca) (b := .slice (some ⟨b, off, none⟩) nb cb) (c := .slice pc nc cc) (d := .int .i64 fr) (e := .int .i64 cp) (w0 := w2) pa na ca (.slice (some ⟨b, off, none⟩) nb cb) (.slice pc nc cc) l.sl fr na ?_ (Hr.out _ HB.out).sl p0 p1 (Int.le_refl _)).mono ?_; (assumption); rintro e w' ⟨rfl, hbq⟩; rw [hC.out]))
            rename_i hH
            have HB5 := Lib.hid (bthen HB.out hH.2.2.2.2.2)
            have HX5 := Lib.hid (HX.out.keep hH.2.2.2.2.2 (by omega))
            have HY5 := Lib.hid (HY.out.keep hH.2.2.2.2.2 (by omega))
            have hs5 : w.heap.size + 2 ≤ w'.heap.size := by have := hH.2.2.2.2.2.size; omega
            clear hH x0 x1 x2 y0 y1 y2 z0 z1 z2 d0 d1 HX HY HB
            obtain ⟨x0, x1, x2, u0, u1, u2⟩ := own6 HX5.out
            obtain ⟨y0, y1, y2, z0, z1, z2⟩ := own6 HY5.out
            go_wp2
            exact bodyPost_ret (v := .tuple #[.agg #[.slice none 0 0, .slice none 0 0, .slice none 0 0], .int .i64 0, .int .i64 0, .int .i64 18]) (by simp [results, Try.results26, go_sem, y0, y1, y2]) rfl ⟨RetN.zero _ _, ((HB5.out.setCell (by simp) _).setCell (by simp) _).setCell (by simp) _⟩
          · rw [if_neg h4]
            have h4' : ((nc : Int) == 4096) = false := beq_eq_false_iff_ne.2 (by omega)
            clear h4
            go_enter Try.func26, Try.ntmps26
            go_upto_region 6 with (((go_at_call 12; refine (hv.out _ (Hr.out _ (bthen below_box below_box))).mono ?_); rintro e w2 ⟨rfl, hb2⟩; (obtain ⟨hX, hY, hB2, hs2⟩ := start2 hb2); have HX := Lib.hid hX; have HY := Lib.hid hY; have HB := Lib.hid hB2; (obtain ⟨x0, x1, x2⟩ := own3c hX); (obtain ⟨y0, y1, y2, z0, z1, z2⟩ := own6 hY); clear hX hY hB2 hb2; (obtain ⟨s', b', off', hx', hp', d0, d1, d2⟩ := HSc.out _ HB.out); (obtain rfl : (⟨fr, cp, bs⟩ : Sp) = s' := Option.some.inj (HS2.out.symm.trans hx')); cases hp'; clear hx'; simp only at d0 d1))
            go_region_held3 (fun w' => w'.cell? ⟨w.heap.size, 0, none⟩ = some (.slice pa na ca) ∧ w'.cell? ⟨w.heap.size, 1, none⟩ = some (.slice (some ⟨b, off, none⟩) nb cb) ∧ w'.cell? ⟨w.heap.size, 2, none⟩ = some (.slice pc nc cc) ∧ w'.cell? ⟨b, off + k * 3, none⟩ = some (.int .i64 fr) ∧ w'.cell? ⟨b, off + k * 3 + 1, none⟩ = some (.int .i64 cp) ∧ Below w2.heap.size w2 w')
              (first | exact ⟨x0, x1, x2, d0, d1, Below.drew (Below.refl _ _)⟩ | (exact held5_keep ‹_› hbq) | assumption)
              (first
                | (go_at_call 37; refine (refLive_held (B := w.heap.size) (b1 := b) (o1 := off + k * 3) (o2 := off + k * 3 + 1) (a := .slice pa na ca) (b := .slice (some ⟨b, off, none⟩) nb cb) (c := .slice pc nc cc) (d := .int .i64 fr) (e := .int .i64 cp) (w0 := w2) pa na ca (.slice (some ⟨b, off, none⟩) nb cb) (.slice pc nc cc) l.sl fr na ?_ (Hr.out _ HB.out).sl p0 p1 (Int.le_refl _)).mono ?_; (assumption); rintro e w' ⟨rfl, hbq⟩; rw [hC.out]))
            rename_i hH
            have HB5 := Lib.hid (bthen HB.out hH.2.2.2.2.2)
            have HX5 := Lib.hid (HX.out.keep hH.2.2.2.2.2 (by omega))
            have HY5 := Lib.hid (HY.out.keep hH.2.2.2.2.2 (by omega))
            have hs5 : w.heap.size + 2 ≤ w'.heap.size := by have := hH.2.2.2.2.2.size; omega
            clear hH x0 x1 x2 y0 y1 y2 z0 z1 z2 d0 d1 HX HY HB
            obtain ⟨x0, x1, x2, u0, u1, u2⟩ := own6 HX5.out
            obtain ⟨y0, y1, y2, z0, z1, z2⟩ := own6 HY5.out
            go_upto_region 11 with fail
            go_quiet (fail)
            obtain ⟨w5, hw5⟩ : ∃ w5, w'.drewN nq = w5 := ⟨_, rfl⟩
            have hbd : Below w'.heap.size w' w5 := by rw [← hw5]; exact below_drewN (Below.refl _ _) _
            have HX6 := Lib.hid (HX5.out.keep hbd (by omega))
            have HY6 := Lib.hid (HY5.out.keep hbd (by omega))
            have HB6 := Lib.hid (bthen HB5.out hbd)
            have hs6 : w.heap.size + 2 ≤ w5.heap.size := by have := hbd.size; omega
            rw [hw5]
            clear hw5 hbd hbq HX5 HY5 HB5 hs5
            clear x0 x1 x2 u0 u1 u2 y0 y1 y2 z0 z1 z2
            obtain ⟨x0, x1, x2, u0, u1, u2⟩ := own6 HX6.out
            obtain ⟨y0, y1, y2, z0, z1, z2⟩ := own6 HY6.out
            obtain ⟨i0, hin, hz0, hz1, hz2⟩ := info_parts infoSl
            obtain ⟨i1, hin1, hy0, hy1, hy2⟩ := info_parts infoInt
            have hneW : w.heap.size < w5.heap.size := by omega
            go_wp2_with (at_builtin; refine wpList_append_row rfl _ _ 24 rfl w5.heap.size 3 i1 _ 8 Try.underlying24 hin1 hy0 hy1 hy2 rfl (.slice (some ⟨w5.heap.size, 0, none⟩) 0 0) 0 [] rfl (own_none w5 3 1) pc nc cc .i64 (l.is) rfl (((Hr.out _ HB6.out).is.keep below_box)) ?m3 ?m4 ?m5 ?_)
            case m3 => unfold maxLen; omega
            case m4 => omega
            case m5 => simp
            intro v' v5 hown hgrow
            have hbY := (below_box (w := w5) (o := .cells #[] 3)).grown hgrow (by simp) (fun k h => by simp [Value.ownBlock] at h; omega)
            try simp only [Nat.zero_add, List.nil_append] at hown
            obtain ⟨q', c', rfl⟩ := own_form hown
            have HOW := Lib.hid hown
            have HBY := Lib.hid hbY
            have hsY := hbY.size
            clear hown hgrow hbY hneW

            go_wp2_with (at_builtin; refine wpList_append_own_at _ rfl _ _ 24 rfl w5.heap.size 3 i1 _ 1 8 Try.underlying24 hin1 hy0 hy1 hy2 rfl (by decide) (.slice q' nc c') nc (ivals .i64 (l.is)) rfl (HOW.out.alloc _) ⟨v5.heap.size, 0, none⟩ 1 1 [.int .i64 na] rfl rfl (World.news_of_block (cs := #[.int .i64 na]) (fr := (0, 0)) (heap_alloc_new v5 _)) ?m6 ?m7 ?m8 ?m9 ?_)
            case m6 => simp [Value.oneCell', slC, spC]
            case m7 => unfold maxLen; omega
            case m8 => omega
            case m9 => simp; omega
            intro v' w6 hown hgrow _ _
            obtain ⟨q1, c1, rfl⟩ := own_form hown
            have HROW := Lib.hid hown
            have HBZ := Lib.hid (below_row (B := w5.heap.size) (C := w5.heap.size) (HBY.out.alloc hsY _) (HOW.out.alloc _) hgrow (Nat.le_refl _) (by simp; omega))
            have hsZ := HBZ.out.size
            clear hown hgrow HOW HBY hsY
            have HX7 := Lib.hid (HX6.out.keep HBZ.out (by omega))
            have HY7 := Lib.hid (HY6.out.keep HBZ.out (by omega))
            have HB7 := Lib.hid (bthen HB6.out HBZ.out)
            have hs7 : w.heap.size + 2 ≤ w6.heap.size := by omega
            have HI := Lib.hid (own_srow (xs := l.is ++ [(na : Int)]) (by have h := HROW.out; rw [ivals_snoc] at h; exact h))
            clear HROW HBZ hsZ HX6 HY6 HB6 hs6
            clear x0 x1 x2 u0 u1 u2 y0 y1 y2 z0 z1 z2
            obtain ⟨x0, x1, x2, u0, u1, u2⟩ := own6 HX7.out
            obtain ⟨y0, y1, y2, z0, z1, z2⟩ := own6 HY7.out
            go_upto_region 12 with fail
            obtain ⟨w7, hw7⟩ : ∃ w7, w6.setCell ⟨w.heap.size, 2, none⟩ (.slice q1 (nc + 1) c1) = w7 := ⟨_, rfl⟩
            have HX8 := Lib.hid (show OwnL w7 w.heap.size [.slice pa na ca, .slice (some ⟨b, off, none⟩) nb cb, .slice q1 (nc + 1) c1] from by rw [← hw7]; exact HX7.out.set 2 _ (by simp))
            have HY8 := Lib.hid (show OwnL w7 (w.heap.size + 1) [.slice none 0 0, .slice none 0 0, .slice none 0 0] from by rw [← hw7]; exact HY7.out.other _ _ (by simp))
            have HB8 := Lib.hid (show Below w.heap.size w w7 from by rw [← hw7]; exact HB7.out.setCell (Nat.le_refl _) _)
            have HI8 := Lib.hid (show SRow w7 .i64 q1 (nc + 1) c1 (l.is ++ [(na : Int)]) from by rw [← hw7]; exact HI.out.setOther _ _ _ x2 (fun x e => by cases e))
            have hs8 : w.heap.size + 2 ≤ w7.heap.size := by rw [← hw7]; simpa using hs7
            rw [hw7]
            clear hw7 HX7 HY7 HB7 HI hs7
            clear x0 x1 x2 u0 u1 u2 y0 y1 y2 z0 z1 z2
            obtain ⟨x0, x1, x2, u0, u1, u2⟩ := own6 HX8.out
            obtain ⟨y0, y1, y2, z0, z1, z2⟩ := own6 HY8.out
            have hneW : w.heap.size < w7.heap.size := by omega
            go_wp2_with (at_builtin; refine wpList_append_vrow rfl _ _ 22 rfl w7.heap.size 56 i0 _ 3 24 Try.underlying22 hin hz0 hz1 hz2 rfl (by decide) (.slice (some ⟨w7.heap.size, 0, none⟩) 0 0) 0 [] rfl (own_none w7 56 3) pa na ca ((l.sl).flatMap slC) rfl (((Hr.out _ HB8.out).sl.keep below_box)) (slC_one _) ?k3 ?k4 ?k5 ?_)
            case k3 => unfold maxLen; omega
            case k4 => omega
            case k5 => simp
            intro v' v7 hown hgrow
            have hbY := (below_box (w := w7) (o := .cells #[] 56)).grown hgrow (by simp) (fun k h => by simp [Value.ownBlock] at h; omega)
            try simp only [Nat.zero_add, List.nil_append] at hown
            obtain ⟨q', c', rfl⟩ := own_form hown
            have HOW := Lib.hid hown
            have HBY := Lib.hid hbY
            have hsY := hbY.size
            clear hown hgrow hbY hneW

            go_wp2_with (at_builtin; refine wpList_append_own_at _ rfl _ _ 22 rfl w7.heap.size 56 i0 _ 3 24 Try.underlying22 hin hz0 hz1 hz2 rfl (by decide) (.slice q' na c') na ((l.sl).flatMap slC) rfl (HOW.out.alloc _) ⟨v7.heap.size, 0, none⟩ 1 1 (slC ⟨nc + 1, ref, true⟩) rfl rfl (World.news_of_block (cs := #[.int .i64 (nc + 1), .int .u64 ref, .bool true]) (fr := (0, 0)) (heap_alloc_new v7 _)) ?k6 ?k7 ?k8 ?k9 ?_)
            case k6 => simp [Value.oneCell', slC, spC]
            case k7 => unfold maxLen; omega
            case k8 => omega
            case k9 => simp; omega
            intro v' w8 hown hgrow _ _
            obtain ⟨q2, c2, rfl⟩ := own_form hown
            have HROW := Lib.hid hown
            have HBZ := Lib.hid (below_row (B := w7.heap.size) (C := w7.heap.size) (HBY.out.alloc hsY _) (HOW.out.alloc _) hgrow (Nat.le_refl _) (by simp; omega))
            have hsZ := HBZ.out.size
            clear hown hgrow HOW HBY hsY
            have HX9 := Lib.hid (HX8.out.keep HBZ.out (by omega))
            have HY9 := Lib.hid (HY8.out.keep HBZ.out (by omega))
            have HB9 := Lib.hid (bthen HB8.out HBZ.out)
            have hs9 : w.heap.size + 2 ≤ w8.heap.size := by omega
            have HR9 := Lib.hid (show LRow w8 q2 (na + 1) c2 (some ⟨b, off, none⟩) nb cb q1 (nc + 1) c1 ⟨l.sl ++ [⟨nc + 1, ref, true⟩], l.sc, l.is ++ [(na : Int)]⟩ from ⟨by have h := own_vrow HROW.out; rw [flat_snoc] at h; exact h, (Hr.out _ HB9.out).sc, HI8.out.keep HBZ.out⟩)
            have HR10 := Lib.hid ((HR9.out.setS ⟨w.heap.size, 0, none⟩ (.slice q2 (na + 1) c2) (HX9.out.cell 0 _ rfl)).set3 (HY9.out.other ⟨w.heap.size, 0, none⟩ (.slice q2 (na + 1) c2) (by simp)) (.slice q2 (na + 1) c2) (.slice (some ⟨b, off, none⟩) nb cb) (.slice q1 (nc + 1) c1))
            clear HROW HBZ hsZ HX8 HY8 HB8 hs8 HI8
            clear x0 x1 x2 u0 u1 u2 y0 y1 y2 z0 z1 z2
            obtain ⟨x0, x1, x2, u0, u1, u2⟩ := own6 HX9.out
            obtain ⟨y0, y1, y2, z0, z1, z2⟩ := own6 HY9.out
            go_wp2
            obtain ⟨rfl, rfl, rfl⟩ := Hl.out
            exact bodyPost_ret (v := .tuple #[.agg #[.slice q2 (l.sl.length + 1) c2, .slice (some ⟨b, off, none⟩) l.sc.length cb, .slice q1 (l.is.length + 1) c1], .int .i64 l.sl.length, .int .i64 (l.is.length + 1), .int .i64 0]) (by simp [results, Try.results26, go_sem, y0, y1, y2]) rfl ⟨⟨q2, _, c2, _, _, cb, q1, _, c1, rfl, HR10.out⟩, set3_below (HB9.out.setCell (Nat.le_refl _) _) (by omega)⟩
end Go.Proofs.Ytjnpmfkkagchjaa
