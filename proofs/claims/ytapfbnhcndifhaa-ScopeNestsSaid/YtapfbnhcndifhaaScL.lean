/- Local handles of one's own that are appended to; contract of package scope: open, Enter, Push. -/
import Derived.Test.YtapfbnhcndifhaaScH
import Derived.Test.YtapfbnhcndifhaaScJ
import Derived.Maps.AppendAt
import Derived.Deep.DeepCutAuto
set_option linter.unusedVariables false
set_option linter.unusedSimpArgs false
namespace Go.Proofs.Ytapfbnhcndifhaa
open Go.RowKit

section
variable {w w' : World} {B : Nat} {pa pb pc : Option Addr} {na ca nb cb nc cc : Nat} {l : Loc}
theorem ne_row {a b : Value} (h : ∀ g, a.ownBlock = some g → b.ownBlock ≠ some g) : b.ownBlock = none ∨ b.ownBlock ≠ a.ownBlock := by
  cases hb : b.ownBlock with
  | none => exact .inl rfl
  | some g => exact .inr fun e => h g e.symm hb
theorem apart_of {a a' b : Value} {e s n : Nat} {xs : List Value} (h : ∀ g, a.ownBlock = some g → b.ownBlock ≠ some g) (hat : a'.ownBlock = a.ownBlock ∨ a'.ownBlock = some w.heap.size) (ho : w.ownsRow B e s b n xs) : ∀ g, a'.ownBlock = some g → b.ownBlock ≠ some g := by
  intro g hg hb
  rcases hat with e | e
  · exact h g (e ▸ hg) hb
  · rw [e] at hg; cases hg; have := (ho.lt _ hb).2; omega
theorem apart_to {a b b' : Value} {e s n : Nat} {xs : List Value} (h : ∀ g, a.ownBlock = some g → b.ownBlock ≠ some g) (hat : b'.ownBlock = b.ownBlock ∨ b'.ownBlock = some w.heap.size) (ho : w.ownsRow B e s a n xs) : ∀ g, a.ownBlock = some g → b'.ownBlock ≠ some g := by
  intro g hg hb
  rcases hat with e | e
  · exact h g hg (e ▸ hb)
  · rw [e] at hb; cases hb; have := (ho.lt _ hg).2; omega
theorem flip_apart {a b : Value} (h : ∀ g, a.ownBlock = some g → b.ownBlock ≠ some g) : ∀ g, b.ownBlock = some g → a.ownBlock ≠ some g := fun g hb ha => h g ha hb
theorem OwnLoc.appA {q : Option Addr} {c : Nat} {s : Sl} (h : OwnLoc w B pa na ca pb nb cb pc nc cc l) (ho : w'.ownsRow B 75 3 (.slice q (na + 1) c) (na + 1) (l.sl.flatMap slC ++ slC s)) (hg : w.grownBy w' (Value.slice pa na ca).ownBlock)
    (hat : (Value.slice q (na + 1) c).ownBlock = (Value.slice pa na ca).ownBlock ∨ (Value.slice q (na + 1) c).ownBlock = some w.heap.size) : OwnLoc w' B q (na + 1) c pb nb cb pc nc cc ⟨l.sl ++ [s], l.sc, l.is⟩ :=
  ⟨by rw [flat_snoc] at ho; exact ho, h.b.kept hg (ne_row h.ab), h.c.kept hg (ne_row h.ac), apart_of h.ab hat h.b, apart_of h.ac hat h.c, h.bc⟩
theorem OwnLoc.appB {q : Option Addr} {c : Nat} {s : Sp} (h : OwnLoc w B pa na ca pb nb cb pc nc cc l) (ho : w'.ownsRow B 77 3 (.slice q (nb + 1) c) (nb + 1) (l.sc.flatMap spC ++ spC s)) (hg : w.grownBy w' (Value.slice pb nb cb).ownBlock)
    (hat : (Value.slice q (nb + 1) c).ownBlock = (Value.slice pb nb cb).ownBlock ∨ (Value.slice q (nb + 1) c).ownBlock = some w.heap.size) : OwnLoc w' B pa na ca q (nb + 1) c pc nc cc ⟨l.sl, l.sc ++ [s], l.is⟩ :=
  ⟨h.a.kept hg (ne_row (flip_apart h.ab)), by rw [flat_snoc] at ho; exact ho, h.c.kept hg (ne_row h.bc), apart_to h.ab hat h.a, h.ac, apart_of h.bc hat h.c⟩
theorem OwnLoc.appC {q : Option Addr} {c : Nat} {x : Int} (h : OwnLoc w B pa na ca pb nb cb pc nc cc l) (ho : w'.ownsRow B 3 1 (.slice q (nc + 1) c) (nc + 1) (ivals .i64 l.is ++ [.int .i64 x])) (hg : w.grownBy w' (Value.slice pc nc cc).ownBlock)
    (hat : (Value.slice q (nc + 1) c).ownBlock = (Value.slice pc nc cc).ownBlock ∨ (Value.slice q (nc + 1) c).ownBlock = some w.heap.size) : OwnLoc w' B pa na ca pb nb cb q (nc + 1) c ⟨l.sl, l.sc, l.is ++ [x]⟩ :=
  ⟨h.a.kept hg (ne_row (flip_apart h.ac)), h.b.kept hg (ne_row (flip_apart h.bc)), by rw [ivals_snoc] at ho; exact ho, h.ab, apart_to h.ac hat h.a, apart_to h.bc hat h.b⟩
theorem OwnL.grown {b : Nat} {vs : List Value} {row : Option Nat} (h : OwnL w b vs) (hg : w.grownBy w' row) (hlt : b < w.heap.size) (hne : some b ≠ row) : OwnL w' b vs :=
  ⟨fun i v hv => hg.cell (h.cell i v hv) hne, fun i => by rw [hg.frozen_far ⟨b, i, none⟩ hlt hne]; exact h.free i⟩
end
theorem below_row {w w0 w' : World} {B C e s n : Nat} {v : Value} {xs : List Value} (hb : Below C w0 w) (ho : w.ownsRow B e s v n xs) (hg : w.grownBy w' v.ownBlock) (hC : C ≤ B) (hB : C ≤ w.heap.size) : Below C w0 w' :=
  hb.grown hg hB fun k hk => by have := (ho.lt k hk).1; omega

/-- A call returned local handles that read as l, and the error er. -/
def RetL (l : Loc) (er : Int) (e : Ending) (w' : World) : Prop := ∃ pa na ca pb nb cb pc nc cc, e = .returned (.tuple #[.agg #[.slice pa na ca, .slice pb nb cb, .slice pc nc cc], .int .i64 er]) ∧ LRow w' pa na ca pb nb cb pc nc cc l
def loc0 : Loc := ⟨[], [], []⟩
theorem row0 (w : World) : LRow w none 0 0 none 0 0 none 0 0 loc0 := ⟨VRow.nil _ _ _, VRow.nil _ _ _, SRow.nil _ _ _⟩
theorem RetL.zero (er : Int) (w : World) : RetL loc0 er (.returned (.tuple #[.agg #[.slice none 0 0, .slice none 0 0, .slice none 0 0], .int .i64 er])) w := ⟨none, 0, 0, none, 0, 0, none, 0, 0, rfl, row0 w⟩
/-- The two boxes at a function's start. -/
theorem start2 {w w2 : World} {a b c : Value} {T : TypeId} (hb : Below ((w.alloc (.cells #[a, b, c] T)).alloc (.cells #[.slice none 0 0, .slice none 0 0, .slice none 0 0] T)).heap.size ((w.alloc (.cells #[a, b, c] T)).alloc (.cells #[.slice none 0 0, .slice none 0 0, .slice none 0 0] T)) w2) :
    OwnL w2 w.heap.size [a, b, c] ∧ OwnL w2 (w.heap.size + 1) [.slice none 0 0, .slice none 0 0, .slice none 0 0] ∧ Below w.heap.size w w2 ∧ w.heap.size + 2 ≤ w2.heap.size := by
  have h1 := OwnL.new (w.alloc (.cells #[a, b, c] T)) [.slice none 0 0, .slice none 0 0, .slice none 0 0] T
  simp only [World.size_alloc] at h1
  refine ⟨((OwnL.new w _ _).keep below_box (by simp)).keep hb (by simp; omega), h1.keep hb (by simp), bthen (bthen below_box below_box) hb, ?_⟩
  have := hb.size; simp at this; omega
theorem own3c {w : World} {B : Nat} {a b c : Value} (h : OwnL w B [a, b, c]) : w.cell? ⟨B, 0, none⟩ = some a ∧ w.cell? ⟨B, 1, none⟩ = some b ∧ w.cell? ⟨B, 2, none⟩ = some c := ⟨h.cell 0 _ rfl, h.cell 1 _ rfl, h.cell 2 _ rfl⟩
theorem own6 {w : World} {B : Nat} {a b c : Value} (h : OwnL w B [a, b, c]) : w.cell? ⟨B, 0, none⟩ = some a ∧ w.cell? ⟨B, 1, none⟩ = some b ∧ w.cell? ⟨B, 2, none⟩ = some c ∧ w.frozen? ⟨B, 0, none⟩ = false ∧ w.frozen? ⟨B, 1, none⟩ = false ∧ w.frozen? ⟨B, 2, none⟩ = false := ⟨h.cell 0 _ rfl, h.cell 1 _ rfl, h.cell 2 _ rfl, h.free 0, h.free 1, h.free 2⟩
theorem set3_own {w : World} {B : Nat} {a b c x y z : Value} (h : OwnL w B [a, b, c]) : OwnL (((w.setCell ⟨B, 0, none⟩ x).setCell ⟨B, 1, none⟩ y).setCell ⟨B, 2, none⟩ z) B [x, y, z] := ((h.set 0 x (by simp)).set 1 y (by simp)).set 2 z (by simp)
theorem set3_other {w : World} {B C : Nat} {vs : List Value} {x y z : Value} (h : OwnL w C vs) (hne : B ≠ C) : OwnL (((w.setCell ⟨B, 0, none⟩ x).setCell ⟨B, 1, none⟩ y).setCell ⟨B, 2, none⟩ z) C vs := ((h.other _ x hne).other _ y hne).other _ z hne
theorem set3_below {w w0 : World} {B C : Nat} {x y z : Value} (h : Below C w0 w) (hB : C ≤ B) : Below C w0 (((w.setCell ⟨B, 0, none⟩ x).setCell ⟨B, 1, none⟩ y).setCell ⟨B, 2, none⟩ z) := ((h.setCell hB x).setCell hB y).setCell hB z
theorem set3_loc {w : World} {B C : Nat} {pa pb pc : Option Addr} {na ca nb cb nc cc : Nat} {l : Loc} {x y z : Value} (h : OwnLoc w B pa na ca pb nb cb pc nc cc l) (hB : C < B) : OwnLoc (((w.setCell ⟨C, 0, none⟩ x).setCell ⟨C, 1, none⟩ y).setCell ⟨C, 2, none⟩ z) B pa na ca pb nb cb pc nc cc l := ((h.cell _ x hB).cell _ y hB).cell _ z hB
theorem set3_size {w : World} {B : Nat} {x y z : Value} : (((w.setCell ⟨B, 0, none⟩ x).setCell ⟨B, 1, none⟩ y).setCell ⟨B, 2, none⟩ z).heap.size = w.heap.size := by simp

/-- What opening a scope answers. -/
def openE (l : Loc) (c : Int) (base : Bool) : Int :=
  if okB l = false ∨ capB c = false then 1 else if base = false ∧ l.sc.length = 0 then 9 else if l.sc.length = 64 then 17 else 0
def openL (l : Loc) (c : Int) (base : Bool) : Loc := if openE l c base = 0 then ⟨l.sl, l.sc ++ [⟨l.sl.length, c, base⟩], l.is⟩ else loc0
theorem openL_no {l : Loc} {c : Int} {base : Bool} {e : Int} (h : openE l c base = e) (he : e ≠ 0) : openL l c base = loc0 := by unfold openL; rw [if_neg (by omega)]
theorem lens_ok {l : Loc} (h : okB l = true) : l.sl.length ≤ 4096 ∧ l.sc.length ≤ 64 ∧ l.is.length ≤ 4096 := by
  refine ⟨sl_le h, ?_, (issAll_iff.1 (okB_iff.1 h).1).1⟩
  cases h0 : l.sc[0]? with
  | none => have := List.getElem?_eq_none_iff.1 h0; omega
  | some s => exact (okSc_first (okB_iff.1 h).2.1 h0).2.1

set_option maxRecDepth 100000 in
set_option maxHeartbeats 3200000 in
theorem open_any (pa : Option Addr) (na ca : Nat) (pb : Option Addr) (nb cb : Nat) (pc : Option Addr) (nc cc : Nat) (l : Loc) (c : Int) (base : Bool) (w : World) (hr : LRow w pa na ca pb nb cb pc nc cc l) :
    Calls Try.prog 36 #[.agg #[.slice pa na ca, .slice pb nb cb, .slice pc nc cc], .int .i64 c, .bool base] w fun e w' => RetL (openL l c base) (openE l c base) e w' ∧ Below w.heap.size w w' := by
  have Hl := Lib.hid hr.lens
  obtain ⟨h63a, h63b, h63c⟩ := hr.i63
  have Hr := Lib.hid (fun w' (h : Below w.heap.size w w') => hr.keep h)
  have hv := Lib.hid (fun w h => scValid_any pa na ca pb nb cb pc nc cc l w h)
  have hcp := Lib.hid (fun w => validCap_any c w)
  clear hr
  cases ho : okB l
  · have E : openE l c base = 1 := by unfold openE; rw [if_pos (Or.inl ho)]
    rw [openL_no E (by decide), E]
    rw [ho] at hv
    clear E ho
    go_enter Try.func36, Try.ntmps36
    go_wp2_with (first | ((go_at_call 35; refine (hv.out _ (Hr.out _ (bthen below_box below_box))).mono ?_); rintro e w2 ⟨rfl, hb2⟩; (obtain ⟨hX, hY, hB2, hs2⟩ := start2 hb2); have HX := Lib.hid hX; have HY := Lib.hid hY; have HB := Lib.hid hB2; (obtain ⟨x0, x1, x2⟩ := own3c hX); (obtain ⟨y0, y1, y2, z0, z1, z2⟩ := own6 hY); clear hX hY hB2 hb2))
    exact bodyPost_ret (v := .tuple #[.agg #[.slice none 0 0, .slice none 0 0, .slice none 0 0], .int .i64 1]) (by simp [results, Try.results36, go_sem, y0, y1, y2]) rfl ⟨RetL.zero _ _, ((HB.out.setCell (by simp) _).setCell (by simp) _).setCell (by simp) _⟩
  · rw [ho] at hv
    cases hcf : capB c
    · have E : openE l c base = 1 := by unfold openE; rw [if_pos (Or.inr hcf)]
      rw [openL_no E (by decide), E]
      rw [hcf] at hcp
      clear E ho hcf
      go_enter Try.func36, Try.ntmps36
      go_wp2_with (first | ((go_at_call 35; refine (hv.out _ (Hr.out _ (bthen below_box below_box))).mono ?_); rintro e w2 ⟨rfl, hb2⟩; (obtain ⟨hX, hY, hB2, hs2⟩ := start2 hb2); have HX := Lib.hid hX; have HY := Lib.hid hY; have HB := Lib.hid hB2; (obtain ⟨x0, x1, x2⟩ := own3c hX); (obtain ⟨y0, y1, y2, z0, z1, z2⟩ := own6 hY); clear hX hY hB2 hb2) | ((go_at_call 51; refine (hcp.out _).mono ?_); rintro e w2' ⟨rfl, rfl⟩))
      exact bodyPost_ret (v := .tuple #[.agg #[.slice none 0 0, .slice none 0 0, .slice none 0 0], .int .i64 1]) (by simp [results, Try.results36, go_sem, y0, y1, y2]) rfl ⟨RetL.zero _ _, ((HB.out.setCell (by simp) _).setCell (by simp) _).setCell (by simp) _⟩
    · rw [hcf] at hcp
      have hn1 : ¬ (okB l = false ∨ capB c = false) := by rw [ho, hcf]; decide
      by_cases h2 : base = false ∧ nb = 0
      · obtain ⟨rfl, h2⟩ := h2
        have E : openE l c false = 9 := by unfold openE; rw [if_neg hn1, if_pos ⟨rfl, by rw [Hl.out.2.1]; exact h2⟩]
        rw [openL_no E (by decide), E]
        have hz : ((nb : Int) == 0) = true := beq_iff_eq.2 (by omega)
        clear E ho hcf hn1 h2
        go_enter Try.func36, Try.ntmps36
        go_wp2_with (first | ((go_at_call 35; refine (hv.out _ (Hr.out _ (bthen below_box below_box))).mono ?_); rintro e w2 ⟨rfl, hb2⟩; (obtain ⟨hX, hY, hB2, hs2⟩ := start2 hb2); have HX := Lib.hid hX; have HY := Lib.hid hY; have HB := Lib.hid hB2; (obtain ⟨x0, x1, x2⟩ := own3c hX); (obtain ⟨y0, y1, y2, z0, z1, z2⟩ := own6 hY); clear hX hY hB2 hb2) | ((go_at_call 51; refine (hcp.out _).mono ?_); rintro e w2' ⟨rfl, rfl⟩))
        exact bodyPost_ret (v := .tuple #[.agg #[.slice none 0 0, .slice none 0 0, .slice none 0 0], .int .i64 9]) (by simp [results, Try.results36, go_sem, y0, y1, y2]) rfl ⟨RetL.zero _ _, ((HB.out.setCell (by simp) _).setCell (by simp) _).setCell (by simp) _⟩
      · have hz : base = true ∨ base = false ∧ ((nb : Int) == 0) = false := by
          cases base
          · exact .inr ⟨rfl, beq_eq_false_iff_ne.2 (fun e => h2 ⟨rfl, by omega⟩)⟩
          · exact .inl rfl
        have hn2 : ¬ (base = false ∧ l.sc.length = 0) := by rw [Hl.out.2.1]; exact h2
        by_cases h3 : nb = 64
        · have E : openE l c base = 17 := by unfold openE; rw [if_neg hn1, if_neg hn2, if_pos (by rw [Hl.out.2.1]; exact h3)]
          rw [openL_no E (by decide), E]
          have h64 : ((nb : Int) == 64) = true := beq_iff_eq.2 (by omega)
          clear E ho hcf hn1 hn2 h2 h3
          rcases hz with rfl | ⟨rfl, hz⟩
          all_goals
            go_enter Try.func36, Try.ntmps36
            go_wp2_with (first | ((go_at_call 35; refine (hv.out _ (Hr.out _ (bthen below_box below_box))).mono ?_); rintro e w2 ⟨rfl, hb2⟩; (obtain ⟨hX, hY, hB2, hs2⟩ := start2 hb2); have HX := Lib.hid hX; have HY := Lib.hid hY; have HB := Lib.hid hB2; (obtain ⟨x0, x1, x2⟩ := own3c hX); (obtain ⟨y0, y1, y2, z0, z1, z2⟩ := own6 hY); clear hX hY hB2 hb2) | ((go_at_call 51; refine (hcp.out _).mono ?_); rintro e w2' ⟨rfl, rfl⟩))
            exact bodyPost_ret (v := .tuple #[.agg #[.slice none 0 0, .slice none 0 0, .slice none 0 0], .int .i64 17]) (by simp [results, Try.results36, go_sem, y0, y1, y2]) rfl ⟨RetL.zero _ _, ((HB.out.setCell (by simp) _).setCell (by simp) _).setCell (by simp) _⟩
        · have E : openE l c base = 0 := by unfold openE; rw [if_neg hn1, if_neg hn2, if_neg (by rw [Hl.out.2.1]; exact h3)]
          have EL : openL l c base = ⟨l.sl, l.sc ++ [⟨l.sl.length, c, base⟩], l.is⟩ := by unfold openL; rw [if_pos E]
          rw [EL, E]
          have h64 : ((nb : Int) == 64) = false := beq_eq_false_iff_ne.2 (by omega)
          obtain ⟨k1, k2, k3⟩ := lens_ok ho
          have k4 := k1
          have k5 := k2
          have k6 := k3
          rw [Hl.out.1] at k1
          rw [Hl.out.2.1] at k2
          rw [Hl.out.2.2] at k3
          obtain ⟨i0, hin, hz0, hz1, hz2⟩ := info_parts infoSp
          clear E EL ho hcf hn1 hn2 h2 h3
          rcases hz with rfl | ⟨rfl, hz⟩
          · go_enter Try.func36, Try.ntmps36
            go_upto_region 8 with (first | ((go_at_call 35; refine (hv.out _ (Hr.out _ (bthen below_box below_box))).mono ?_); rintro e w2 ⟨rfl, hb2⟩; (obtain ⟨hX, hY, hB2, hs2⟩ := start2 hb2); have HX := Lib.hid hX; have HY := Lib.hid hY; have HB := Lib.hid hB2; (obtain ⟨x0, x1, x2⟩ := own3c hX); (obtain ⟨y0, y1, y2, z0, z1, z2⟩ := own6 hY); clear hX hY hB2 hb2) | ((go_at_call 51; refine (hcp.out _).mono ?_); rintro e w2' ⟨rfl, rfl⟩) | ((go_at_call 38; refine (owned_any _ _ _ _ _ _ _ _ _ _ _ (Hr.out _ HB.out) (by omega) (by omega) (by omega)).mono ?_); rintro e w3 ⟨⟨q1, c1, q2, c2, q3, c3, rfl, hO⟩, hb3⟩; have HO := Lib.hid hO; have HX3 := Lib.hid (HX.out.keep hb3 (by omega)); have HY3 := Lib.hid (HY.out.keep hb3 (by omega)); have HB3 := Lib.hid (HB.out.trans (hb3.mono HB.out.size)); have hs3 := hb3.size; clear x0 x1 x2 y0 y1 y2 z0 z1 z2 hO hb3; (obtain ⟨x0, x1, x2, u0, u1, u2⟩ := own6 HX3.out); (obtain ⟨y0, y1, y2, z0, z1, z2⟩ := own6 HY3.out)))
            obtain ⟨w4, hw4⟩ : ∃ w4, ((w3.setCell ⟨w.heap.size, 0, none⟩ (.slice q1 l.sl.length c1)).setCell ⟨w.heap.size, 1, none⟩ (.slice q2 l.sc.length c2)).setCell ⟨w.heap.size, 2, none⟩ (.slice q3 l.is.length c3) = w4 := ⟨_, rfl⟩
            have HX4 := Lib.hid (show OwnL w4 w.heap.size [.slice q1 l.sl.length c1, .slice q2 l.sc.length c2, .slice q3 l.is.length c3] from by rw [← hw4]; exact set3_own HX3.out)
            have HY4 := Lib.hid (show OwnL w4 (w.heap.size + 1) [.slice none 0 0, .slice none 0 0, .slice none 0 0] from by rw [← hw4]; exact set3_other HY3.out (by omega))
            have HO4 := Lib.hid (show OwnLoc w4 w2.heap.size q1 l.sl.length c1 q2 l.sc.length c2 q3 l.is.length c3 l from by rw [← hw4]; exact set3_loc HO.out (by omega))
            have HB4 := Lib.hid (show Below w.heap.size w w4 from by rw [← hw4]; exact set3_below HB3.out (Nat.le_refl _))
            have hs4 : w2.heap.size ≤ w4.heap.size := by rw [← hw4, set3_size]; exact hs3
            rw [hw4]
            clear hw4 HO HX3 HY3 HB3 HX HY HB hs3 x0 x1 x2 u0 u1 u2 y0 y1 y2 z0 z1 z2
            obtain ⟨x0, x1, x2, u0, u1, u2⟩ := own6 HX4.out
            obtain ⟨y0, y1, y2, z0, z1, z2⟩ := own6 HY4.out
            go_wp2_with (at_builtin; refine wpList_append_own_at _ rfl _ _ 25 rfl w2.heap.size 77 i0 _ 3 24 Try.underlying25 hin hz0 hz1 hz2 rfl (by decide) (.slice q2 l.sc.length c2) (l.sc.length) (l.sc.flatMap spC) rfl (HO4.out.b.alloc _) ⟨w4.heap.size, 0, none⟩ 1 1 (spC ⟨l.sl.length, c, true⟩) rfl rfl (World.news_of_block (cs := #[.int .i64 l.sl.length, .int .i64 c, .bool true]) (fr := (0, 0)) (heap_alloc_new w4 _)) ?m2 ?m3 ?m4 ?m5 ?_)
            case m2 => simp [Value.oneCell', spC]
            case m3 => unfold maxLen; omega
            case m4 => omega
            case m5 => simp; omega
            intro v' w5 hown hgrow _ hat
            obtain ⟨q4, c4, rfl⟩ := own_form hown
            have hO' := HO4.out.keep (below_box (o := .cells #[.int .i64 l.sl.length, .int .i64 c, .bool true] 77))
            have HO5 := Lib.hid (hO'.appB hown hgrow (by rw [World.size_alloc]; exact hat))
            have HX5 := Lib.hid ((HX4.out.keep (below_box (o := .cells #[.int .i64 l.sl.length, .int .i64 c, .bool true] 77)) (by omega)).grown hgrow (by simp; omega) (fun e => by have := (HO4.out.b.lt _ e.symm).1; omega))
            have HY5 := Lib.hid ((HY4.out.keep (below_box (o := .cells #[.int .i64 l.sl.length, .int .i64 c, .bool true] 77)) (by omega)).grown hgrow (by simp; omega) (fun e => by have := (HO4.out.b.lt _ e.symm).1; omega))
            have HB5 := Lib.hid (below_row (bthen HB4.out (below_box (o := .cells #[.int .i64 l.sl.length, .int .i64 c, .bool true] 77))) hO'.b hgrow (by omega) (by simp; omega))
            have hs5 : w2.heap.size ≤ w5.heap.size := by have := hgrow.size; simp at this; omega
            clear hO' hown hgrow hat x0 x1 x2 u0 u1 u2 y0 y1 y2 z0 z1 z2
            obtain ⟨x0, x1, x2, u0, u1, u2⟩ := own6 HX5.out
            obtain ⟨y0, y1, y2, z0, z1, z2⟩ := own6 HY5.out
            go_wp2
            exact bodyPost_ret (v := .tuple #[.agg #[.slice q1 l.sl.length c1, .slice q4 (l.sc.length + 1) c4, .slice q3 l.is.length c3], .int .i64 0]) (by simp [results, Try.results36, go_sem, y0, y1, y2]) rfl ⟨⟨q1, l.sl.length, c1, q4, l.sc.length + 1, c4, q3, l.is.length, c3, rfl, (set3_loc (HO5.out.cell ⟨w.heap.size, 1, none⟩ _ (by simp; omega)) (by omega)).row⟩, set3_below (HB5.out.setCell (Nat.le_refl _) _) (by omega)⟩
          · go_enter Try.func36, Try.ntmps36
            go_upto_region 8 with (first | ((go_at_call 35; refine (hv.out _ (Hr.out _ (bthen below_box below_box))).mono ?_); rintro e w2 ⟨rfl, hb2⟩; (obtain ⟨hX, hY, hB2, hs2⟩ := start2 hb2); have HX := Lib.hid hX; have HY := Lib.hid hY; have HB := Lib.hid hB2; (obtain ⟨x0, x1, x2⟩ := own3c hX); (obtain ⟨y0, y1, y2, z0, z1, z2⟩ := own6 hY); clear hX hY hB2 hb2) | ((go_at_call 51; refine (hcp.out _).mono ?_); rintro e w2' ⟨rfl, rfl⟩) | ((go_at_call 38; refine (owned_any _ _ _ _ _ _ _ _ _ _ _ (Hr.out _ HB.out) (by omega) (by omega) (by omega)).mono ?_); rintro e w3 ⟨⟨q1, c1, q2, c2, q3, c3, rfl, hO⟩, hb3⟩; have HO := Lib.hid hO; have HX3 := Lib.hid (HX.out.keep hb3 (by omega)); have HY3 := Lib.hid (HY.out.keep hb3 (by omega)); have HB3 := Lib.hid (HB.out.trans (hb3.mono HB.out.size)); have hs3 := hb3.size; clear x0 x1 x2 y0 y1 y2 z0 z1 z2 hO hb3; (obtain ⟨x0, x1, x2, u0, u1, u2⟩ := own6 HX3.out); (obtain ⟨y0, y1, y2, z0, z1, z2⟩ := own6 HY3.out)))
            obtain ⟨w4, hw4⟩ : ∃ w4, ((w3.setCell ⟨w.heap.size, 0, none⟩ (.slice q1 l.sl.length c1)).setCell ⟨w.heap.size, 1, none⟩ (.slice q2 l.sc.length c2)).setCell ⟨w.heap.size, 2, none⟩ (.slice q3 l.is.length c3) = w4 := ⟨_, rfl⟩
            have HX4 := Lib.hid (show OwnL w4 w.heap.size [.slice q1 l.sl.length c1, .slice q2 l.sc.length c2, .slice q3 l.is.length c3] from by rw [← hw4]; exact set3_own HX3.out)
            have HY4 := Lib.hid (show OwnL w4 (w.heap.size + 1) [.slice none 0 0, .slice none 0 0, .slice none 0 0] from by rw [← hw4]; exact set3_other HY3.out (by omega))
            have HO4 := Lib.hid (show OwnLoc w4 w2.heap.size q1 l.sl.length c1 q2 l.sc.length c2 q3 l.is.length c3 l from by rw [← hw4]; exact set3_loc HO.out (by omega))
            have HB4 := Lib.hid (show Below w.heap.size w w4 from by rw [← hw4]; exact set3_below HB3.out (Nat.le_refl _))
            have hs4 : w2.heap.size ≤ w4.heap.size := by rw [← hw4, set3_size]; exact hs3
            rw [hw4]
            clear hw4 HO HX3 HY3 HB3 HX HY HB hs3 x0 x1 x2 u0 u1 u2 y0 y1 y2 z0 z1 z2
            obtain ⟨x0, x1, x2, u0, u1, u2⟩ := own6 HX4.out
            obtain ⟨y0, y1, y2, z0, z1, z2⟩ := own6 HY4.out
            go_wp2_with (at_builtin; refine wpList_append_own_at _ rfl _ _ 25 rfl w2.heap.size 77 i0 _ 3 24 Try.underlying25 hin hz0 hz1 hz2 rfl (by decide) (.slice q2 l.sc.length c2) (l.sc.length) (l.sc.flatMap spC) rfl (HO4.out.b.alloc _) ⟨w4.heap.size, 0, none⟩ 1 1 (spC ⟨l.sl.length, c, false⟩) rfl rfl (World.news_of_block (cs := #[.int .i64 l.sl.length, .int .i64 c, .bool false]) (fr := (0, 0)) (heap_alloc_new w4 _)) ?m2 ?m3 ?m4 ?m5 ?_)
            case m2 => simp [Value.oneCell', spC]
            case m3 => unfold maxLen; omega
            case m4 => omega
            case m5 => simp; omega
            intro v' w5 hown hgrow _ hat
            obtain ⟨q4, c4, rfl⟩ := own_form hown
            have hO' := HO4.out.keep (below_box (o := .cells #[.int .i64 l.sl.length, .int .i64 c, .bool false] 77))
            have HO5 := Lib.hid (hO'.appB hown hgrow (by rw [World.size_alloc]; exact hat))
            have HX5 := Lib.hid ((HX4.out.keep (below_box (o := .cells #[.int .i64 l.sl.length, .int .i64 c, .bool false] 77)) (by omega)).grown hgrow (by simp; omega) (fun e => by have := (HO4.out.b.lt _ e.symm).1; omega))
            have HY5 := Lib.hid ((HY4.out.keep (below_box (o := .cells #[.int .i64 l.sl.length, .int .i64 c, .bool false] 77)) (by omega)).grown hgrow (by simp; omega) (fun e => by have := (HO4.out.b.lt _ e.symm).1; omega))
            have HB5 := Lib.hid (below_row (bthen HB4.out (below_box (o := .cells #[.int .i64 l.sl.length, .int .i64 c, .bool false] 77))) hO'.b hgrow (by omega) (by simp; omega))
            have hs5 : w2.heap.size ≤ w5.heap.size := by have := hgrow.size; simp at this; omega
            clear hO' hown hgrow hat x0 x1 x2 u0 u1 u2 y0 y1 y2 z0 z1 z2
            obtain ⟨x0, x1, x2, u0, u1, u2⟩ := own6 HX5.out
            obtain ⟨y0, y1, y2, z0, z1, z2⟩ := own6 HY5.out
            go_wp2
            exact bodyPost_ret (v := .tuple #[.agg #[.slice q1 l.sl.length c1, .slice q4 (l.sc.length + 1) c4, .slice q3 l.is.length c3], .int .i64 0]) (by simp [results, Try.results36, go_sem, y0, y1, y2]) rfl ⟨⟨q1, l.sl.length, c1, q4, l.sc.length + 1, c4, q3, l.is.length, c3, rfl, (set3_loc (HO5.out.cell ⟨w.heap.size, 1, none⟩ _ (by simp; omega)) (by omega)).row⟩, set3_below (HB5.out.setCell (Nat.le_refl _) _) (by omega)⟩
end Go.Proofs.Ytapfbnhcndifhaa
