/- Contracts of package alloc: spotAt, bumpFits, bump. -/
import Derived.Test.YtbenklhbcgiacaaAlcA
import Derived.Test.YtbenklhbcgiacaaTkA
import Derived.Test.YtbenklhbcgiacaaPgW
set_option linter.unusedSimpArgs false
set_option linter.unusedVariables false
namespace Go.Proofs.Ytbenklhbcgiacaa
open Go.RowKit

/-- The value of a heap whose slices are known. -/
def hpv (pw np : Int) (p : Option Addr) (n c : Nat) (q : Option Addr) (m d : Nat) (sp bp : Int) : Value := .agg #[.int .i64 pw, .int .i64 np, .slice p n c, .slice q m d, .int .i64 sp, .int .i64 bp]
/-- A spot as an interface's value. -/
def spotV (pw np : Int) (p : Option Addr) (n c : Nat) (q : Option Addr) (m d : Nat) (sp bp a : Int) : Value := .iface 50 (.agg #[.int .i64 pw, .int .i64 np, .slice p n c, .slice q m d, .int .i64 sp, .int .i64 bp, .int .u64 a])
def spotR (pw np : Int) (p : Option Addr) (n c : Nat) (q : Option Addr) (m d : Nat) (sp bp i o : Int) : Value := if addrE pw np i o = 0 then spotV pw np p n c q m d sp bp (addrV pw np i o) else .nilIface

theorem ifaceSpot (v : Value) (w : World) : (Instr.makeInterface 50 v).run Try.prog w = .ok (.iface 50 v) w := by kernel_rfl

set_option maxHeartbeats 800000 in
theorem spotAt_any (pw np sp bp i o : Int) (p q : Option Addr) (n c m d : Nat) (w : World) :
    Calls Try.prog 44 #[hpv pw np p n c q m d sp bp, .int .i64 i, .int .i64 o] w fun e w' => e = .returned (spotR pw np p n c q m d sp bp i o) ∧ Below w.heap.size w w' := by
  have ha := Lib.hid (fun w => address_any pw np i o w)
  obtain ⟨c0, c1, c2, c3, c4, c5, hbx⟩ := boxH w (.int .i64 pw) (.int .i64 np) (.slice p n c) (.slice q m d) (.int .i64 sp) (.int .i64 bp) 32
  have hif := ifaceSpot
  unfold hpv
  by_cases h : addrE pw np i o = 0
  · have E := Lib.hid (show spotR pw np p n c q m d sp bp i o = spotV pw np p n c q m d sp bp (addrV pw np i o) from if_pos h)
    rw [h] at ha
    rw [E.out]
    clear E h
    unfold spotV
    go_enter Try.func44, Try.ntmps44
    go_wp2_with fail
    refine (ha.out _).mono ?_
    rintro e w1 ⟨rfl, hb1⟩
    have c0 := cell_keep hb1 c0
    have c1 := cell_keep hb1 c1
    have c2 := cell_keep hb1 c2
    have c3 := cell_keep hb1 c3
    have c4 := cell_keep hb1 c4
    have c5 := cell_keep hb1 c5
    have hB := Lib.hid (bthen hbx hb1)
    clear ha hb1 hbx
    go_wp2
    go_ret
    exact ⟨rfl, hB.out⟩
  · have E := Lib.hid (show spotR pw np p n c q m d sp bp i o = .nilIface from if_neg h)
    have hne : (addrE pw np i o != 0) = true := bne_iff_ne.2 h
    rw [E.out]
    clear E h
    generalize addrE pw np i o = er at ha hne
    go_enter Try.func44, Try.ntmps44
    go_wp2_with fail
    refine (ha.out _).mono ?_
    rintro e w1 ⟨rfl, hb1⟩
    have hB := Lib.hid (bthen hbx hb1)
    clear ha hb1 hbx
    go_wp2
    go_ret
    exact ⟨rfl, hB.out⟩

/-- Does the page bp take nn words more? -/
def fitsB (pw : Int) (ps : List Pg) (sp bp nn : Int) : Bool := decide (¬ bp = -1 ∧ (ps.getD bp.toNat Pg.zero).space = sp ∧ (ps.getD bp.toNat Pg.zero).used + nn ≤ pw)

set_option maxHeartbeats 1600000 in
theorem bumpFits_any (pw np sp bp nn : Int) (p q : Option Addr) (n c m d : Nat) (ps : List Pg) (w : World) (hr : PRow w q m d ps) (hb : bp = -1 ∨ 0 ≤ bp ∧ bp < ps.length) (hn : 0 ≤ nn ∧ nn ≤ 100000) (hu : ¬ bp = -1 → 0 ≤ (ps.getD bp.toNat Pg.zero).used ∧ (ps.getD bp.toNat Pg.zero).used ≤ 100000) :
    Calls Try.prog 45 #[hpv pw np p n c q m d sp bp, .int .i64 nn] w fun e w' => e = .returned (.bool (fitsB pw ps sp bp nn)) ∧ Below w.heap.size w w' := by
  obtain ⟨c0, c1, c2, c3, c4, c5, hbx⟩ := boxH w (.int .i64 pw) (.int .i64 np) (.slice p n c) (.slice q m d) (.int .i64 sp) (.int .i64 bp) 32
  obtain ⟨hn0, hn1⟩ := hn
  have hi64 := IntWalk.i64_in
  unfold hpv
  by_cases h1 : bp = -1
  · have E := Lib.hid (show fitsB pw ps sp bp nn = false from decide_eq_false fun h => h.1 h1)
    rw [E.out]
    subst h1
    clear E hb hu hr hi64
    go_enter Try.func45, Try.ntmps45
    go_wp2
    go_ret
    exact ⟨rfl, hbx⟩
  · obtain ⟨g1, g2⟩ := hu h1
    have hbb : 0 ≤ bp ∧ bp < ps.length := by rcases hb with h | h
                                             · exact absurd h h1
                                             · exact h
    obtain ⟨K, rfl⟩ := Int.eq_ofNat_of_zero_le hbb.1
    have hlen := hr.len
    have hm := hr.i63.2
    have hKm : K < m := by omega
    have hKi : (K : Int) < m := by omega
    obtain ⟨x, b2, off, hx, rfl, d0, d1, d2, d3⟩ := hr.at_ hKm
    have hlt : b2 < w.heap.size := cell_lt d0
    have e0 := cell_keep hbx d0
    have e1 := cell_keep hbx d1
    have e2 := cell_keep hbx d2
    have e3 := cell_keep hbx d3
    have hF := Lib.hid (show fitsB pw ps sp K nn = decide (x.space = sp ∧ x.used + nn ≤ pw) from by unfold fitsB; rw [Int.toNat_natCast, getD_at hx]; simp [h1])
    rw [Int.toNat_natCast, getD_at hx] at g1 g2
    have hk1 : ((K : Int) == -1) = false := beq_eq_false_iff_ne.2 h1
    have f0 := cell_keep (w' := (w.alloc (.cells #[.int .i64 pw, .int .i64 np, .slice p n c, .slice (some ⟨b2, off, none⟩) m d, .int .i64 sp, .int .i64 K] 32)).alloc (.cells #[.int .i64 x.kind, .int .i64 x.space, .int .i64 x.used, .int .i64 x.pins] 55)) below_box c0
    have f4 := cell_keep (w' := (w.alloc (.cells #[.int .i64 pw, .int .i64 np, .slice p n c, .slice (some ⟨b2, off, none⟩) m d, .int .i64 sp, .int .i64 K] 32)).alloc (.cells #[.int .i64 x.kind, .int .i64 x.space, .int .i64 x.used, .int .i64 x.pins] 55)) below_box c4
    have hB := Lib.hid (bthen hbx (below_box (w := w.alloc (.cells #[.int .i64 pw, .int .i64 np, .slice p n c, .slice (some ⟨b2, off, none⟩) m d, .int .i64 sp, .int .i64 K] 32)) (o := .cells #[.int .i64 x.kind, .int .i64 x.space, .int .i64 x.used, .int .i64 x.pins] 55)))
    rw [hF.out]
    clear hb hu hr hx hbb h1 hF d0 d1 d2 d3
    by_cases hs : x.space = sp
    · have E := Lib.hid (show decide (x.space = sp ∧ x.used + nn ≤ pw) = decide (x.used + nn ≤ pw) from by simp [hs])
      rw [E.out]
      have hs' : (x.space == sp) = true := by simpa using hs
      clear E hs
      go_enter Try.func45, Try.ntmps45
      go_wp2
      go_ret
      exact ⟨rfl, hB.out⟩
    · have E := Lib.hid (show decide (x.space = sp ∧ x.used + nn ≤ pw) = false from by simp [hs])
      rw [E.out]
      have hs' : (x.space == sp) = false := by simpa using hs
      clear E hs
      go_enter Try.func45, Try.ntmps45
      go_wp2
      go_ret
      exact ⟨rfl, hB.out⟩
end Go.Proofs.Ytbenklhbcgiacaa
