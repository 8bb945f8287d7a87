/- Contracts of package alloc: bump. -/
import Derived.Test.YtbenklhbcgiacaaAlcB
import Derived.Test.YtbenklhbcgiacaaOwn
set_option linter.unusedSimpArgs false
set_option linter.unusedVariables false
namespace Go.Proofs.Ytbenklhbcgiacaa
open Go.RowKit

theorem pvals_setU : ∀ (ps : List Pg) (k : Nat) (x : Pg) (v : Int), ps[k]? = some x → (pvals ps).set (k * 4 + 2) (.int .i64 v) = pvals (ps.set k ⟨x.kind, x.space, v, x.pins⟩)
  | [], k, x, v, h => by simp at h
  | y :: r, 0, x, v, h => by
    simp at h; subst h
    simp [pvals, Pg.vals]
  | y :: r, k + 1, x, v, h => by
    rw [List.getElem?_cons_succ] at h
    have ih := pvals_setU r k x v h
    have c : ∀ (l : List Value) (j : Nat) (u : Value), (y.vals ++ l).set (j + 4) u = y.vals ++ l.set j u := fun l j u => by simp [Pg.vals]
    rw [List.set_cons_succ, show (k + 1) * 4 + 2 = (k * 4 + 2) + 4 from by omega, show pvals (y :: r) = y.vals ++ pvals r from rfl, show pvals (y :: r.set k ⟨x.kind, x.space, v, x.pins⟩) = y.vals ++ pvals (r.set k ⟨x.kind, x.space, v, x.pins⟩) from rfl, c, ih]
theorem own_setU {w : World} {base g n cap : Nat} {e : TypeId} {qs : List Pg} (h : w.ownsRow base e 4 (.slice (some ⟨g, 0, none⟩) n cap) n (pvals qs)) (j : Nat) (x : Pg) (hx : qs[j]? = some x) (v : Int) :
    (w.setCell ⟨g, j * 4 + 2, none⟩ (.int .i64 v)).ownsRow base e 4 (.slice (some ⟨g, 0, none⟩) n cap) n (pvals (qs.set j ⟨x.kind, x.space, v, x.pins⟩)) := by
  rw [← pvals_setU qs j x v hx]
  exact (h.stored _ _).1

/-- A call returned a spot whose pages are a table of its own, or none. -/
def RetSp (B : Nat) (p : Option Addr) (n c : Nat) (ok : Bool) (h : Hp) (a : Int) (e : Ending) (w' : World) : Prop :=
  (ok = true ∧ ∃ q m d, e = .returned (spotV h.pw h.np p n c q m d h.space h.bump a) ∧ w'.ownsRow B 55 4 (.slice q m d) m (pvals h.pages)) ∨ (ok = false ∧ e = .returned .nilIface)
theorem RetSp.mono {B B' : Nat} {p : Option Addr} {n c : Nat} {ok : Bool} {h : Hp} {a : Int} {e : Ending} {w' : World} (hr : RetSp B p n c ok h a e w') (hb : B' ≤ B) : RetSp B' p n c ok h a e w' := by
  rcases hr with ⟨h1, q, m, d, h2, h3⟩ | h1
  · exact Or.inl ⟨h1, q, m, d, h2, own_mono h3 hb⟩
  · exact Or.inr h1
theorem RetSp.at {B : Nat} {pw np : Int} {p : Option Addr} {n c : Nat} {q : Option Addr} {m d : Nat} {sp bp i o : Int} {ps : List Pg} {ws : List Int} {w' : World} (h : w'.ownsRow B 55 4 (.slice q m d) m (pvals ps)) :
    RetSp B p n c (decide (addrE pw np i o = 0)) ⟨pw, np, ws, ps, sp, bp⟩ (addrV pw np i o) (.returned (spotR pw np p n c q m d sp bp i o)) w' := by
  by_cases h0 : addrE pw np i o = 0
  · exact Or.inl ⟨decide_eq_true h0, q, m, d, by rw [spotR, if_pos h0], h⟩
  · exact Or.inr ⟨decide_eq_false h0, by rw [spotR, if_neg h0]⟩

set_option maxHeartbeats 1600000 in
theorem bump_any (pw np sp nn : Int) (ws : List Int) (K : Nat) (p q : Option Addr) (n c m d : Nat) (ps : List Pg) (x : Pg) (w : World) (hr : PRow w q m d ps) (hx : ps[K]? = some x) (hm5 : m ≤ 100000) (hn : 0 ≤ nn ∧ nn ≤ 100000) (hu : 0 ≤ x.used ∧ x.used ≤ 100000) :
    Calls Try.prog 46 #[hpv pw np p n c q m d sp K, .int .i64 nn] w fun e w' => RetSp w.heap.size p n c (decide (addrE pw np K x.used = 0)) ⟨pw, np, ws, ps.set K ⟨x.kind, x.space, x.used + nn, x.pins⟩, sp, K⟩ (addrV pw np K x.used) e w' ∧ Below w.heap.size w w' := by
  have hlen := hr.len
  have hKm : K < m := by have := (List.getElem?_eq_some_iff.1 hx).1; omega
  have hKi : (K : Int) < m := by omega
  have hmi : (m : Int) ≤ 100000 := by omega
  obtain ⟨hn0, hn1⟩ := hn
  obtain ⟨hu0, hu1⟩ := hu
  have Hr := Lib.hid hr
  have Hx := Lib.hid hx
  obtain ⟨x', b2, off, hx', rfl, d0, d1, d2, d3⟩ := hr.at_ hKm
  obtain rfl : x = x' := by rw [hx] at hx'; exact Option.some.inj hx'
  have Ho := Lib.hid (OwnL.new w [.int .i64 pw, .int .i64 np, .slice p n c, .slice (some ⟨b2, off, none⟩) m d, .int .i64 sp, .int .i64 K] 32)
  obtain ⟨c0, c1, c2, c3, c4, c5, hbx⟩ := boxH w (.int .i64 pw) (.int .i64 np) (.slice p n c) (.slice (some ⟨b2, off, none⟩) m d) (.int .i64 sp) (.int .i64 K) 32
  have d2 := cell_keep hbx d2
  have hcl := Lib.hid (fun w h => clone_any b2 off m d ps w h hm5 (by omega))
  have hbx0 := below_box (w := w) (o := .cells #[.int .i64 pw, .int .i64 np, .slice p n c, .slice (some ⟨b2, off, none⟩) m d, .int .i64 sp, .int .i64 K] 32)
  have Hr1 := Lib.hid (Hr.out.keep hbx0)
  unfold hpv
  clear hr hx hx' d0 d1 d3 hlen
  go_enter Try.func46, Try.ntmps46
  go_wp2_with fail
  refine (hcl.out _ Hr1.out).mono ?_
  rintro e w1 ⟨⟨g, c', rfl, hg, hown⟩, hb1⟩
  have Ho1 := Ho.out.keep hb1 (by simp)
  have hgw : w.heap.size + 1 ≤ g := by simpa using hg
  have hB1 := bthen hbx hb1
  have c0 := cell_keep hb1 c0
  have c1 := cell_keep hb1 c1
  have c2 := cell_keep hb1 c2
  have c3 := cell_keep hb1 c3
  have c4 := cell_keep hb1 c4
  have c5 := cell_keep hb1 c5
  have f3 := Ho1.free 3
  obtain ⟨⟨e0, e1, e2, e3⟩, g0, g1, g2, g3⟩ := own_page hown Hx.out
  have hne : w.heap.size ≠ g := by omega
  have hne' : g ≠ w.heap.size := by omega
  have hown2 := own_other hown ⟨w.heap.size, 3, none⟩ (.slice (some ⟨g, 0, none⟩) m c') hne'
  have hown3 := Lib.hid (own_setU hown2 K x Hx.out (x.used + nn))
  have hBel := Lib.hid (show Below w.heap.size w ((w1.setCell ⟨w.heap.size, 3, none⟩ (.slice (some ⟨g, 0, none⟩) m c')).setCell ⟨g, K * 4 + 2, none⟩ (.int .i64 (x.used + nn))) from (hB1.setCell (Nat.le_refl _) _).setCell (show w.heap.size ≤ g by omega) _)
  have hsa := Lib.hid (fun w => spotAt_any pw np sp K K x.used p (some ⟨g, 0, none⟩) n c m c' w)
  unfold hpv at hsa
  have hi64 := IntWalk.i64_in
  clear hb1 hbx hbx0 hcl Ho Hr1 hown hown2 Ho1 hB1 hg
  go_wp2_with fail
  refine (hsa.out _).mono ?_
  rintro e w2 ⟨rfl, hb2⟩
  go_wp2
  go_ret
  exact ⟨RetSp.at (own_below (own_mono hown3.out (by simp)) hb2), bthen hBel.out hb2⟩
end Go.Proofs.Ytbenklhbcgiacaa
