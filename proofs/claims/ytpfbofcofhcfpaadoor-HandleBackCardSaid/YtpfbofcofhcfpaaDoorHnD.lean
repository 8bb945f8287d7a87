/- The laws of layer 16 over arguments as they are read; what the listed variable gives the walks. -/
import Derived.Test.YtpfbofcofhcfpaaDoorHnL
import Derived.Test.YtpfbofcofhcfpaaDoorHnK
import Derived.Test.YtpfbofcofhcfpaaDoorRows
import Derived.Lib.SmallJoins
import Derived.WideShapes
import Derived.LaidMore
import Derived.LaidLaws
import Derived.LaidHandle
import Derived.MakeChecks
import Derived.OpenShut
import Derived.ProofKit
namespace Go.Proofs.YtpfbofcofhcfpaaDoor
open Go.RowKit Go.ChangeShapes Go.WideShapes
section
variable {H : Type} {enc : TypeId × Value → H} {w : World} {spare : Nat → Bool} {held : Bool}
theorem open_handle {r : Reach} {b0 base : Nat} {v : Value} {d : DataW H} {p : List MemPlace} (hv : Value.okWide Tryd.prog w r b0 23 v) (h : DataW.Trod enc Tryd.prog w base spare held 23 v d p) :
    ∃ k n m : Int, v = .agg #[.int .i64 k, .int .i64 n, .int .i64 m] := by
  obtain ⟨v0, v1, v2, y0, y1, y2, n, rfl, _, _, t0, t1, t2⟩ := Joins.open_agg3 Tryd.underlying23 (by kernel_rfl) (by kernel_rfl) hv h
  obtain ⟨x0, e0, _, _⟩ := DataW.trod_int Tryd.underlying3 t0
  obtain ⟨x1, e1, _, _⟩ := DataW.trod_int Tryd.underlying3 t1
  obtain ⟨x2, e2, _, _⟩ := DataW.trod_int Tryd.underlying3 t2
  simp at e0 e1 e2
  subst e0 e1 e2
  exact ⟨x0, x1, x2, rfl⟩
theorem lawHDecI {x : Int} (hw : Wid w) (hx : (Lit.int .u64 x).wf = true) :
    Calls Tryd.prog 4 #[.int .u64 x] w fun e w' => e = .returned (.bool true) ∧ Below w.heap.size w w' := by
  obtain ⟨x, rfl, h⟩ := u64_of_wf hx; exact lawHDec x w hw h
theorem lawHApartI {x : Int} (hw : Wid w) (hx : (Lit.int .u64 x).wf = true) :
    Calls Tryd.prog 6 #[.int .u64 x] w fun e w' => e = .returned (.bool true) ∧ Below w.heap.size w w' := by
  obtain ⟨x, rfl, h⟩ := u64_of_wf hx; exact lawHApart x w hw h
theorem lawHBackI {t i s x : Int} (hw : Wid w) (hx : (Lit.int .u64 x).wf = true) :
    Calls Tryd.prog 5 #[.agg #[.int .i64 t, .int .i64 i, .int .i64 s], .int .u64 x] w fun e w' => e = .returned (.bool true) ∧ Below w.heap.size w w' := by
  obtain ⟨x, rfl, h⟩ := u64_of_wf hx; exact lawHBack t i s x w hw h
end
theorem gWid : Tryd.prog.globalNamed "semispace/handle.widths" = some 0 := by kernel_rfl
theorem tWid : (Tryd.prog.globals[0]?).map (·.type) = some 35 := by kernel_rfl
theorem wid_of_laid {W : World} (h : laidMetH Tryd.prog [("semispace/handle.widths", Rows.laid_semispace_handle_widths)] W) : Wid W := by
  rw [MakeChecks.laidMetH_plain _ _ _ (by kernel_rfl)] at h
  obtain ⟨ps, ⟨g0, t0, cs0, f0, p0, q0, hg0, ht0, hv0, hd0, _, _⟩, _, _⟩ := h
  obtain rfl := Option.some.inj (gWid.symm.trans hg0)
  obtain rfl := Option.some.inj (tWid.symm.trans ht0)
  obtain ⟨xs, m1, rfl, hx1, hlen, hn3, hel⟩ := DataW.trod_array Tryd.underlying35 hd0
  have c1 : Tryd.prog.cellsOf 3 = 1 := by kernel_rfl
  have h0 := hel 0 (by decide)
  have h1 := hel 1 (by decide)
  have h2 := hel 2 (by decide)
  simp only [Prod.mk.injEq, Rows.laid_semispace_handle_widths, DataW.agg.injEq] at hx1
  match xs, hn3, hx1, h0, h1, h2 with
  | [x0, x1, x2], _, hx1, h0, h1, h2 =>
    simp only [List.map_cons, List.map_nil, List.cons.injEq] at hx1
    obtain ⟨k0, a0, b0, _⟩ := DataW.trod_int Tryd.underlying3 (show DataW.trod _ Tryd.prog W 0 _ false m1 3 _ = some x0 from h0)
    obtain ⟨k1, a1, b1, _⟩ := DataW.trod_int Tryd.underlying3 (show DataW.trod _ Tryd.prog W 0 _ false m1 3 _ = some x1 from h1)
    obtain ⟨k2, a2, b2, _⟩ := DataW.trod_int Tryd.underlying3 (show DataW.trod _ Tryd.prog W 0 _ false m1 3 _ = some x2 from h2)
    have e0 : k0 = 2 := by rw [b0] at hx1; simpa using hx1.1.1.symm
    have e1 : k1 = 16 := by rw [b1] at hx1; simpa using hx1.1.2.1.symm
    have e2 : k2 = 32 := by rw [b2] at hx1; simpa using hx1.1.2.2.1.symm
    subst e0 e1 e2
    have w0 := World.var?_cell hg0 hv0 0
    have w1 := World.var?_cell hg0 hv0 1
    have w2 := World.var?_cell hg0 hv0 2
    obtain ⟨l⟩ := cs0
    rw [c1] at a0 a1 a2
    match l, a0, a1, a2 with
    | c :: d :: e :: _, a0, a1, a2 =>
      simp at a0 a1 a2
      subst a0 a1 a2
      exact ⟨by simpa using w0, by simpa using w1, by simpa using w2⟩
end Go.Proofs.YtpfbofcofhcfpaaDoor
