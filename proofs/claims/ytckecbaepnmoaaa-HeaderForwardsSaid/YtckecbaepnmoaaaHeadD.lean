/- The laws of layer 3 over arguments as they are read. -/
import Derived.Test.YtckecbaepnmoaaaHeadJ
import Derived.Lib.SmallJoins
import Derived.WideShapes
namespace Go.Proofs.Ytckecbaepnmoaaa
open Go.RowKit Go.ChangeShapes Go.WideShapes
section
variable {H : Type} {enc : TypeId × Value → H} {w : World} {spare : Nat → Bool} {held : Bool}
theorem u32_of_wf {x : Int} (h : (Lit.int .u32 x).wf = true) : 0 ≤ x ∧ x < 4294967296 := by
  have h1 : IntKind.u32.min = 0 := rfl
  have h2 : IntKind.u32.max = 4294967295 := rfl
  simp only [Lit.wf, Bool.and_eq_true, decide_eq_true_eq] at h
  omega
theorem open_header {r : Reach} {b0 base : Nat} {v : Value} {d : DataW H} {p : List MemPlace} (hv : Value.okWide Try.prog w r b0 24 v) (h : DataW.Trod enc Try.prog w base spare held 24 v d p) :
    ∃ k n m : Int, v = .agg #[.int .i64 k, .int .i64 n, .int .u32 m] ∧ 0 ≤ m ∧ m < 4294967296 := by
  obtain ⟨v0, v1, v2, y0, y1, y2, n, rfl, _, _, t0, t1, t2⟩ := Joins.open_agg3 Try.underlying24 (by kernel_rfl) (by kernel_rfl) hv h
  obtain ⟨x0, e0, _, _⟩ := DataW.trod_int Try.underlying3 t0
  obtain ⟨x1, e1, _, _⟩ := DataW.trod_int Try.underlying3 t1
  obtain ⟨x2, e2, _, w2⟩ := DataW.trod_int Try.underlying22 t2
  simp at e0 e1 e2
  subst e0 e1 e2
  exact ⟨x0, x1, x2, rfl, (u32_of_wf w2).1, (u32_of_wf w2).2⟩
theorem lawDecodesI {x : Int} (hx : (Lit.int .u64 x).wf = true) :
    Calls Try.prog 4 #[.int .u64 x] w fun e w' => e = .returned (.bool true) ∧ Below w.heap.size w w' := by
  obtain ⟨x, rfl, h⟩ := u64_of_wf hx; exact lawDecodes x w h
theorem lawForwardsI {a x : Int} (ha : (Lit.int .u64 a).wf = true) (hx : (Lit.int .u64 x).wf = true) :
    Calls Try.prog 6 #[.int .u64 a, .int .u64 x] w fun e w' => e = .returned (.bool true) ∧ Below w.heap.size w w' := by
  obtain ⟨a, rfl, h1⟩ := u64_of_wf ha
  obtain ⟨x, rfl, h⟩ := u64_of_wf hx; exact lawForwards a x w h1 h
theorem lawApartI {x : Int} (hx : (Lit.int .u64 x).wf = true) :
    Calls Try.prog 7 #[.int .u64 x] w fun e w' => e = .returned (.bool true) ∧ Below w.heap.size w w' := by
  obtain ⟨x, rfl, h⟩ := u64_of_wf hx; exact lawApart x w h
theorem lawBackI {k n m x : Int} (hm0 : 0 ≤ m) (hm : m < 4294967296) (hx : (Lit.int .u64 x).wf = true) :
    Calls Try.prog 5 #[.agg #[.int .i64 k, .int .i64 n, .int .u32 m], .int .u64 x] w fun e w' => e = .returned (.bool true) ∧ Below w.heap.size w w' := by
  obtain ⟨x, rfl, h⟩ := u64_of_wf hx; exact lawBack k n m x w hm0 hm h
end
end Go.Proofs.Ytckecbaepnmoaaa
