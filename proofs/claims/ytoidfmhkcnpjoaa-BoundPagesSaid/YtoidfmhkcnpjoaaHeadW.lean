/- Contracts of the references of layer 3: Size, Pointer, Pointers. -/
import Derived.Test.YtoidfmhkcnpjoaaHeadV
namespace Go.Proofs.Ytoidfmhkcnpjoaa
open Go.RowKit

set_option maxHeartbeats 800000 in
theorem refSize_any (k n m : Int) (w : World) (hm0 : 0 ≤ m) (hm : m < 4294967296) :
    Calls Try.prog 21 #[.agg #[.int .i64 k, .int .i64 n, .int .u32 m]] w fun e w' => e = .returned (.int .i64 (sizeV k n m)) ∧ Below w.heap.size w w' := by
  have hc := Lib.hid (refValid_any k n m (w.alloc (.cells #[.int .i64 k, .int .i64 n, .int .u32 m] 28)) hm0 hm)
  by_cases hv : validB k n m = true
  · rw [size_ok hv]
    obtain ⟨-, -, h3, h4, -, -⟩ := valid_parts hv
    rw [hv] at hc
    clear hv
    go_enter Try.func21, Try.ntmps21
    go_wp2_with fail
    refine hc.out.mono ?_
    rintro e w1 ⟨rfl, hb1⟩
    obtain ⟨c0, c1, c2⟩ := box3 (by simpa using hb1)
    clear hc
    go_wp2
    go_ret
    exact ⟨rfl, below_boxed hb1⟩
  · have hv : validB k n m = false := by simpa using hv
    rw [size_no hv]
    rw [hv] at hc
    clear hv
    go_enter Try.func21, Try.ntmps21
    go_wp2_with fail
    refine hc.out.mono ?_
    rintro e w1 ⟨rfl, hb1⟩
    clear hc
    go_wp2
    go_ret
    exact ⟨rfl, below_boxed hb1⟩

end Go.Proofs.Ytoidfmhkcnpjoaa
