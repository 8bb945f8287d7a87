/- Contracts of package handle and its reference: Encode. -/
import Derived.Test.YtpfbofcofhcfpaaDoorHnP
namespace Go.Proofs.YtpfbofcofhcfpaaDoor
open Go.RowKit

set_option maxHeartbeats 1600000 in
theorem hnenc_ok (t i s : Nat) (w : World) (hw : Wid w) (hv : validH t i s = true) :
    Calls Tryd.prog 7 #[.agg #[.int .i64 t, .int .i64 i, .int .i64 s]] w fun e w' => e = .returned (.tuple #[.int .u64 (wordH t i s), .int .i64 0]) ∧ Below w.heap.size w w' := by
  obtain ⟨h1, h2, h3, h4, h5, h6⟩ := vh_parts hv
  have hp := Lib.hid (pack_hand hv)
  have hg := hw.alloc (.cells #[.int .i64 t, .int .i64 i, .int .i64 s] 23)
  have hc := Lib.hid (hnvalid_any t i s (w.alloc (.cells #[.int .i64 t, .int .i64 i, .int .i64 s] 23)) hg)
  rw [hv] at hc
  clear hv hw
  go_enter Tryd.func7, Tryd.ntmps7
  go_wp2_with fail
  refine hc.out.mono ?_
  rintro e w1 ⟨rfl, hb1⟩
  obtain ⟨c0, c1, c2⟩ := box3 (by simpa using hb1)
  obtain ⟨g0, g1, g2⟩ := hg.keep hb1
  clear hc hg
  go_wp2_with fail
  refine (pack_any _ 3 3 [(2, t), (16, i), (32, s)] _ rfl (by omega) (frow3 w1 37 2 16 32 t i s)).mono ?_
  rw [hp.out]
  rintro e w2 ⟨rfl, hb2⟩
  go_wp2
  go_ret2
  exact ⟨rfl, bthen (below_boxed hb1) (below_boxed hb2)⟩

set_option maxHeartbeats 800000 in
theorem hnenc_no (t i s : Int) (w : World) (hw : Wid w) (hv : validH t i s = false) :
    Calls Tryd.prog 7 #[.agg #[.int .i64 t, .int .i64 i, .int .i64 s]] w fun e w' => e = .returned (.tuple #[.int .u64 0, .int .i64 1]) ∧ Below w.heap.size w w' := by
  have hc := Lib.hid (hnvalid_any t i s (w.alloc (.cells #[.int .i64 t, .int .i64 i, .int .i64 s] 23)) (hw.alloc _))
  rw [hv] at hc
  clear hv hw
  go_enter Tryd.func7, Tryd.ntmps7
  go_wp2_with fail
  refine hc.out.mono ?_
  rintro e w1 ⟨rfl, hb1⟩
  clear hc
  go_wp2
  go_ret2
  exact ⟨rfl, below_boxed hb1⟩

theorem hnenc_any (t i s : Int) (w : World) (hw : Wid w) :
    Calls Tryd.prog 7 #[.agg #[.int .i64 t, .int .i64 i, .int .i64 s]] w fun e w' => e = .returned (.tuple #[.int .u64 (hencV t i s), .int .i64 (hencE t i s)]) ∧ Below w.heap.size w w' := by
  by_cases hv : validH t i s = true
  · obtain ⟨e1, e2⟩ := henc_ok hv
    obtain ⟨h1, -, h3, -, h5, -⟩ := vh_parts hv
    rw [e1, e2]
    obtain ⟨t, rfl⟩ := Int.eq_ofNat_of_zero_le (show 0 ≤ t by omega)
    obtain ⟨i, rfl⟩ := Int.eq_ofNat_of_zero_le h3
    obtain ⟨s, rfl⟩ := Int.eq_ofNat_of_zero_le (show 0 ≤ s by omega)
    exact hnenc_ok t i s w hw hv
  · have hv : validH t i s = false := by simpa using hv
    obtain ⟨e1, e2⟩ := henc_no hv
    rw [e1, e2]
    exact hnenc_no t i s w hw hv

set_option maxHeartbeats 800000 in
theorem rhenc_ok (t i s : Int) (w : World) (hv : validH t i s = true) :
    Calls Tryd.prog 8 #[.agg #[.int .i64 t, .int .i64 i, .int .i64 s]] w fun e w' => e = .returned (.tuple #[.int .u64 (wordH t i s), .int .i64 0]) ∧ Below w.heap.size w w' := by
  obtain ⟨h1, h2, h3, h4, h5, h6⟩ := vh_parts hv
  have hc := Lib.hid (rhvalid_any t i s (w.alloc (.cells #[.int .i64 t, .int .i64 i, .int .i64 s] 23)))
  have E := Lib.hid (show wordH t i s = t + i * 4 + s * 262144 from by unfold wordH; omega)
  rw [hv] at hc
  clear hv
  go_enter Tryd.func8, Tryd.ntmps8
  go_wp2_with fail
  refine hc.out.mono ?_
  rintro e w1 ⟨rfl, hb1⟩
  obtain ⟨c0, c1, c2⟩ := box3 (by simpa using hb1)
  clear hc
  go_wp2
  go_ret2
  exact ⟨ret_ints (by rw [E.out]; try simp) rfl, below_boxed hb1⟩

set_option maxHeartbeats 800000 in
theorem rhenc_no (t i s : Int) (w : World) (hv : validH t i s = false) :
    Calls Tryd.prog 8 #[.agg #[.int .i64 t, .int .i64 i, .int .i64 s]] w fun e w' => e = .returned (.tuple #[.int .u64 0, .int .i64 1]) ∧ Below w.heap.size w w' := by
  have hc := Lib.hid (rhvalid_any t i s (w.alloc (.cells #[.int .i64 t, .int .i64 i, .int .i64 s] 23)))
  rw [hv] at hc
  clear hv
  go_enter Tryd.func8, Tryd.ntmps8
  go_wp2_with fail
  refine hc.out.mono ?_
  rintro e w1 ⟨rfl, hb1⟩
  clear hc
  go_wp2
  go_ret2
  exact ⟨rfl, below_boxed hb1⟩

theorem rhenc_any (t i s : Int) (w : World) :
    Calls Tryd.prog 8 #[.agg #[.int .i64 t, .int .i64 i, .int .i64 s]] w fun e w' => e = .returned (.tuple #[.int .u64 (hencV t i s), .int .i64 (hencE t i s)]) ∧ Below w.heap.size w w' := by
  by_cases hv : validH t i s = true
  · obtain ⟨e1, e2⟩ := henc_ok hv
    rw [e1, e2]
    exact rhenc_ok t i s w hv
  · have hv : validH t i s = false := by simpa using hv
    obtain ⟨e1, e2⟩ := henc_no hv
    rw [e1, e2]
    exact rhenc_no t i s w hv
end Go.Proofs.YtpfbofcofhcfpaaDoor
