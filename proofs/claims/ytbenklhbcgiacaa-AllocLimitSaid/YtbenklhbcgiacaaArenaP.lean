/- Contracts of package arena. -/
import Derived.Test.YtbenklhbcgiacaaArenaM
namespace Go.Proofs.Ytbenklhbcgiacaa
open Go.RowKit

set_option maxHeartbeats 400000 in
theorem locate_arg (p : Option Addr) (len cap : Nat) (a n : Int) (w : World) (h : n < 0) :
    Calls Try.prog 58 #[.slice p len cap, .int .u64 a, .int .i64 n] w fun e w' => e = .returned (.tuple #[.int .i64 0, .int .i64 1]) ∧ w = w' := by
  go_enter Try.func58, Try.ntmps58
  go_wp2
  go_ret2
  exact ⟨rfl, rfl⟩

set_option maxHeartbeats 400000 in
theorem locate_ok0 (p : Option Addr) (len cap n : Nat) (a : Int) (w : World) (hl : (len : Int) ≤ 9223372036854775807) (h1 : 4096 ≤ a) (h2 : a - 4096 + n ≤ len) :
    Calls Try.prog 58 #[.slice p len cap, .int .u64 a, .int .i64 n] w fun e w' => e = .returned (.tuple #[.int .i64 (a - 4096), .int .i64 0]) ∧ w = w' := by
  go_enter Try.func58, Try.ntmps58
  go_wp2
  go_ret2
  exact ⟨rfl, rfl⟩
theorem locate_ok (p : Option Addr) (len cap i n : Nat) (w : World) (hl : (len : Int) ≤ 9223372036854775807) (h : i + n ≤ len) :
    Calls Try.prog 58 #[.slice p len cap, .int .u64 (4096 + (i : Int)), .int .i64 n] w fun e w' => e = .returned (.tuple #[.int .i64 i, .int .i64 0]) ∧ w = w' := by
  have := locate_ok0 p len cap n (4096 + (i : Int)) w hl (by omega) (by omega)
  rw [show (4096 + (i : Int)) - 4096 = (i : Int) from by omega] at this
  exact this

set_option maxHeartbeats 400000 in
theorem locate_no (p : Option Addr) (len cap : Nat) (a : Int) (n : Nat) (w : World) (hl : (len : Int) ≤ 9223372036854775807) (hn : (n : Int) ≤ 9223372036854775807) (ha : 0 ≤ a) (ha2 : a < 18446744073709551616) (h : a < 4096 ∨ len < a - 4096 + n) :
    Calls Try.prog 58 #[.slice p len cap, .int .u64 a, .int .i64 n] w fun e w' => e = .returned (.tuple #[.int .i64 0, .int .i64 2]) ∧ w = w' := by
  by_cases h1 : a < 4096
  · go_enter Try.func58, Try.ntmps58
    go_wp2
    go_ret2
    exact ⟨rfl, rfl⟩
  · by_cases h2 : (len : Int) < a - 4096
    · clear h
      go_enter Try.func58, Try.ntmps58
      go_wp2
      go_ret2
      exact ⟨rfl, rfl⟩
    · have h3 : (len : Int) - (a - 4096) < n := by omega
      clear h
      go_enter Try.func58, Try.ntmps58
      go_wp2
      go_ret2
      exact ⟨rfl, rfl⟩

set_option maxHeartbeats 400000 in
theorem dup_any (p : Option Addr) (n cap : Nat) (xs : List Int) (w : World) (hr : SRow w .u64 p n cap xs) (hn : n ≤ 100000) :
    Calls Try.prog 59 #[.slice p n cap] w fun e w' => DupRet 38 xs n w e w' := by
  obtain ⟨i0, hi, hz0, hz1, hz2⟩ := info_parts infoU64
  have hl := Lib.hid hr.len
  have hr1 := Lib.hid hr
  clear hr
  go_enter Try.func59, Try.ntmps59
  go_wp2_with (at_make; refine wpList_make_full _ rfl _ _ 29 rfl w.heap.size 38 i0 (.int .u64 0) 1 Try.underlying29 hi hz0 hz1 .i64 .i64 n n n rfl rfl rfl rfl ?c1 ?c2 ?c3 ?_)
  case c1 => rw [hz2]; omega
  case c2 => unfold maxLen; omega
  case c3 => exact Nat.le_refl _
  intro w2 hown hg
  rw [made_zeros] at hown
  have hb : Below w.heap.size w w2 := (Below.refl _ _).grown hg (Nat.le_refl _) (fun k h => by cases h)
  have hblk := Lib.hid (Blk.of_own hown).2
  have hr2 := Lib.hid (hr1.out.keep hb)
  clear hown hg hr1
  go_wp2_with ((with_reducible show wpList _ _ _ _ _ _); refine wpList_copy_splice (o := ⟨some 9, _, _, _, _, _⟩) rfl _ _ _ _ rfl 38 Try.underlying29 sizeU64 (some ⟨w.heap.size, 0, none⟩) p n n n cap rfl rfl w.heap.size 0 (ivals .u64 (List.replicate n 0)) 38 hblk.out (ivals .u64 xs) ?c4 (fun hpos => ⟨rfl, hr2.out.row.src hpos⟩) ?c5 (ivals_one _ _) w.heap.size w hb (Nat.le_refl _) ?_)
  case c4 => rw [ivals_len, hl.out]; exact (Nat.min_self n).symm
  case c5 => rw [ivals_len, ivals_len, List.length_replicate, hl.out]; omega
  intro w3 hg3 hb3
  rw [ivals_splice, splice_all _ _ (by rw [List.length_replicate, hl.out])] at hg3
  go_wp2
  go_ret
  exact ⟨_, rfl, Nat.le_refl _, hg3.out, hb3⟩
end Go.Proofs.Ytbenklhbcgiacaa
