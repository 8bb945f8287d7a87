/- Contracts of package arena: New, Read, Write, Store, Move. -/
import Derived.Test.YtbenklhbcgiacaaArenaP
import Derived.Test.YtbenklhbcgiacaaArenaX
namespace Go.Proofs.Ytbenklhbcgiacaa
open Go.RowKit


/-- The walk behind 'copy(changed[i:], l)' is the same in Write and Move: the cut's address where something goes over. -/
theorem cut_dst {g n i m : Nat} (h : i + m ≤ n) (hm : 0 < m) : cutP (some ⟨g, 0, none⟩) n i = some ⟨g, i, none⟩ := by
  rw [cutP_some (by omega), Nat.zero_add]
theorem min_le' {a b : Nat} (h : a ≤ b) : a = Nat.min a b := (Nat.min_eq_left h).symm

set_option maxHeartbeats 400000 in
theorem write_any (p q : Option Addr) (n cap m c : Nat) (xs l : List Int) (a : Int) (w : World) (hr : SRow w .u64 p n cap xs) (hs : SRow w .u64 q m c l) (hn : n ≤ 100000) (ha : 0 ≤ a) (ha2 : a < 18446744073709551616) :
    Calls Try.prog 49 #[.slice p n cap, .int .u64 a, .slice q m c] w fun e w' => RetS (writeV xs a l) (writeE xs a l) e w' ∧ Below w.heap.size w w' := by
  have hl := hr.i63
  have hl2 := hs.i63.2
  have hlen := Lib.hid hr.len
  have hlen2 := Lib.hid hs.len
  rcases okA_cases n a m with ⟨i, rfl, hi, hk⟩ | ⟨hk, hi⟩
  · obtain ⟨e1, e2⟩ := write_ok (xs := xs) (l := l) (i := i) (by rw [hlen.out, hlen2.out]; exact hk)
    have E1 := Lib.hid e1; have E2 := Lib.hid e2
    have hc := Lib.hid (locate_ok p n cap i m w hl.2 hi)
    have hd := Lib.hid (dup_any p n cap xs w hr hn)
    have hs1 := Lib.hid hs
    clear e1 e2 hk hr hs
    go_enter Try.func49, Try.ntmps49
    go_wp2_with fail
    refine hc.out.mono ?_
    rintro e w' ⟨rfl, rfl⟩
    clear hc
    go_wp2_with fail
    refine hd.out.mono ?_
    rintro e w1 ⟨g, rfl, hg, hblk, hb⟩
    have Hblk := Lib.hid hblk
    have hs2 := Lib.hid (hs1.out.keep hb)
    clear hd hs1 hblk
    go_wp2_with ((with_reducible show wpList _ _ _ _ _ _); first
      | (refine wpList_cutFrom (o := ⟨some 26, _, _, _, _, _⟩) rfl _ _ _ rfl 38 Try.underlying29 sizeU64 (some ⟨g, 0, none⟩) n n rfl .i64 i rfl i rfl (by omega) ?_)
      | (refine wpList_copy_splice (o := ⟨some 28, _, _, _, _, _⟩) rfl _ _ _ _ rfl 38 Try.underlying29 sizeU64 (cutP (some ⟨g, 0, none⟩) n i) q (n - i) (n - i) m c rfl rfl g i (ivals .u64 xs) 38 Hblk.out (ivals .u64 l) ?c4 (fun hpos => ⟨?c6, hs2.out.row.src hpos⟩) ?c5 (ivals_one _ _) w.heap.size w hb hg ?_))
    case c4 => rw [ivals_len, hlen2.out]; exact min_le' (by omega)
    case c5 => rw [ivals_len, ivals_len, hlen.out, hlen2.out]; exact hi
    case c6 => rw [ivals_len, hlen2.out] at hpos; exact cut_dst hi hpos
    intro w3 hg3 hb3
    rw [ivals_splice] at hg3
    have hres := Lib.hid (Blk.srow (n := n) hg3.out (by rw [splice_len (by rw [hlen.out, hlen2.out]; exact hi)]; exact hlen.out) (by unfold maxLen; omega))
    clear hg3
    go_wp2
    go_ret2
    exact ⟨RetS.mk hres.out E1.out E2.out, hb3⟩
  · obtain ⟨e1, e2⟩ := write_no (xs := xs) (l := l) (a := a) (by rw [hlen.out, hlen2.out]; exact hk)
    have E1 := Lib.hid e1; have E2 := Lib.hid e2
    have hc := Lib.hid (locate_no p n cap a m w hl.2 hl2 ha ha2 hi)
    clear e1 e2 hr hs hi hk
    go_enter Try.func49, Try.ntmps49
    go_wp2_with fail
    refine hc.out.mono ?_
    rintro e w' ⟨rfl, rfl⟩
    clear hc
    go_wp2
    go_ret2
    exact ⟨RetS.no E1.out E2.out, Below.refl _ _⟩

end Go.Proofs.Ytbenklhbcgiacaa
