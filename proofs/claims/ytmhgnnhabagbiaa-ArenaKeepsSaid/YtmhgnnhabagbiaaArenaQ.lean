/- Contracts of package arena: New, Read, Write, Store, Move. -/
import Derived.Test.YtmhgnnhabagbiaaArenaP
namespace Go.Proofs.Ytmhgnnhabagbiaa
open Go.RowKit

theorem RetS.nil (er : Int) (w : World) : RetS [] er (.returned (.tuple #[.slice none 0 0, .int .i64 er])) w := ⟨none, 0, 0, rfl, SRow.nil _ _ _⟩
theorem RetS.mk {xs ys : List Int} {er er' : Int} {w : World} {q : Option Addr} {m c : Nat} (h : SRow w .u64 q m c xs) (e1 : ys = xs) (e2 : er' = er) : RetS ys er' (.returned (.tuple #[.slice q m c, .int .i64 er])) w := by
  subst e1 e2; exact ⟨q, m, c, rfl, h⟩
theorem RetS.no {ys : List Int} {er er' : Int} {w : World} (e1 : ys = []) (e2 : er' = er) : RetS ys er' (.returned (.tuple #[.slice none 0 0, .int .i64 er])) w := by
  subst e1 e2; exact RetS.nil _ _

set_option maxHeartbeats 400000 in
theorem new_any (n : Int) (w : World) :
    Calls Try.prog 9 #[.int .i64 n] w fun e w' => RetS (newV n) (newE n) e w' ∧ Below w.heap.size w w' := by
  obtain ⟨i0, hi, hz0, hz1, hz2⟩ := info_parts infoU64
  by_cases h1 : n < 0
  · obtain ⟨e1, e2⟩ := new_no (n := n) (by omega)
    have E1 := Lib.hid e1; have E2 := Lib.hid e2
    clear e1 e2
    go_enter Try.func9, Try.ntmps9
    go_wp2
    go_ret2
    exact ⟨RetS.no E1.out E2.out, Below.refl _ _⟩
  · by_cases h2 : 4096 < n
    · obtain ⟨e1, e2⟩ := new_no (n := n) (by omega)
      have E1 := Lib.hid e1; have E2 := Lib.hid e2
      clear e1 e2
      go_enter Try.func9, Try.ntmps9
      go_wp2
      go_ret2
      exact ⟨RetS.no E1.out E2.out, Below.refl _ _⟩
    · obtain ⟨k, rfl⟩ : ∃ k : Nat, n = k := ⟨n.toNat, by omega⟩
      obtain ⟨e1, e2⟩ := new_ok (k := k) (by omega)
      have E1 := Lib.hid e1; have E2 := Lib.hid e2
      clear e1 e2
      go_enter Try.func9, Try.ntmps9
      go_wp2_with (at_make; refine wpList_make_full _ rfl _ _ 22 rfl w.heap.size 23 i0 (.int .u64 0) 1 Try.underlying22 hi hz0 hz1 .i64 .i64 k k k rfl rfl rfl rfl ?c1 ?c2 ?c3 ?_)
      any_goals first | omega | (rw [hz2]; omega) | (unfold maxLen; omega)
      intro w2 hown hg
      rw [made_zeros] at hown
      have hb : Below w.heap.size w w2 := (Below.refl _ _).grown hg (Nat.le_refl _) (fun k h => by cases h)
      have hblk := Lib.hid (Blk.of_own hown).2
      clear hown hg
      go_wp2
      go_ret2
      exact ⟨RetS.mk (hblk.out.srow (by simp) (by unfold maxLen; omega)) E1.out E2.out, hb⟩

set_option maxHeartbeats 400000 in
theorem read_any (p : Option Addr) (n cap : Nat) (xs : List Int) (a m : Int) (w : World) (hr : SRow w .u64 p n cap xs) (hn : n ≤ 100000) (ha : 0 ≤ a) (ha2 : a < 18446744073709551616) (hm : m ≤ 9223372036854775807) :
    Calls Try.prog 19 #[.slice p n cap, .int .u64 a, .int .i64 m] w fun e w' => RetS (readV xs a m) (readE xs a m) e w' ∧ Below w.heap.size w w' := by
  have hl := hr.i63
  have hlen := Lib.hid hr.len
  by_cases h1 : m < 0
  · obtain ⟨e1, e2⟩ := read_arg (xs := xs) (a := a) h1
    have E1 := Lib.hid e1; have E2 := Lib.hid e2
    have hc := Lib.hid (locate_arg p n cap a m w h1)
    clear e1 e2 hr
    go_enter Try.func19, Try.ntmps19
    go_wp2_with fail
    refine hc.out.mono ?_
    rintro e w' ⟨rfl, rfl⟩
    clear hc
    go_wp2
    go_ret2
    exact ⟨RetS.no E1.out E2.out, Below.refl _ _⟩
  · obtain ⟨k, rfl⟩ : ∃ k : Nat, m = k := ⟨m.toNat, by omega⟩
    rcases okA_cases n a k with ⟨i, rfl, hi, hk⟩ | ⟨hk, hi⟩
    · obtain ⟨e1, e2⟩ := read_ok (xs := xs) (i := i) (n := k) (by rw [hlen.out]; exact hk)
      have E1 := Lib.hid e1; have E2 := Lib.hid e2
      have hc := Lib.hid (locate_ok p n cap i k w hl.2 hi)
      have hcut := Lib.hid (hr.cut hi)
      have hle := hr.le
      clear e1 e2 hk hr
      go_enter Try.func19, Try.ntmps19
      go_wp2_with fail
      refine hc.out.mono ?_
      rintro e w' ⟨rfl, rfl⟩
      clear hc
      go_wp2_with ((with_reducible show wpList _ _ _ _ _ _); refine wpList_cut (o := ⟨some 25, _, _, _, _, _⟩) rfl _ _ _ _ rfl 23 Try.underlying22 sizeU64 p n cap rfl .i64 .i64 i _ rfl rfl i k rfl ?c1 ?c2 ?_)
      case c1 => first | rfl | omega
      case c2 => omega
      go_wp2_with fail
      refine (dup_any _ _ _ _ _ hcut.out (by omega)).mono ?_
      rintro e w' ⟨g, rfl, hg, hblk, hb⟩
      have hblk := Lib.hid (hblk.srow hcut.out.len (by unfold maxLen; omega))
      go_wp2
      go_ret2
      exact ⟨RetS.mk hblk.out E1.out E2.out, hb⟩
    · obtain ⟨e1, e2⟩ := read_no (xs := xs) (a := a) (n := k) (by rw [hlen.out]; exact hk)
      have E1 := Lib.hid e1; have E2 := Lib.hid e2
      have hc := Lib.hid (locate_no p n cap a k w hl.2 hm ha ha2 hi)
      clear e1 e2 hr hi hk
      go_enter Try.func19, Try.ntmps19
      go_wp2_with fail
      refine hc.out.mono ?_
      rintro e w' ⟨rfl, rfl⟩
      clear hc
      go_wp2
      go_ret2
      exact ⟨RetS.no E1.out E2.out, Below.refl _ _⟩

/-- The walk behind 'copy(changed[i:], l)' is the same in Write and Move: the cut's address where something goes over. -/
theorem cut_dst {g n i m : Nat} (h : i + m ≤ n) (hm : 0 < m) : cutP (some ⟨g, 0, none⟩) n i = some ⟨g, i, none⟩ := by
  rw [cutP_some (by omega), Nat.zero_add]
theorem min_le' {a b : Nat} (h : a ≤ b) : a = Nat.min a b := (Nat.min_eq_left h).symm

set_option maxHeartbeats 400000 in
theorem write_any (p q : Option Addr) (n cap m c : Nat) (xs l : List Int) (a : Int) (w : World) (hr : SRow w .u64 p n cap xs) (hs : SRow w .u64 q m c l) (hn : n ≤ 100000) (ha : 0 ≤ a) (ha2 : a < 18446744073709551616) :
    Calls Try.prog 21 #[.slice p n cap, .int .u64 a, .slice q m c] w fun e w' => RetS (writeV xs a l) (writeE xs a l) e w' ∧ Below w.heap.size w w' := by
  have hl := hr.i63
  have hl2 := hs.i63.2
  have hlen := Lib.hid hr.len
  have hlen2 := Lib.hid hs.len
  rcases okA_cases n a m with ⟨i, rfl, hi, hk⟩ | ⟨hk, hi⟩
  · obtain ⟨e1, e2⟩ := write_ok (xs := xs) (l := l) (i := i) (by rw [hlen.out, hlen2.out]; exact hk)
    have E1 := Lib.hid e1; have E2 := Lib.hid e2
    have hc := Lib.hid (locate_ok p n cap i m w hl.2 hi)
    have hd := Lib.hid (dup_any p n cap xs w hr hn)
    have hs1 := Lib.hid hs
    clear e1 e2 hk hr hs
    go_enter Try.func21, Try.ntmps21
    go_wp2_with fail
    refine hc.out.mono ?_
    rintro e w' ⟨rfl, rfl⟩
    clear hc
    go_wp2_with fail
    refine hd.out.mono ?_
    rintro e w1 ⟨g, rfl, hg, hblk, hb⟩
    have Hblk := Lib.hid hblk
    have hs2 := Lib.hid (hs1.out.keep hb)
    clear hd hs1 hblk
    go_wp2_with ((with_reducible show wpList _ _ _ _ _ _); first
      | (refine wpList_cutFrom (o := ⟨some 26, _, _, _, _, _⟩) rfl _ _ _ rfl 23 Try.underlying22 sizeU64 (some ⟨g, 0, none⟩) n n rfl .i64 i rfl i rfl (by omega) ?_)
      | (refine wpList_copy_splice (o := ⟨some 28, _, _, _, _, _⟩) rfl _ _ _ _ rfl 23 Try.underlying22 sizeU64 (cutP (some ⟨g, 0, none⟩) n i) q (n - i) (n - i) m c rfl rfl g i (ivals .u64 xs) 23 Hblk.out (ivals .u64 l) ?c4 (fun hpos => ⟨?c6, hs2.out.row.src hpos⟩) ?c5 (ivals_one _ _) w.heap.size w hb hg ?_))
    case c4 => rw [ivals_len, hlen2.out]; exact min_le' (by omega)
    case c5 => rw [ivals_len, ivals_len, hlen.out, hlen2.out]; exact hi
    case c6 => rw [ivals_len, hlen2.out] at hpos; exact cut_dst hi hpos
    intro w3 hg3 hb3
    rw [ivals_splice] at hg3
    have hres := Lib.hid (Blk.srow (n := n) hg3.out (by rw [splice_len (by rw [hlen.out, hlen2.out]; exact hi)]; exact hlen.out) (by unfold maxLen; omega))
    clear hg3
    go_wp2
    go_ret2
    exact ⟨RetS.mk hres.out E1.out E2.out, hb3⟩
  · obtain ⟨e1, e2⟩ := write_no (xs := xs) (l := l) (a := a) (by rw [hlen.out, hlen2.out]; exact hk)
    have E1 := Lib.hid e1; have E2 := Lib.hid e2
    have hc := Lib.hid (locate_no p n cap a m w hl.2 hl2 ha ha2 hi)
    clear e1 e2 hr hs hi hk
    go_enter Try.func21, Try.ntmps21
    go_wp2_with fail
    refine hc.out.mono ?_
    rintro e w' ⟨rfl, rfl⟩
    clear hc
    go_wp2
    go_ret2
    exact ⟨RetS.no E1.out E2.out, Below.refl _ _⟩

theorem one_row (w : World) (T : TypeId) (v : Int) : SRow (w.alloc (.cells #[.int .u64 v] T)) .u64 (some ⟨w.heap.size, 0, none⟩) 1 1 [v] :=
  ⟨rfl, Nat.le_refl _, by unfold maxLen; omega, fun i x hx => by
    match i with
    | 0 => simp at hx; subst hx; exact ⟨_, _, rfl, by simp⟩
    | i + 1 => simp at hx⟩

set_option maxHeartbeats 400000 in
theorem store_any (p : Option Addr) (n cap : Nat) (xs : List Int) (a v : Int) (w : World) (hr : SRow w .u64 p n cap xs) (hn : n ≤ 100000) (ha : 0 ≤ a) (ha2 : a < 18446744073709551616) :
    Calls Try.prog 17 #[.slice p n cap, .int .u64 a, .int .u64 v] w fun e w' => RetS (writeV xs a [v]) (writeE xs a [v]) e w' ∧ Below w.heap.size w w' := by
  have hb0 : Below w.heap.size w (w.alloc (.cells #[.int .u64 v] 23)) := (Below.refl _ _).alloc (Nat.le_refl _) _
  have hc := Lib.hid (write_any p (some ⟨w.heap.size, 0, none⟩) n cap 1 1 xs [v] a _ (hr.keep hb0) (one_row w 23 v) hn ha ha2)
  clear hr hb0
  go_enter Try.func17, Try.ntmps17
  go_wp2_with fail
  refine hc.out.mono ?_
  rintro e w' ⟨⟨q, m, c, rfl, hq⟩, hb⟩
  have hq := Lib.hid hq
  clear hc
  go_wp2
  go_ret2
  exact ⟨⟨q, m, c, rfl, hq.out⟩, bthen ((Below.refl _ _).alloc (Nat.le_refl _) _) hb⟩
end Go.Proofs.Ytmhgnnhabagbiaa
