/- Contracts of the references of layer 2: span, New, Index, Load, Read. -/
import Derived.Test.YtmhgnnhabagbiaaArenaR
namespace Go.Proofs.Ytmhgnnhabagbiaa
open Go.RowKit

theorem ret_ib {k : IntKind} {x y : Int} {a b : Bool} (h1 : x = y) (h2 : a = b) : Ending.returned (.tuple #[.int k x, .bool a]) = .returned (.tuple #[.int k y, .bool b]) := by rw [h1, h2]

set_option maxHeartbeats 400000 in
theorem span_ok0 (p : Option Addr) (len cap n : Nat) (a : Int) (w : World) (hl : (len : Int) ≤ 1000000) (h1 : 4096 ≤ a) (h2 : a - 4096 + n ≤ len) :
    Calls Try.prog 26 #[.slice p len cap, .int .u64 a, .int .i64 n] w fun e w' => e = .returned (.tuple #[.int .i64 (a - 4096), .bool true]) ∧ w = w' := by
  go_enter Try.func26, Try.ntmps26
  go_wp2
  go_ret2
  exact ⟨ret_ib rfl (decide_eq_true (by omega)), rfl⟩
theorem span_ok (p : Option Addr) (len cap i n : Nat) (w : World) (hl : (len : Int) ≤ 1000000) (h : i + n ≤ len) :
    Calls Try.prog 26 #[.slice p len cap, .int .u64 (4096 + (i : Int)), .int .i64 n] w fun e w' => e = .returned (.tuple #[.int .i64 i, .bool true]) ∧ w = w' := by
  have := span_ok0 p len cap n (4096 + (i : Int)) w hl (by omega) (by omega)
  rw [show (4096 + (i : Int)) - 4096 = (i : Int) from by omega] at this
  exact this
def SpanNo (w : World) (e : Ending) (w' : World) : Prop := ∃ i : Int, e = .returned (.tuple #[.int .i64 i, .bool false]) ∧ w = w'
set_option maxHeartbeats 400000 in
theorem span_no (p : Option Addr) (len cap : Nat) (a : Int) (n : Nat) (w : World) (hl : (len : Int) ≤ 1000000) (hn : (n : Int) ≤ 9223372036854775807) (ha : 0 ≤ a) (ha2 : a < 18446744073709551616) (h : a < 4096 ∨ len < a - 4096 + n) :
    Calls Try.prog 26 #[.slice p len cap, .int .u64 a, .int .i64 n] w fun e w' => SpanNo w e w' := by
  by_cases h1 : a < 4096
  · go_enter Try.func26, Try.ntmps26
    go_wp2
    go_ret2
    exact ⟨_, rfl, rfl⟩
  · by_cases h2 : 4096 + (len : Int) < a
    · clear h
      go_enter Try.func26, Try.ntmps26
      go_wp2
      go_ret2
      exact ⟨_, rfl, rfl⟩
    · have h3 : ¬ (n : Int) ≤ (len : Int) - (a - 4096) := by omega
      have h4 : decide ((n : Int) ≤ (len : Int) - (a - 4096)) = false := decide_eq_false h3
      have h4 := Lib.hid h4
      clear h
      go_enter Try.func26, Try.ntmps26
      go_wp2
      go_ret2
      exact ⟨_, rfl, rfl⟩

set_option maxHeartbeats 400000 in
theorem refNew_any (n : Int) (w : World) :
    Calls Try.prog 10 #[.int .i64 n] w fun e w' => RetS (newV n) (newE n) e w' ∧ Below w.heap.size w w' := by
  obtain ⟨i0, hi, hz0, hz1, hz2⟩ := info_parts infoU64
  by_cases h1 : n < 0
  · obtain ⟨e1, e2⟩ := new_no (n := n) (by omega)
    have E1 := Lib.hid e1; have E2 := Lib.hid e2
    clear e1 e2
    go_enter Try.func10, Try.ntmps10
    go_wp2
    go_ret2
    exact ⟨RetS.no E1.out E2.out, Below.refl _ _⟩
  · by_cases h2 : 4096 < n
    · obtain ⟨e1, e2⟩ := new_no (n := n) (by omega)
      have E1 := Lib.hid e1; have E2 := Lib.hid e2
      clear e1 e2
      go_enter Try.func10, Try.ntmps10
      go_wp2
      go_ret2
      exact ⟨RetS.no E1.out E2.out, Below.refl _ _⟩
    · obtain ⟨k, rfl⟩ : ∃ k : Nat, n = k := ⟨n.toNat, by omega⟩
      obtain ⟨e1, e2⟩ := new_ok (k := k) (by omega)
      have E1 := Lib.hid e1; have E2 := Lib.hid e2
      clear e1 e2
      go_enter Try.func10, Try.ntmps10
      go_wp2_with (at_make; refine wpList_make_full _ rfl _ _ 22 rfl w.heap.size 23 i0 (.int .u64 0) 1 Try.underlying22 hi hz0 hz1 .i64 .i64 k k k rfl rfl rfl rfl ?c1 ?c2 ?c3 ?_)
      any_goals first | omega | (rw [hz2]; omega) | (unfold maxLen; omega)
      intro w2 hown hg
      rw [made_zeros] at hown
      have hb : Below w.heap.size w w2 := (Below.refl _ _).grown hg (Nat.le_refl _) (fun k h => by cases h)
      have hblk := Lib.hid (Blk.of_own hown).2
      clear hown hg
      go_wp2
      go_ret2
      exact ⟨RetS.mk (hblk.out.srow (by simp) (by unfold maxLen; omega)) E1.out E2.out, hb⟩

set_option maxHeartbeats 400000 in
theorem refIndex_any (p : Option Addr) (len cap : Nat) (a : Int) (w : World) (hl : (len : Int) ≤ 1000000) (ha : 0 ≤ a) (ha2 : a < 18446744073709551616) :
    Calls Try.prog 12 #[.slice p len cap, .int .u64 a] w fun e w' => e = .returned (.tuple #[.int .i64 (indexV len a), .int .i64 (indexE len a)]) ∧ w = w' := by
  rcases okA_cases len a 1 with ⟨i, rfl, hi, hk⟩ | ⟨hk, hi⟩
  · have hc := Lib.hid (span_ok p len cap i 1 w hl hi)
    obtain ⟨e1, e2⟩ := index_ok hk
    have E1 := Lib.hid e1; have E2 := Lib.hid e2
    clear e1 e2 hi hk
    go_enter Try.func12, Try.ntmps12
    go_wp2_with fail
    refine hc.out.mono ?_
    rintro e w' ⟨rfl, rfl⟩
    go_wp2
    go_ret2
    exact ⟨ret_ints E1.out.symm E2.out.symm, rfl⟩
  · have hc := Lib.hid (span_no p len cap a 1 w hl (by omega) ha ha2 hi)
    obtain ⟨e1, e2⟩ := index_no hk
    have E1 := Lib.hid e1; have E2 := Lib.hid e2
    clear e1 e2 hi hk
    go_enter Try.func12, Try.ntmps12
    go_wp2_with fail
    refine hc.out.mono ?_
    rintro e w' ⟨_, rfl, rfl⟩
    go_wp2
    go_ret2
    exact ⟨ret_ints E1.out.symm E2.out.symm, rfl⟩

set_option maxHeartbeats 400000 in
theorem refLoad_any (p : Option Addr) (n cap : Nat) (xs : List Int) (a : Int) (w : World) (hr : SRow w .u64 p n cap xs) (hl : (n : Int) ≤ 1000000) (ha : 0 ≤ a) (ha2 : a < 18446744073709551616) :
    Calls Try.prog 16 #[.slice p n cap, .int .u64 a] w fun e w' => e = .returned (.tuple #[.int .u64 (loadV xs a), .int .i64 (loadE xs a)]) ∧ w = w' := by
  have hc := Lib.hid (refIndex_any p n cap a w hl ha ha2)
  have hn := Lib.hid hr.len
  rcases okA_cases n a 1 with ⟨i, rfl, hi, hk⟩ | ⟨hk, hi⟩
  · obtain ⟨x, b, off, hx, rfl, hcell⟩ := hr.at_ (k := i) (by omega)
    obtain ⟨e1, e2⟩ := load_ok' (by rw [hn.out]; exact hk) hx
    obtain ⟨e3, e4⟩ := index_ok hk
    rw [e3, e4] at hc
    have E1 := Lib.hid e1; have E2 := Lib.hid e2
    clear e1 e2 e3 e4 hk hx hr
    go_enter Try.func16, Try.ntmps16
    go_wp2_with fail
    refine hc.out.mono ?_
    rintro e w' ⟨rfl, rfl⟩
    clear hc
    go_wp2
    go_ret2
    exact ⟨ret_ints E1.out.symm E2.out.symm, rfl⟩
  · obtain ⟨e1, e2⟩ := load_no' (xs := xs) (a := a) (by rw [hn.out]; exact hk)
    obtain ⟨e3, e4⟩ := index_no hk
    rw [e3, e4] at hc
    have E1 := Lib.hid e1; have E2 := Lib.hid e2
    clear e1 e2 e3 e4 hk hr hi
    go_enter Try.func16, Try.ntmps16
    go_wp2_with fail
    refine hc.out.mono ?_
    rintro e w' ⟨rfl, rfl⟩
    clear hc
    go_wp2
    go_ret2
    exact ⟨ret_ints E1.out.symm E2.out.symm, rfl⟩

theorem lit_row (w : World) (T : TypeId) (base : Nat) (hb : base ≤ w.heap.size) : (w.alloc (.cells #[] T)).ownsRow base T 1 (.slice (some ⟨w.heap.size, 0, none⟩) 0 0) 0 [] :=
  World.ownsRow_lit w #[] 0 hb (Nat.zero_le _) rfl

set_option maxHeartbeats 400000 in
theorem refRead_any (p : Option Addr) (n cap : Nat) (xs : List Int) (a m : Int) (w : World) (hr : SRow w .u64 p n cap xs) (hn : n ≤ 100000) (ha : 0 ≤ a) (ha2 : a < 18446744073709551616) (hm : m ≤ 9223372036854775807) :
    Calls Try.prog 20 #[.slice p n cap, .int .u64 a, .int .i64 m] w fun e w' => RetS (readV xs a m) (readE xs a m) e w' ∧ Below w.heap.size w w' := by
  obtain ⟨i0, hi0, hz0, hz1, hz2⟩ := info_parts infoU64
  have hlen := Lib.hid hr.len
  by_cases h1 : m < 0
  · obtain ⟨e1, e2⟩ := read_arg (xs := xs) (a := a) h1
    have E1 := Lib.hid e1; have E2 := Lib.hid e2
    clear e1 e2 hr
    go_enter Try.func20, Try.ntmps20
    go_wp2
    go_ret2
    exact ⟨RetS.no E1.out E2.out, Below.refl _ _⟩
  · obtain ⟨k, rfl⟩ : ∃ k : Nat, m = k := ⟨m.toNat, by omega⟩
    rcases okA_cases n a k with ⟨i, rfl, hi, hk⟩ | ⟨hk, hi⟩
    · obtain ⟨e1, e2⟩ := read_ok (xs := xs) (i := i) (n := k) (by rw [hlen.out]; exact hk)
      have E1 := Lib.hid e1; have E2 := Lib.hid e2
      have hc := Lib.hid (span_ok p n cap i k w (by omega) hi)
      have hle := hr.le
      have hb0 : Below w.heap.size w (w.alloc (.cells #[] 23)) := (Below.refl _ _).alloc (Nat.le_refl _) _
      have hcut := Lib.hid ((hr.cut hi).keep hb0)
      have Hb0 := Lib.hid hb0
      clear e1 e2 hk hr hb0
      go_enter Try.func20, Try.ntmps20
      go_wp2_with fail
      refine hc.out.mono ?_
      rintro e w' ⟨rfl, rfl⟩
      clear hc
      go_wp2_with ((with_reducible show wpList _ _ _ _ _ _); first
        | refine wpList_cut (o := ⟨some 27, _, _, _, _, _⟩) rfl _ _ _ _ rfl 23 Try.underlying22 sizeU64 p n cap rfl .i64 .i64 i _ rfl rfl i k rfl ?c1 ?c2 ?_
        | refine wpList_append_row (o := ⟨some 28, _, _, _, _, _⟩) rfl _ _ _ rfl w.heap.size 23 i0 (.int .u64 0) 8 Try.underlying22 hi0 hz0 hz1 hz2 rfl _ 0 [] rfl (lit_row w _ _ (Nat.le_refl _)) (cutP p cap i) k (cap - i) .u64 _ rfl hcut.out ?c3 ?c4 ?c5 ?_)
      case c1 => first | rfl | omega
      case c2 => omega
      case c3 => unfold maxLen; omega
      case c4 => omega
      case c5 => simp
      intro v' w2 hown hg
      try simp only [List.nil_append, Nat.zero_add] at hown
      obtain ⟨q, c, rfl, hrow⟩ := SRow.of_own hown
      have hb2 : Below w.heap.size w w2 := Hb0.out.grown hg (by simp) (fun j hj => by simp [Value.ownBlock] at hj; omega)
      have hrow := Lib.hid hrow
      clear hown hg hcut
      go_wp2
      go_ret2
      exact ⟨RetS.mk hrow.out E1.out E2.out, hb2⟩
    · obtain ⟨e1, e2⟩ := read_no (xs := xs) (a := a) (n := k) (by rw [hlen.out]; exact hk)
      have E1 := Lib.hid e1; have E2 := Lib.hid e2
      have hc := Lib.hid (span_no p n cap a k w (by omega) hm ha ha2 hi)
      clear e1 e2 hr hi hk
      go_enter Try.func20, Try.ntmps20
      go_wp2_with fail
      refine hc.out.mono ?_
      rintro e w' ⟨_, rfl, rfl⟩
      clear hc
      go_wp2
      go_ret2
      exact ⟨RetS.no E1.out E2.out, Below.refl _ _⟩

theorem own_set {w : World} {base g n cap : Nat} {e : TypeId} {xs : List Int} (h : w.ownsRow base e 1 (.slice (some ⟨g, 0, none⟩) n cap) n (ivals .u64 xs)) (j : Nat) (u : Int) :
    (w.setCell ⟨g, j, none⟩ (.int .u64 u)).ownsRow base e 1 (.slice (some ⟨g, 0, none⟩) n cap) n (ivals .u64 (xs.set j u)) := by
  have h1 := (h.stored j (.int .u64 u)).1
  rw [ivals_set] at h1; exact h1
theorem own_form {w : World} {base n : Nat} {e : TypeId} {v : Value} {xs : List Value} (h : w.ownsRow base e 1 v n xs) : ∃ q cap, v = .slice q n cap ∧ (0 < n → ∃ g, q = some ⟨g, 0, none⟩ ∧ base ≤ g) := by
  rcases h.2 with ⟨rfl, h0⟩ | ⟨g, cap', cur, hv, hg, _⟩
  · subst h0; exact ⟨none, 0, rfl, fun h => by omega⟩
  · exact ⟨_, _, hv, fun _ => ⟨g, rfl, hg⟩⟩

/-- The words behind k rounds of the reference's Write. -/
def wrow (xs l : List Int) (i k : Nat) : List Int := splice xs i (l.take k)
theorem wrow_len {xs l : List Int} {i k : Nat} (h : i + l.length ≤ xs.length) : (wrow xs l i k).length = xs.length := by
  unfold wrow; rw [splice_len (by rw [List.length_take]; omega)]
theorem wrow_zero (xs l : List Int) (i : Nat) : wrow xs l i 0 = xs := by unfold wrow splice; simp
theorem wrow_end {xs l : List Int} {i k : Nat} (h : l.length ≤ k) : wrow xs l i k = splice xs i l := by unfold wrow; rw [List.take_of_length_le h]
theorem wrow_set {xs l : List Int} {i k : Nat} {x : Int} (h : i + l.length ≤ xs.length) (hx : l[k]? = some x) : (wrow xs l i k).set (i + k) x = wrow xs l i (k + 1) := by
  have hk := (List.getElem?_eq_some_iff.1 hx).1
  apply List.ext_getElem?
  intro j
  have hl1 : (l.take k).length = k := by rw [List.length_take]; omega
  have hl2 : (l.take (k + 1)).length = k + 1 := by rw [List.length_take]; omega
  rw [List.getElem?_set]
  by_cases h1 : i + k = j
  · subst h1
    rw [if_pos rfl, if_pos (by rw [wrow_len h]; omega)]
    unfold wrow
    rw [splice_in (by omega) (by omega) (by omega), List.getElem?_take, if_pos (by omega), show i + k - i = k from by omega, hx]
  · rw [if_neg h1]
    unfold wrow
    by_cases h2 : i ≤ j ∧ j < i + k
    · rw [splice_in (by omega) (by omega) (by omega), splice_in (by omega) (by omega) (by omega), List.getElem?_take, List.getElem?_take, if_pos (by omega), if_pos (by omega)]
    · rw [splice_out (by omega) (by omega), splice_out (by omega) (by omega)]

set_option maxHeartbeats 800000 in
theorem refWrite_any (p q : Option Addr) (n cap m c : Nat) (xs l : List Int) (a : Int) (w : World) (hr : SRow w .u64 p n cap xs) (hs : SRow w .u64 q m c l) (hn : n ≤ 100000) (hm : m ≤ 100000) (ha : 0 ≤ a) (ha2 : a < 18446744073709551616) :
    Calls Try.prog 22 #[.slice p n cap, .int .u64 a, .slice q m c] w fun e w' => RetS (writeV xs a l) (writeE xs a l) e w' ∧ Below w.heap.size w w' := by
  obtain ⟨i0, hi0, hz0, hz1, hz2⟩ := info_parts infoU64
  have hlen := Lib.hid hr.len
  have hlen2 := Lib.hid hs.len
  rcases okA_cases n a m with ⟨i, rfl, hi, hk⟩ | ⟨hk, hi⟩
  · obtain ⟨e1, e2⟩ := write_ok (xs := xs) (l := l) (i := i) (by rw [hlen.out, hlen2.out]; exact hk)
    have E1 := Lib.hid e1; have E2 := Lib.hid e2
    have hc := Lib.hid (span_ok p n cap i m w (by omega) hi)
    have hb0 : Below w.heap.size w (w.alloc (.cells #[] 23)) := (Below.refl _ _).alloc (Nat.le_refl _) _
    have hr0 := Lib.hid (hr.keep hb0)
    have hs0 := Lib.hid hs
    have Hb0 := Lib.hid hb0
    have hle := hr.le
    clear e1 e2 hk hr hs hb0
    go_enter Try.func22, Try.ntmps22
    go_wp2_with fail
    refine hc.out.mono ?_
    rintro e w' ⟨rfl, rfl⟩
    clear hc
    go_wp2_with ((with_reducible show wpList _ _ _ _ _ _); refine wpList_append_row (o := ⟨some 24, _, _, _, _, _⟩) rfl _ _ _ rfl w.heap.size 23 i0 (.int .u64 0) 8 Try.underlying22 hi0 hz0 hz1 hz2 rfl _ 0 [] rfl (lit_row w _ _ (Nat.le_refl _)) p n cap .u64 _ rfl hr0.out ?c3 ?c4 ?c5 ?_)
    case c3 => unfold maxLen; omega
    case c4 => omega
    case c5 => simp
    intro v' w2 hown hg
    try simp only [List.nil_append, Nat.zero_add] at hown
    have hb2 : Below w.heap.size w w2 := Hb0.out.grown hg (by simp) (fun j hj => by simp [Value.ownBlock] at hj; omega)
    obtain ⟨q', cap', rfl, hq'⟩ := own_form hown
    have Hq := Lib.hid hq'
    have Hown := Lib.hid hown
    clear hown hg hr0 Hb0 hq'
    go_wp2_with fail
    go_loopw [11] (fun i' wr => ∃ k : Nat, k ≤ m ∧ i' = .int .i64 k ∧ wr.ownsRow w.heap.size 23 1 (.slice q' n cap') n (ivals .u64 (wrow xs l i k)) ∧ Below w.heap.size w wr) (fun i' _ => m - (intOf i').toNat)
    case atStart => exact ⟨0, by omega, rfl, by rw [wrow_zero]; exact Hown.out, hb2⟩
    case round =>
      obtain ⟨k, hk, rfl, hown, hb⟩ := hrel
      have Ho := Lib.hid hown
      clear hown hb2
      by_cases hlt : k < m
      · obtain ⟨g, rfl, hg⟩ := Hq.out (by omega)
        obtain ⟨x, b, off, hx, rfl, hc0⟩ := hs0.out.at_ hlt
        have c1 := cell_keep hb hc0
        have hu : (ivals .u64 (wrow xs l i k))[i + k]? = some (.int .u64 ((wrow xs l i k)[i + k]'(by rw [wrow_len (by rw [hlen.out, hlen2.out]; exact hi), hlen.out]; omega))) := ivals_at (List.getElem?_eq_getElem _)
        have hst := Ho.out.cellAt (i + k) (by omega)
        rw [hu] at hst
        have hfz : wr.frozen? ⟨g, i + k, none⟩ = false := Ho.out.frozenAt (i + k)
        have hset := Lib.hid (own_set Ho.out (i + k) x)
        rw [wrow_set (by rw [hlen.out, hlen2.out]; exact hi) hx] at hset
        have h3 : (i : Int) + k < n := by omega
        have h4 : ((i : Int) + k).toNat = i + k := by omega
        clear hu hx hc0
        go_wp2
        go_roundw
        case rel => exact ⟨k + 1, by omega, by go_num, hset.out, hb.setCell hg _⟩
        case measure => simp [intOf]; omega
      · have hrow := Ho.out
        rw [wrow_end (by rw [hlen2.out]; omega)] at hrow
        obtain ⟨q2, c2, hv, hrow⟩ := SRow.of_own hrow
        injection hv with hv1 hv2 hv3
        subst hv1 hv3
        have hrow := Lib.hid hrow
        clear hv2
        go_wp2
        go_ret2
        exact ⟨RetS.mk hrow.out E1.out E2.out, hb⟩
  · obtain ⟨e1, e2⟩ := write_no (xs := xs) (l := l) (a := a) (by rw [hlen.out, hlen2.out]; exact hk)
    have E1 := Lib.hid e1; have E2 := Lib.hid e2
    have hc := Lib.hid (span_no p n cap a m w (by omega) (by omega) ha ha2 hi)
    clear e1 e2 hr hs hi hk
    go_enter Try.func22, Try.ntmps22
    go_wp2_with fail
    refine hc.out.mono ?_
    rintro e w' ⟨_, rfl, rfl⟩
    clear hc
    go_wp2
    go_ret2
    exact ⟨RetS.no E1.out E2.out, Below.refl _ _⟩
end Go.Proofs.Ytmhgnnhabagbiaa
