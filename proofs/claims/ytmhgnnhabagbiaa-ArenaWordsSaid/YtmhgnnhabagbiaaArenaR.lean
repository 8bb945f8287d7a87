/- Contract of arena.Move. -/
import Derived.Test.YtmhgnnhabagbiaaArenaQ
namespace Go.Proofs.Ytmhgnnhabagbiaa
open Go.RowKit

theorem ite_cut (g n i : Nat) : (if n = i then some (⟨g, 0, none⟩ : Addr) else some ⟨g, i, none⟩) = cutP (some ⟨g, 0, none⟩) n i := by
  by_cases h : n = i
  · rw [if_pos h]; unfold cutP; rw [if_pos h]
  · rw [if_neg h, cutP_some h, Nat.zero_add]

set_option maxHeartbeats 800000 in
theorem move_ok1 (p : Option Addr) (n cap : Nat) (xs : List Int) (i j k : Nat) (w : World) (hr : SRow w .u64 p n cap xs) (hn : n ≤ 100000) (hi : i + k ≤ n) (hj : j + k ≤ n) :
    Calls Try.prog 23 #[.slice p n cap, .int .u64 (4096 + (i : Int)), .int .u64 (4096 + (j : Int)), .int .i64 k] w fun e w' => RetS (splice xs i ((xs.drop j).take k)) 0 e w' ∧ Below w.heap.size w w' := by
  have hl := hr.i63
  have hlen := Lib.hid hr.len
  have hc1 := Lib.hid (locate_ok p n cap i k w hl.2 hi)
  have hc2 := Lib.hid (locate_ok p n cap j k w hl.2 hj)
  have hd := Lib.hid (dup_any p n cap xs w hr hn)
  clear hr hl
  go_enter Try.func23, Try.ntmps23
  go_wp2_with fail
  refine hc1.out.mono ?_
  rintro e w' ⟨rfl, rfl⟩
  go_wp2_with fail
  refine hc2.out.mono ?_
  rintro e w' ⟨rfl, rfl⟩
  clear hc1 hc2
  go_wp2_with fail
  refine hd.out.mono ?_
  rintro e w1 ⟨g, rfl, hg, hblk, hb⟩
  have Hblk := Lib.hid hblk
  obtain ⟨ys, hys⟩ : ∃ ys, Hid (ys = (xs.drop j).take k) := ⟨_, rfl⟩
  have hsrc : Hid (∀ j' v, (ivals .u64 ys)[j']? = some v → w1.cell? ((⟨g, j, none⟩ : Addr).add j') = some v) := by
    intro j' v hv
    obtain ⟨x, hx, rfl⟩ := ivals_get hv
    rw [hys.out, List.getElem?_take] at hx
    split at hx
    · rw [List.getElem?_drop] at hx
      obtain ⟨b, off, hp, hc⟩ := hblk.row _ x hx
      injection hp with hp; injection hp with hp1 hp2; subst hp1 hp2
      rw [add_none]; simpa using hc
    · cases hx
  clear hd hblk
  have hyl : Hid (ys.length = k) := by unfold Hid; rw [hys.out, List.length_take, List.length_drop, hlen.out]; omega
  have h1 := ite_cut g n i
  have h2 := ite_cut g n j
  have h3 : i ≤ n := by omega
  have h4 : j + k - j = k := by omega
  have h5 : (0 : Int) ≤ (j : Int) + k ∧ (j : Int) + k ≤ n := by omega
  have h6 : IntKind.i64.wrap ((j : Int) + k) = (j : Int) + k := by rw [IntKind.wrap_i64]; omega
  have h7 : ((j : Int) + k).toNat = j + k := by omega
  obtain ⟨h8, h9⟩ := h5
  have h10 : (j : Int) ≤ (j : Int) + k := by omega
  go_wp2_with fail
  go_region_law (refine step_copy_splice rfl (.tmp 38) (.tmp 44) 22 22 rfl 23 Try.underlying22 sizeU64 (cutP (some ⟨g, 0, none⟩) n i) (cutP (some ⟨g, 0, none⟩) n j) (n - i) (n - i) k (n - j) (by go_simp) (by go_simp) g i (ivals .u64 xs) 23 Hblk.out (ivals .u64 ys) (by rw [ivals_len, hyl.out]; exact min_le' (by omega)) (fun hpos => ⟨cut_dst hi (by rw [ivals_len, hyl.out] at hpos; exact hpos), _, cut_dst hj (by rw [ivals_len, hyl.out] at hpos; exact hpos), hsrc.out⟩) (by rw [ivals_len, ivals_len, hlen.out, hyl.out]; exact hi) (ivals_one _ _) w.heap.size w (below_drewN hb 1) hg ?_; intro w3 hg3 hb3)
  all_goals
    rw [ivals_splice] at hg3
    have hres := Lib.hid (Blk.srow (n := n) hg3.out (by rw [splice_len (by rw [hlen.out, hyl.out]; exact hi)]; exact hlen.out) (by unfold maxLen; omega))
    clear hg3 h1 h2 h4 h6 h7
    go_wp2
    go_ret2
    exact ⟨RetS.mk hres.out (by rw [hys.out]) rfl, hb3⟩

set_option maxHeartbeats 800000 in
theorem move_any (p : Option Addr) (n cap : Nat) (xs : List Int) (t f m : Int) (w : World) (hr : SRow w .u64 p n cap xs) (hn : n ≤ 100000) (ht : 0 ≤ t) (ht2 : t < 18446744073709551616) (hf : 0 ≤ f) (hf2 : f < 18446744073709551616) (hm : m ≤ 9223372036854775807) :
    Calls Try.prog 23 #[.slice p n cap, .int .u64 t, .int .u64 f, .int .i64 m] w fun e w' => RetS (moveV xs t f m) (moveE xs t f m) e w' ∧ Below w.heap.size w w' := by
  have hl := hr.i63
  by_cases h1 : m < 0
  · obtain ⟨e1, e2⟩ := move_arg (xs := xs) (t := t) (f := f) h1
    have E1 := Lib.hid e1; have E2 := Lib.hid e2
    have hc := Lib.hid (locate_arg p n cap t m w h1)
    clear e1 e2 hr
    go_enter Try.func23, Try.ntmps23
    go_wp2_with fail
    refine hc.out.mono ?_
    rintro e w' ⟨rfl, rfl⟩
    clear hc
    go_wp2
    go_ret2
    exact ⟨RetS.no E1.out E2.out, Below.refl _ _⟩
  · obtain ⟨k, rfl⟩ : ∃ k : Nat, m = k := ⟨m.toNat, by omega⟩
    rcases okA_cases n t k with ⟨i, rfl, hi, hk⟩ | ⟨hk, hi⟩
    · rcases okA_cases n f k with ⟨j, rfl, hj, hk2⟩ | ⟨hk2, hj⟩
      · obtain ⟨e1, e2⟩ := move_ok (xs := xs) (i := i) (j := j) (n := k) (by rw [hr.len]; exact hk) (by rw [hr.len]; exact hk2)
        rw [e1, e2]
        exact move_ok1 p n cap xs i j k w hr hn hi hj
      · obtain ⟨e1, e2⟩ := move_no (xs := xs) (t := 4096 + (i : Int)) (f := f) (n := k) (Or.inr (by rw [hr.len]; exact hk2))
        have E1 := Lib.hid e1; have E2 := Lib.hid e2
        have hc := Lib.hid (locate_ok p n cap i k w hl.2 hi)
        have hc2 := Lib.hid (locate_no p n cap f k w hl.2 hm hf hf2 hj)
        clear e1 e2 hr hi hj hk hk2
        go_enter Try.func23, Try.ntmps23
        go_wp2_with fail
        refine hc.out.mono ?_
        rintro e w' ⟨rfl, rfl⟩
        clear hc
        go_wp2_with fail
        refine hc2.out.mono ?_
        rintro e w' ⟨rfl, rfl⟩
        clear hc2
        go_wp2
        go_ret2
        exact ⟨RetS.no E1.out E2.out, Below.refl _ _⟩
    · obtain ⟨e1, e2⟩ := move_no (xs := xs) (t := t) (f := f) (n := k) (Or.inl (by rw [hr.len]; exact hk))
      have E1 := Lib.hid e1; have E2 := Lib.hid e2
      have hc := Lib.hid (locate_no p n cap t k w hl.2 hm ht ht2 hi)
      clear e1 e2 hr hi hk
      go_enter Try.func23, Try.ntmps23
      go_wp2_with fail
      refine hc.out.mono ?_
      rintro e w' ⟨rfl, rfl⟩
      clear hc
      go_wp2
      go_ret2
      exact ⟨RetS.no E1.out E2.out, Below.refl _ _⟩
end Go.Proofs.Ytmhgnnhabagbiaa
