/- Contracts of package page on page tables: Runs, First. -/
import Derived.Test.YtbenklhbcgiacaaPgX
namespace Go.Proofs.Ytbenklhbcgiacaa
open Go.RowKit

/-- A run of free pages behind a gap. -/
theorem runs_add {ps : List Pg} {i : Nat} (hg : ∀ r ∈ runsTo ps i, r.1 + r.2 < (i : Int)) : ∀ m : Nat, m ≤ freeLead (ps.drop i) → runsTo ps (i + m) = if m = 0 then runsTo ps i else runsTo ps i ++ [((i : Int), (m : Int))] := by
  have hfree : ∀ m : Nat, m < freeLead (ps.drop i) → ∃ x, ps[i + m]? = some x ∧ x.kind = 0 := by
    have key : ∀ (l : List Pg) (m : Nat), m < freeLead l → ∃ x, l[m]? = some x ∧ x.kind = 0 := by
      intro l
      induction l with
      | nil => intro m h; simp [freeLead] at h
      | cons x r ih =>
        intro m h
        unfold freeLead at h
        by_cases h0 : x.kind = 0
        · rw [if_pos h0] at h
          rcases m with _ | m
          · exact ⟨x, rfl, h0⟩
          · exact ih m (by omega)
        · rw [if_neg h0] at h; omega
    intro m hm
    obtain ⟨x, hx, h0⟩ := key _ m hm
    rw [List.getElem?_drop] at hx
    exact ⟨x, hx, h0⟩
  intro m
  induction m with
  | zero => intro _; rfl
  | succ m ih =>
    intro hm
    obtain ⟨x, hx, h0⟩ := hfree m (by omega)
    rw [show i + (m + 1) = i + m + 1 from by omega, runsTo_step hx, ih (by omega), if_neg (show ¬ (m + 1 = 0) from by omega)]
    rcases Nat.eq_zero_or_pos m with hz | hp
    · subst hz
      rw [if_pos rfl]
      rcases runs_cases (runsTo ps i) with e | ⟨pre, r, e⟩
      · rw [e, runStep_nil h0]; simp
      · have := hg r (by rw [e]; simp)
        rw [e, runStep_new h0 (by omega)]; simp
    · rw [if_neg (show ¬ (m = 0) from by omega), runStep_bump h0 (by simp only; omega)]
      simp
theorem runs_stop {ps : List Pg} {i : Nat} (h : i + freeLead (ps.drop i) < ps.length) : runsTo ps (i + freeLead (ps.drop i) + 1) = runsTo ps (i + freeLead (ps.drop i)) := by
  have key : ∀ (l : List Pg), freeLead l < l.length → ∃ x, l[freeLead l]? = some x ∧ ¬ x.kind = 0 := by
    intro l
    induction l with
    | nil => intro h; simp at h
    | cons x r ih =>
      intro h
      unfold freeLead at h ⊢
      by_cases h0 : x.kind = 0
      · rw [if_pos h0] at h ⊢
        rw [List.length_cons] at h
        obtain ⟨y, hy, h1⟩ := ih (by omega)
        exact ⟨y, by simpa using hy, h1⟩
      · rw [if_neg h0]; exact ⟨x, rfl, h0⟩
  obtain ⟨x, hx, h0⟩ := key (ps.drop i) (by rw [List.length_drop]; omega)
  rw [List.getElem?_drop] at hx
  rw [runsTo_step hx, runStep_no h0]

set_option maxRecDepth 100000 in
set_option maxHeartbeats 1600000 in
theorem runs_any (p : Option Addr) (n cap : Nat) (ps : List Pg) (w : World) (hr : PRow w p n cap ps) (hn : n ≤ 100000) :
    Calls Try.prog 53 #[.slice p n cap] w fun e w' => RetR (runsV ps) e w' ∧ Below w.heap.size w w' := by
  obtain ⟨i0, hi, hz0, hz1, hz2⟩ := info_parts infoRun
  have Hr := Lib.hid (fun w' (h : Below w.heap.size w w') => hr.keep h)
  have Hlen := Lib.hid hr.len
  clear hr
  go_enter Try.func53, Try.ntmps53
  go_wp2
  go_loopw [3, 4] (fun v i wr => ∃ k j : Nat, k ≤ n + 1 ∧ j ≤ n ∧ (j = k ∨ j = n) ∧ j ≤ k ∧ (∀ r ∈ runsTo ps j, r.1 + r.2 < (k : Int)) ∧ wr.ownsRow w.heap.size 84 2 v (runsTo ps j).length (rvals (runsTo ps j)) ∧ i = .int .i64 k ∧ Below w.heap.size w wr) (fun _ i _ => n + 1 - (intOf i).toNat)
  case atStart => exact ⟨0, 0, by omega, by omega, Or.inl rfl, by omega, by intro r h; simp [runsTo] at h, World.ownsRow_nil _ _ _ _, rfl, Below.refl _ _⟩
  case round =>
    obtain ⟨k, j, hk, hj, hjk, hjle, hgap, hown, rfl, hb⟩ := hrel
    have Hgap := Lib.hid hgap
    clear hgap
    by_cases hlt : k < n
    · obtain rfl : j = k := by omega
      have hrow := Hr.out wr hb
      have hc := Lib.hid (freeFrom_any p n cap ps j wr hrow (by omega) hn)
      obtain ⟨m, hm⟩ : ∃ m, Hid (freeLead (ps.drop j) = m) := ⟨_, rfl⟩
      have hml : j + m ≤ n := by have := lead_le (ps.drop j); rw [List.length_drop, Hlen.out] at this; have := hm.out; omega
      have hlt2 : (j : Int) < n := by omega
      have hml2 : (j : Int) + (m : Int) ≤ 100000 := by omega
      have hadd := runs_add Hgap.out m (by have := hm.out; omega)
      have hend : Hid (∃ j', j' ≤ n ∧ (j' = j + m + 1 ∨ j' = n) ∧ j' ≤ j + m + 1 ∧ runsTo ps j' = runsTo ps (j + m)) := by
        apply Lib.hid
        by_cases hs : j + m < n
        · refine ⟨j + m + 1, by omega, Or.inl rfl, by omega, ?_⟩
          have := runs_stop (ps := ps) (i := j) (by rw [hm.out, Hlen.out]; exact hs)
          rw [hm.out] at this; exact this
        · exact ⟨n, by omega, Or.inr rfl, by omega, by rw [show j + m = n from by omega]⟩
      have hgap2 := Lib.hid (show ∀ r ∈ runsTo ps (j + m), r.1 + r.2 < ((j + m + 1 : Nat) : Int) from fun r hr => by have := runs_bd ps (j + m) r hr; omega)
      rw [hm.out] at hc
      have hln := runs_len ps j
      obtain ⟨q, c, rfl, -⟩ := VRow.of_own hown
      have Hown := Lib.hid hown
      clear hown hrow hjk
      go_wp2_with fail
      refine hc.out.mono ?_
      rintro e w1 ⟨rfl, rfl⟩
      clear hc
      rcases Nat.eq_zero_or_pos m with hz | hp
      · subst hz
        rw [if_pos rfl] at hadd
        have Hadd := Lib.hid hadd
        clear hadd
        go_wp2
        go_roundw
        case rel =>
          obtain ⟨j', e1, e2, e3, e4⟩ := hend.out
          exact ⟨j + 0 + 1, j', by omega, e1, e2, e3, by rw [e4]; exact hgap2.out, by rw [e4, Hadd.out]; exact Hown.out, by go_num, hb⟩
        case measure => simp [intOf]; omega
      · rw [if_neg (by omega)] at hadd
        have Hadd := Lib.hid hadd
        have hp1 : (0 : Int) < m := by omega
        have hown2 := Hown.out
        have hsz2 := hb.size
        clear hadd
        go_wp2_with (at_builtin; refine wpList_append_own _ rfl _ _ 81 rfl w.heap.size 84 i0 _ 2 16 Try.underlying81 hi hz0 hz1 hz2 rfl (by decide) _ _ _ rfl (hown2.alloc _) ⟨wr.heap.size, 0, none⟩ 1 1 [.int .i64 j, .int .i64 m] rfl rfl ?c1 ?c2 ?c3 ?c4 ?c5 ?_)
        case c1 => exact World.news_of_block (cs := #[.int .i64 j, .int .i64 m]) (t := 84) (fr := (0, 0)) (heap_alloc_new wr _)
        case c2 => simp [Value.oneCell']
        case c3 => unfold maxLen; omega
        case c4 => omega
        case c5 => simp; omega
        intro v' w3 hown3 hgrow3 _
        have hb3 : Below w.heap.size w w3 := (hb.alloc hb.size _).grown hgrow3 (by have := hb.size; simp; omega) (fun j hj => (hown2.lt j hj).1)
        rw [rvals_snoc (runsTo ps j) ((j : Int), (m : Int))] at hown3
        have hown4 := Lib.hid hown3
        clear hown3 hgrow3 hown2 Hown
        go_wp2
        go_roundw
        case rel =>
          obtain ⟨j', e1, e2, e3, e4⟩ := hend.out
          exact ⟨j + m + 1, j', by omega, e1, e2, e3, by rw [e4]; exact hgap2.out, by rw [e4, Hadd.out, List.length_append]; exact hown4.out, by go_num, hb3⟩
        case measure => simp [intOf]; omega
    · obtain rfl : j = n := by omega
      have hge : (j : Int) ≤ k := by omega
      obtain ⟨q, c, rfl, hrow⟩ := VRow.of_own hown
      have Hrow := Lib.hid hrow
      have E := Lib.hid (show runsV ps = runsTo ps j from by unfold runsV; rw [Hlen.out])
      clear hown hrow hjk
      go_wp2
      go_ret
      exact ⟨⟨q, _, c, rfl, by rw [E.out]; exact Hrow.out⟩, hb⟩

set_option maxHeartbeats 800000 in
theorem first_any (p : Option Addr) (n cap : Nat) (ps : List Pg) (k : Int) (w : World) (hr : PRow w p n cap ps) (hn : n ≤ 100000) :
    Calls Try.prog 42 #[.slice p n cap, .int .i64 k] w fun e w' => e = .returned (.int .i64 (firstV ps k)) ∧ Below w.heap.size w w' := by
  have hc := Lib.hid (runs_any p n cap ps w hr hn)
  rw [firstV_from]
  clear hr
  by_cases hk1 : k < 1
  · have E : firstFrom k (runsV ps) = -1 := by
      generalize runsV ps = l
      induction l with
      | nil => rfl
      | cons r t ih => rw [firstFrom, if_neg (by omega)]; exact ih
    rw [E]
    clear E
    go_enter Try.func42, Try.ntmps42
    go_wp2
    go_ret
    exact ⟨rfl, Below.refl _ _⟩
  · go_enter Try.func42, Try.ntmps42
    go_wp2_with fail
    refine hc.out.mono ?_
    rintro e w1 ⟨⟨q, m, c, rfl, hq⟩, hb1⟩
    have Hq := Lib.hid (fun w' (h : Below w1.heap.size w1 w') => hq.keep h)
    have Hlen := Lib.hid hq.len
    have hm := hq.i63.2
    clear hc hq
    go_wp2
    go_loopw [12] (fun i wr => ∃ j : Nat, j ≤ m ∧ firstFrom k ((runsV ps).drop j) = firstFrom k (runsV ps) ∧ i = .int .i64 j ∧ Below w1.heap.size w1 wr) (fun i _ => m - (intOf i).toNat)
    case atStart => exact ⟨0, by omega, rfl, rfl, Below.refl _ _⟩
    case round =>
      obtain ⟨j, hj, hf, rfl, hb⟩ := hrel
      have Hf := Lib.hid hf
      clear hf
      by_cases hlt : j < m
      · obtain ⟨r, b, off, hx, rfl, c0, c1⟩ := (Hq.out wr hb).at_ hlt
        have hs := firstFrom_at (k := k) hx
        have hlt2 : (j : Int) < m := by omega
        clear hx
        by_cases h2 : k ≤ r.2
        · rw [if_pos ⟨by omega, h2⟩] at hs
          have Hs := Lib.hid hs
          clear hs
          go_wp2
          go_ret
          exact ⟨ret_int (by rw [← Hf.out, Hs.out]), bthen hb1 (bthen hb below_box)⟩
        · rw [if_neg fun h => h2 h.2] at hs
          have Hs := Lib.hid hs
          clear hs
          go_wp2
          go_roundw
          case rel => exact ⟨j + 1, by omega, by rw [← Hs.out, Hf.out], by go_num, bthen hb below_box⟩
          case measure => simp [intOf]; omega
      · have Hs := Lib.hid (firstFrom_end (k := k) (l := runsV ps) (i := j) (by rw [Hlen.out]; omega))
        go_wp2
        go_ret
        exact ⟨ret_int (by rw [← Hf.out, Hs.out]), bthen hb1 hb⟩
end Go.Proofs.Ytbenklhbcgiacaa
