/- Contracts of the references of layer 4 on page tables: Runs, First. -/
import Derived.Test.YtnelnabeajkpfaaPageV
import Derived.IntWalk
namespace Go.Proofs.Ytnelnabeajkpfaa
open Go.RowKit

def rvals (rs : List (Int × Int)) : List Value := rs.flatMap fun r => [.int .i64 r.1, .int .i64 r.2]
theorem rvals_len (rs : List (Int × Int)) : (rvals rs).length = rs.length * 2 := flat_len _ 2 (fun _ => rfl) rs
theorem rvals_at (rs : List (Int × Int)) (k : Nat) (x : Int × Int) (h : rs[k]? = some x) : (rvals rs)[k * 2]? = some (.int .i64 x.1) ∧ (rvals rs)[k * 2 + 1]? = some (.int .i64 x.2) :=
  ⟨flat_at _ 2 (fun _ => rfl) rs k x 0 (by omega) h, flat_at _ 2 (fun _ => rfl) rs k x 1 (by omega) h⟩
theorem rvals_snoc (rs : List (Int × Int)) (x : Int × Int) : rvals rs ++ [.int .i64 x.1, .int .i64 x.2] = rvals (rs ++ [x]) := by simp [rvals]
theorem rvals_bump (pre : List (Int × Int)) (r : Int × Int) : (rvals (pre ++ [r])).set (pre.length * 2 + 1) (.int .i64 (r.2 + 1)) = rvals (pre ++ [(r.1, r.2 + 1)]) := by
  rw [← rvals_snoc, ← rvals_snoc, List.set_append_right _ _ (by rw [rvals_len]; omega), rvals_len, Nat.add_sub_cancel_left]; rfl
/-- A slice of runs. -/
def RRow (w : World) (p : Option Addr) (n cap : Nat) (rs : List (Int × Int)) : Prop := VRow w 2 p n cap (rvals rs)
theorem RRow.len {w : World} {p : Option Addr} {n cap : Nat} {rs : List (Int × Int)} (h : RRow w p n cap rs) : rs.length = n := by
  have := VRow.len h; rw [rvals_len] at this; omega
theorem RRow.keep {w w' : World} {p : Option Addr} {n cap : Nat} {rs : List (Int × Int)} (h : RRow w p n cap rs) (hb : Below w.heap.size w w') : RRow w' p n cap rs := VRow.keep h hb
theorem RRow.i63 {w : World} {p : Option Addr} {n cap : Nat} {rs : List (Int × Int)} (h : RRow w p n cap rs) : (cap : Int) ≤ 9223372036854775807 ∧ (n : Int) ≤ 9223372036854775807 := VRow.i63 h
theorem RRow.at_ {w : World} {p : Option Addr} {n cap : Nat} {rs : List (Int × Int)} (h : RRow w p n cap rs) {k : Nat} (hk : k < n) : ∃ x b off, rs[k]? = some x ∧ p = some ⟨b, off, none⟩ ∧ w.cell? ⟨b, off + k * 2, none⟩ = some (.int .i64 x.1) ∧ w.cell? ⟨b, off + k * 2 + 1, none⟩ = some (.int .i64 x.2) := by
  obtain ⟨b, off, hp, hc⟩ := VRow.at_ h hk (by omega)
  have hx : rs[k]? = some (rs[k]'(by rw [h.len]; exact hk)) := List.getElem?_eq_getElem _
  obtain ⟨h0, h1⟩ := rvals_at rs k _ hx
  exact ⟨_, b, off, hx, hp, hc 0 _ h0, hc 1 _ h1⟩
/-- A call returned a slice of runs. -/
def RetR (rs : List (Int × Int)) (e : Ending) (w' : World) : Prop := ∃ q m c, e = .returned (.slice q m c) ∧ RRow w' q m c rs

theorem runStep_no {out : List (Int × Int)} {k : Int} {x : Pg} (h : ¬ x.kind = 0) : runStep out k x = out := by unfold runStep; rw [if_neg h]
theorem runStep_nil {k : Int} {x : Pg} (h : x.kind = 0) : runStep [] k x = [(k, 1)] := by unfold runStep; rw [if_pos h]; rfl
theorem runStep_bump {pre : List (Int × Int)} {r : Int × Int} {k : Int} {x : Pg} (h : x.kind = 0) (he : r.1 + r.2 = k) : runStep (pre ++ [r]) k x = pre ++ [(r.1, r.2 + 1)] := by
  unfold runStep; rw [if_pos h]; simp [he]
theorem runStep_new {pre : List (Int × Int)} {r : Int × Int} {k : Int} {x : Pg} (h : x.kind = 0) (he : ¬ r.1 + r.2 = k) : runStep (pre ++ [r]) k x = pre ++ [r] ++ [(k, 1)] := by
  unfold runStep; rw [if_pos h]; simp [he]
theorem runsTo_step {ps : List Pg} {k : Nat} {x : Pg} (h : ps[k]? = some x) : runsTo ps (k + 1) = runStep (runsTo ps k) k x := by
  rw [runsTo, h]
theorem runs_cases (out : List (Int × Int)) : out = [] ∨ ∃ pre r, out = pre ++ [r] := by
  rcases List.eq_nil_or_concat out with h | ⟨pre, r, h⟩
  · exact Or.inl h
  · exact Or.inr ⟨pre, r, by rw [h, List.concat_eq_append]⟩
theorem runs_bd (ps : List Pg) : ∀ (k : Nat) (r : Int × Int), r ∈ runsTo ps k → 0 ≤ r.1 ∧ 1 ≤ r.2 ∧ r.1 + r.2 ≤ k
  | 0, r, h => by simp [runsTo] at h
  | k + 1, r, h => by
    have ih := runs_bd ps k
    cases hx : ps[k]? with
    | none =>
      rw [runsTo, hx] at h
      have := ih r h; omega
    | some x =>
      rw [runsTo_step hx] at h
      by_cases h0 : x.kind = 0
      · rcases runs_cases (runsTo ps k) with e | ⟨pre, q, e⟩
        · rw [e, runStep_nil h0] at h
          simp at h; subst h; simp
        · rw [e] at h ih
          have hq := ih q (by simp)
          by_cases he : q.1 + q.2 = k
          · rw [runStep_bump h0 he] at h
            rcases List.mem_append.1 h with h | h
            · have := ih r (List.mem_append_left _ h); omega
            · simp at h; subst h; simp; omega
          · rw [runStep_new h0 he] at h
            rcases List.mem_append.1 h with h | h
            · have := ih r h; omega
            · simp at h; subst h; simp
      · rw [runStep_no h0] at h
        have := ih r h; omega
theorem runs_len (ps : List Pg) : ∀ k : Nat, (runsTo ps k).length ≤ k
  | 0 => Nat.le_refl _
  | k + 1 => by
    have ih := runs_len ps k
    cases hx : ps[k]? with
    | none => rw [runsTo, hx]; exact Nat.le_succ_of_le ih
    | some x =>
      rw [runsTo_step hx]
      by_cases h0 : x.kind = 0
      · rcases runs_cases (runsTo ps k) with e | ⟨pre, q, e⟩
        · rw [e, runStep_nil h0]; simp
        · rw [e] at ih ⊢
          by_cases he : q.1 + q.2 = k
          · rw [runStep_bump h0 he]; simp at ih ⊢; omega
          · rw [runStep_new h0 he]; simp at ih ⊢; omega
      · rw [runStep_no h0]; omega

theorem own_drewN {w : World} {base s n : Nat} {e : TypeId} {v : Value} {xs : List Value} (h : w.ownsRow base e s v n xs) (d : Nat) : (w.drewN d).ownsRow base e s v n xs := own_below h (below_drewN (Below.refl _ _) _)
theorem infoRun : (Try.prog.info? 61).map (fun i => (i.zero, i.size, i.bytes)) = some (some (.agg #[.int .i64 0, .int .i64 0]), 2, 16) := by kernel_rfl

set_option maxRecDepth 100000 in
set_option maxHeartbeats 1600000 in
theorem refRuns_any (p : Option Addr) (n cap : Nat) (ps : List Pg) (w : World) (hr : PRow w p n cap ps) (hn : n ≤ 100000) :
    Calls Try.prog 28 #[.slice p n cap] w fun e w' => RetR (runsV ps) e w' ∧ Below w.heap.size w w' := by
  obtain ⟨i0, hi, hz0, hz1, hz2⟩ := info_parts infoRun
  have Hr := Lib.hid hr
  have Hlen := Lib.hid hr.len
  clear hr
  go_enter Try.func28, Try.ntmps28
  go_wp2
  go_loopw [3, 4] (fun v i wr => ∃ k : Nat, k ≤ n ∧ wr.ownsRow w.heap.size 61 2 v (runsTo ps k).length (rvals (runsTo ps k)) ∧ i = .int .i64 k ∧ Below w.heap.size w wr) (fun _ i _ => n - (intOf i).toNat)
  case atStart => exact ⟨0, by omega, World.ownsRow_nil _ _ _ _, rfl, Below.refl _ _⟩
  case round =>
    obtain ⟨k, hk, hown, rfl, hb⟩ := hrel
    by_cases hlt : k < n
    · obtain ⟨x, b, off, hx, rfl, c0, -, -, -⟩ := (Hr.out.keep hb).at_ hlt
      have hlt2 : (k : Int) < n := by omega
      have hs := runsTo_step hx
      have hbd := Lib.hid (runs_bd ps k)
      have hln := runs_len ps k
      by_cases h0 : x.kind = 0
      · rcases runs_cases (runsTo ps k) with e | ⟨pre, r, e⟩
        · rw [e, runStep_nil h0] at hs
          rw [e] at hown
          have Hs := Lib.hid hs
          rw [h0] at c0
          obtain ⟨q, c, rfl, -⟩ := VRow.of_own hown
          have Hown := Lib.hid hown
          have hsz := hb.size
          clear hs hx h0 e hown hbd hln
          go_wp2
          go_quiet (fail)
          obtain ⟨w2, hw2⟩ : ∃ w2, Hid (wr.drewN nq = w2) := ⟨_, rfl⟩
          rw [hw2.out]
          have hown2 : w2.ownsRow w.heap.size 61 2 (.slice q 0 c) 0 (rvals []) := by rw [← hw2.out]; exact own_drewN Hown.out _
          have hb2 : Below w.heap.size w w2 := by rw [← hw2.out]; exact below_drewN hb _
          have hsz2 := hb2.size
          clear Hown
          go_wp2_with (at_builtin; refine wpList_append_own _ rfl _ _ 46 rfl w.heap.size 61 i0 _ 2 16 Try.underlying46 hi hz0 hz1 hz2 rfl (by decide) _ _ _ rfl (hown2.alloc _) ⟨w2.heap.size, 0, none⟩ 1 1 [.int .i64 k, .int .i64 1] rfl rfl ?c1 ?c2 ?c3 ?c4 ?c5 ?_)
          case c1 => exact World.news_of_block (cs := #[.int .i64 k, .int .i64 1]) (t := 61) (fr := (0, 0)) (heap_alloc_new w2 _)
          case c2 => simp [Value.oneCell']
          case c3 => unfold maxLen; omega
          case c4 => omega
          case c5 => simp; omega
          intro v' w3 hown3 hgrow3 _
          have hb3 : Below w.heap.size w w3 := (hb2.alloc hb2.size _).grown hgrow3 (by have := hb2.size; simp; omega) (fun j hj => (hown2.lt j hj).1)
          rw [rvals_snoc [] ((k : Int), 1)] at hown3
          have hown4 := Lib.hid hown3
          clear hown3 hgrow3 hown2 hb2
          go_wp2
          go_roundw
          case rel => exact ⟨k + 1, by omega, by rw [Hs.out]; simpa using hown4.out, by go_num, hb3⟩
          case measure => simp [intOf]; omega
        · have hbd' := hbd.out r (by rw [e]; simp)
          obtain ⟨r1, r2⟩ := r
          simp only at hbd'
          obtain ⟨q1, q2, q3⟩ := hbd'
          have hlen : (runsTo ps k).length = pre.length + 1 := by rw [e]; simp
          obtain ⟨L, hL⟩ : ∃ L, Hid (pre.length = L) := ⟨_, rfl⟩
          rw [hlen] at hown hln
          rw [e] at hown hs
          rw [h0] at c0
          obtain ⟨j0, j1⟩ := rvals_at (pre ++ [(r1, r2)]) pre.length (r1, r2) (by simp)
          rw [hL.out] at hown hln j0 j1
          obtain ⟨g, c, rfl, hg, hgl⟩ := World.ownsRow.form hown (by omega)
          have k0 := hown.cellAt (L * 2) (by omega)
          have k1 := hown.cellAt (L * 2 + 1) (by omega)
          rw [j0] at k0
          rw [j1] at k1
          have f1 := hown.frozenAt (L * 2 + 1)
          have hbump := (hown.stored (L * 2 + 1) (.int .i64 (r2 + 1))).1
          rw [← hL.out, rvals_bump pre (r1, r2), hL.out] at hbump
          have hLk : (L : Int) ≤ 100000 := by omega
          have hw1 : IntKind.i64.wrap (L : Int) = L := IntWalk.i64_in _ (by omega)
          have hlenOut : (pre ++ [((r1 : Int), r2 + 1)]).length = L + 1 := by simp; exact hL.out
          have hlenNew : (pre ++ [((r1 : Int), r2)] ++ [((k : Int), (1 : Int))]).length = L + 1 + 1 := by simp; exact hL.out
          have Hl1 := Lib.hid hlenOut
          have Hl2 := Lib.hid hlenNew
          have Hb := Lib.hid hbump
          have Hown := Lib.hid hown
          clear hlenOut hlenNew hbump hown j0 j1 hln hx hbd e hlen
          by_cases he : r1 + r2 = k
          · rw [runStep_bump h0 he] at hs
            have Hs := Lib.hid hs
            have hw2 : IntKind.i64.wrap (r1 + r2) = k := by rw [he]; exact IntWalk.i64_in _ (by omega)
            clear hs h0 he Hl2
            go_wp2
            go_quiet (fail)
            clear hw1 hw2
            obtain ⟨w2, hw2⟩ : ∃ w2, Hid (wr.drewN nq = w2) := ⟨_, rfl⟩
            rw [hw2.out]
            have m1 : w2.cell? ⟨g, L * 2 + 1, none⟩ = some (.int .i64 r2) := by rw [← hw2.out]; simpa using k1
            have f2 : w2.frozen? ⟨g, L * 2 + 1, none⟩ = false := by rw [← hw2.out]; simpa using f1
            have hb2 : Below w.heap.size w w2 := by rw [← hw2.out]; exact below_drewN hb _
            have hst := Lib.hid (((own_drewN Hown.out nq).stored (L * 2 + 1) (.int .i64 (r2 + 1))).1)
            rw [← hL.out, rvals_bump pre (r1, r2), hL.out, hw2.out] at hst
            clear k0 k1 f1 Hown Hb c0
            go_wp2
            go_roundw
            case rel => exact ⟨k + 1, by omega, by rw [Hs.out, Hl1.out]; exact hst.out, by go_num, hb2.setCell hg _⟩
            case measure => simp [intOf]; omega
          · rw [runStep_new h0 he] at hs
            have Hs := Lib.hid hs
            have hw2 : IntKind.i64.wrap (r1 + r2) = r1 + r2 := IntWalk.i64_in _ (by omega)
            have hw3 : (r1 + r2 == (k : Int)) = false := beq_eq_false_iff_ne.2 he
            clear hs h0 he Hl1 Hb
            go_wp2
            go_quiet (fail)
            clear hw1 hw2 hw3
            obtain ⟨w2, hw2⟩ : ∃ w2, Hid (wr.drewN nq = w2) := ⟨_, rfl⟩
            rw [hw2.out]
            have hown2 : w2.ownsRow w.heap.size 61 2 (.slice (some ⟨g, 0, none⟩) (L + 1) c) (L + 1) (rvals (pre ++ [(r1, r2)])) := by rw [← hw2.out]; exact own_drewN Hown.out _
            have hb2 : Below w.heap.size w w2 := by rw [← hw2.out]; exact below_drewN hb _
            have hsz2 := hb2.size
            clear Hown k0 k1 f1 c0
            go_wp2_with (at_builtin; refine wpList_append_own _ rfl _ _ 46 rfl w.heap.size 61 i0 _ 2 16 Try.underlying46 hi hz0 hz1 hz2 rfl (by decide) _ _ _ rfl (hown2.alloc _) ⟨w2.heap.size, 0, none⟩ 1 1 [.int .i64 k, .int .i64 1] rfl rfl ?c1 ?c2 ?c3 ?c4 ?c5 ?_)
            case c1 => exact World.news_of_block (cs := #[.int .i64 k, .int .i64 1]) (t := 61) (fr := (0, 0)) (heap_alloc_new w2 _)
            case c2 => simp [Value.oneCell']
            case c3 => unfold maxLen; omega
            case c4 => omega
            case c5 => simp; omega
            intro v' w3 hown3 hgrow3 _
            have hb3 : Below w.heap.size w w3 := (hb2.alloc hb2.size _).grown hgrow3 (by have := hb2.size; simp; omega) (fun j hj => (hown2.lt j hj).1)
            rw [rvals_snoc (pre ++ [(r1, r2)]) ((k : Int), 1)] at hown3
            have hown4 := Lib.hid hown3
            clear hown3 hgrow3 hown2 hb2
            go_wp2
            go_roundw
            case rel => exact ⟨k + 1, by omega, by rw [Hs.out]; rw [Hl2.out]; exact hown4.out, by go_num, hb3⟩
            case measure => simp [intOf]; omega
      · rw [runStep_no h0] at hs
        have Hs := Lib.hid hs
        have hne : (x.kind != 0) = true := bne_iff_ne.2 h0
        have Hown := Lib.hid hown
        clear hs hx h0 hown hbd hln
        go_wp2
        go_roundw
        case rel => exact ⟨k + 1, by omega, by rw [Hs.out]; exact Hown.out, by go_num, hb⟩
        case measure => simp [intOf]; omega
    · obtain rfl : n = k := by omega
      obtain ⟨q, c, rfl, hrow⟩ := VRow.of_own hown
      have Hrow := Lib.hid hrow
      have E : Hid (runsV ps = runsTo ps n) := by unfold runsV; rw [Hlen.out]; rfl
      clear hown hrow
      go_wp2
      go_ret
      exact ⟨⟨q, _, c, rfl, by rw [E.out]; exact Hrow.out⟩, hb⟩
end Go.Proofs.Ytnelnabeajkpfaa
