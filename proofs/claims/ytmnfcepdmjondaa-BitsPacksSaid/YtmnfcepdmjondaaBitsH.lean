/- Contract of bits.Unpack and of its reference. -/
import Derived.Test.YtmnfcepdmjondaaBitsG
namespace Go.Proofs.Ytmnfcepdmjondaa
open Go.RowKit

def shrN (x s : Nat) : Nat := x >>> s
/-- The numbers of the fields of x with widths ws. -/
def uvals : Nat → List Int → List Int
  | _, [] => []
  | x, a :: r => ((x &&& onesN a : Nat) : Int) :: uvals (x >>> a.toNat) r
theorem uvals_snoc (ws : List Int) (a : Int) : ∀ x, uvals x (ws ++ [a]) = uvals x ws ++ [(((x >>> sumW ws) &&& onesN a : Nat) : Int)] := by
  induction ws with
  | nil => intro x; simp [uvals, sumW]
  | cons b r ih => intro x; rw [List.cons_append, uvals, ih, uvals, sumW, Nat.shiftRight_add]; rfl
theorem uvals_len (ws : List Int) : ∀ x, (uvals x ws).length = ws.length := by
  induction ws with
  | nil => intro x; rfl
  | cons b r ih => intro x; rw [uvals, List.length_cons, ih, List.length_cons]
def unpE (x : Nat) (ws : List Int) : Int := if fitL 64 ws = true then (if x >>> sumW ws = 0 then 0 else 2) else 1
def unpV (x : Nat) (ws : List Int) : List Int := if fitL 64 ws = true then (if x >>> sumW ws = 0 then uvals x ws else []) else []

theorem unp_no {x : Nat} {ws : List Int} (h : ¬ fitL 64 ws = true) : Hid (unpE x ws = 1) ∧ Hid (unpV x ws = []) := by
  unfold unpE unpV; rw [if_neg h, if_neg h]; exact ⟨rfl, rfl⟩
theorem unp_bad {x : Nat} {ws : List Int} (h : fitL 64 ws = true) (hx : ¬ x >>> sumW ws = 0) : Hid (unpE x ws = 2) ∧ Hid (unpV x ws = []) := by
  unfold unpE unpV; rw [if_pos h, if_pos h, if_neg hx, if_neg hx]; exact ⟨rfl, rfl⟩
theorem unp_ok {x : Nat} {ws : List Int} (h : fitL 64 ws = true) (hx : x >>> sumW ws = 0) : Hid (unpE x ws = 0) ∧ Hid (unpV x ws = uvals x ws) := by
  unfold unpE unpV; rw [if_pos h, if_pos h, if_pos hx, if_pos hx]; exact ⟨rfl, rfl⟩

theorem unpV_len (x : Nat) (ws : List Int) : (unpV x ws).length ≤ ws.length := by
  unfold unpV
  by_cases h : fitL 64 ws = true
  · rw [if_pos h]
    by_cases hz : x >>> sumW ws = 0
    · rw [if_pos hz, uvals_len]; exact Nat.le_refl _
    · rw [if_neg hz]; exact Nat.zero_le _
  · rw [if_neg h]; exact Nat.zero_le _

/-- What the row holds behind k rounds. -/
def urow (x : Nat) (ws : List Int) (k : Nat) : List Int := uvals x (ws.take k) ++ List.replicate (ws.length - k) 0
theorem urow_len (x : Nat) (ws : List Int) (k : Nat) (hk : k ≤ ws.length) : (urow x ws k).length = ws.length := by
  unfold urow; rw [List.length_append, uvals_len, List.length_take, List.length_replicate]; omega
theorem urow_set {x : Nat} {ws : List Int} {k : Nat} {a : Int} (h : ws[k]? = some a) : (urow x ws k).set k (((x >>> sumW (ws.take k)) &&& onesN a : Nat) : Int) = urow x ws (k + 1) := by
  have hk := (List.getElem?_eq_some_iff.1 h).1
  unfold urow
  have e1 : ws.length - k = (ws.length - (k + 1)) + 1 := by omega
  have e2 : (uvals x (ws.take k)).length = k := by rw [uvals_len, List.length_take]; omega
  rw [take_snoc' h, uvals_snoc, e1, List.replicate_succ, List.set_append_right _ _ (by omega), e2, Nat.sub_self, List.set_cons_zero, List.append_assoc]; rfl
theorem urow_get {x : Nat} {ws : List Int} {k : Nat} (h : k < ws.length) : ∃ u, (ivals .u64 (urow x ws k))[k]? = some (.int .u64 u) := by
  have hl := urow_len x ws k (by omega)
  exact ⟨(urow x ws k)[k]'(by omega), by rw [ivals, List.getElem?_map, List.getElem?_eq_getElem (by omega)]; rfl⟩
theorem ivals_set (kd : IntKind) (xs : List Int) (k : Nat) (u : Int) : (ivals kd xs).set k (.int kd u) = ivals kd (xs.set k u) := by
  simp [ivals, List.map_set]
theorem made_zeros (n : Nat) : (madeCells #[Value.int .u64 0] n).toList = ivals .u64 (List.replicate n 0) := by
  rw [toList_madeCells_one, ivals, List.map_replicate]
theorem shr_step {x s : Nat} {a : Int} : ((shrN x s : Nat) : Int) / 2 ^ a.toNat = ((shrN x (s + a.toNat) : Nat) : Int) := by
  unfold shrN; rw [shr_cast, Nat.shiftRight_add]
theorem sumT_snoc {ws : List Int} {k : Nat} {a : Int} (h : ws[k]? = some a) : sumW (ws.take (k + 1)) = sumW (ws.take k) + a.toNat := by
  rw [take_snoc' h, sumW_snoc]

theorem row_step {x k n g base : Nat} {e : TypeId} {ws : List Int} {a : Int} {wr : World} (h : wr.ownsRow base e 1 (.slice (some ⟨g, 0, none⟩) n n) n (ivals .u64 (urow x ws k))) (ha : ws[k]? = some a) (hx : x < 18446744073709551616) :
    (wr.setCell ⟨g, k, none⟩ (.int .u64 (bits .and .u64 ((shrN x (sumW (ws.take k)) : Nat) : Int) (onesV a)))).ownsRow base e 1 (.slice (some ⟨g, 0, none⟩) n n) n (ivals .u64 (urow x ws (k + 1))) := by
  have h1 := (h.stored k (.int .u64 (bits .and .u64 ((shrN x (sumW (ws.take k)) : Nat) : Int) (onesV a)))).1
  have e1 : (ivals .u64 (urow x ws k)).set k (.int .u64 (bits .and .u64 ((shrN x (sumW (ws.take k)) : Nat) : Int) (onesV a))) = ivals .u64 (urow x ws (k + 1)) := by
    rw [and_spell (shrN x (sumW (ws.take k))) a (shr_lt _ _ hx), ivals_set, ← urow_set ha]; rfl
  rw [e1] at h1
  exact h1

set_option maxHeartbeats 400000 in
theorem unpClos_one (n cap : Nat) (i : Nat) (b off b0 : Nat) (x : Int) (w : World) (hi : i < n) (_hn : (n : Int) ≤ 9223372036854775807) (hb : w.cell? ⟨b, 0, none⟩ = some (.slice (some ⟨b0, off, none⟩) n cap)) (hc : w.cell? ⟨b0, off + i, none⟩ = some (.int .i64 x)) :
    Calls Try.prog 27 #[.int .i64 i, .pointer (some ⟨b, 0, none⟩)] w fun e w' => e = .returned (.int .i64 x) ∧ w = w' := by
  go_enter Try.func27, Try.ntmps27
  go_wp2
  go_ret
  exact ⟨rfl, rfl⟩

theorem unpClos (p : Option Addr) (n cap : Nat) (b : Nat) (ws : List Int) (w : World) (hlen : ws.length = n) (hn : (n : Int) ≤ 9223372036854775807) (hb : w.cell? ⟨b, 0, none⟩ = some (.slice p n cap)) (hr : IRow w .i64 p ws) :
    Clos 27 (.pointer (some ⟨b, 0, none⟩)) ws w := by
  intro i x hx
  obtain ⟨b0, off, rfl, h1⟩ := hr i x hx
  exact unpClos_one n cap i b off b0 x w (by have := (List.getElem?_eq_some_iff.1 hx).1; omega) hn hb h1

theorem IRow.nil (w : World) (kd : IntKind) (p : Option Addr) : IRow w kd p [] := fun i x h => by simp at h

set_option maxHeartbeats 800000 in
theorem unpack_any (x : Nat) (p : Option Addr) (n cap : Nat) (ws : List Int) (w : World) (hx : x < 18446744073709551616) (hlen : Hid (ws.length = n)) (hn : n ≤ 100000) (hr : IRow w .i64 p ws) :
    Calls Try.prog 19 #[.int .u64 x, .slice p n cap] w fun e w' => (∃ q m c, e = .returned (.tuple #[.slice q m c, .int .i64 (unpE x ws)]) ∧ (unpV x ws).length = m ∧ IRow w' .u64 q (unpV x ws)) ∧ Below w.heap.size w w' := by
  obtain ⟨i0, hi, hz0, hz1, hz2⟩ := info_parts infoU64
  have hbel : Below w.heap.size w (w.alloc (.cells #[.slice p n cap] 39)) := (Below.refl _ _).alloc (Nat.le_refl _) _
  have hr1 := Lib.hid (hr.keep hbel)
  clear hr
  have hfit := Lib.hid (fit_any 27 (.pointer (some ⟨w.heap.size, 0, none⟩)) n ws (w.alloc (.cells #[.slice p n cap] 39)) hlen (by omega) (fun _ _ => by kernel_rfl) (unpClos p n cap w.heap.size ws _ hlen.out (by omega) (by simp) hr1.out))
  clear hbel
  by_cases hf : fitL 64 ws = true
  · go_enter Try.func19, Try.ntmps19
    go_wp2_with (first | (refine hfit.out.mono ?_; rintro e w' ⟨rfl, rfl⟩) | (at_make; refine wpList_make_full _ rfl _ _ 40 rfl (w.heap.size + 1) 23 i0 (.int .u64 0) 1 Try.underlying40 hi hz0 hz1 .i64 .i64 n n n rfl rfl rfl rfl ?c1 ?c2 ?c3 ?_))
    case c1 => rw [hz2]; omega
    case c2 => unfold maxLen; omega
    case c3 => simp
    intro w2 hown hg
    rw [made_zeros] at hown
    have hb2 : Below (w.heap.size + 1) (w.alloc (.cells #[.slice p n cap] 39)) w2 := (Below.refl _ _).grown hg (by simp) (fun k h => by cases h)
    have Hown0 := Lib.hid hown
    clear hg hfit hown
    have hbox2 : w2.cell? ⟨w.heap.size, 0, none⟩ = some (.slice p n cap) := by rw [hb2.cell (by simp)]; simp
    go_wp2
    have hlen2 := Lib.hid hlen.out.symm
    go_loopw [0, 18] (fun a i wr => ∃ k : Nat, k ≤ n ∧ a = .int .u64 ((shrN x (sumW (ws.take k)) : Nat) : Int) ∧ i = .int .i64 k ∧ wr.ownsRow (w.heap.size + 1) 23 1 (.slice (some ⟨w.heap.size + 1, 0, none⟩) n n) n (ivals .u64 (urow x ws k)) ∧ Below (w.heap.size + 1) (w.alloc (.cells #[.slice p n cap] 39)) wr) (fun _ i _ => n - (intOf i).toNat)
    case atStart =>
      refine ⟨0, by omega, rfl, rfl, ?_, hb2⟩
      have e : urow x ws 0 = List.replicate n 0 := by unfold urow; rw [hlen.out]; rfl
      rw [e]
      simpa using Hown0.out
    case round =>
      obtain ⟨k, hk, rfl, rfl, hown, hb⟩ := hrel
      have hbox : wr.cell? ⟨w.heap.size, 0, none⟩ = some (.slice p n cap) := by rw [hb.cell (by simp)]; simp
      have Hown := Lib.hid hown
      clear hown
      by_cases hlt : k < n
      · obtain ⟨a, ha⟩ : ∃ a, ws[k]? = some a := ⟨_, List.getElem?_eq_getElem (by rw [hlen.out]; exact hlt)⟩
        obtain ⟨b, off, rfl, c0⟩ := hr1.out _ a ha
        have c1 := cell_keep (hb.mono (by simp)) c0
        obtain ⟨ha1, ha2⟩ := fitL_mem _ _ (by omega) hf a (List.mem_of_getElem? ha)
        have lb := cell_lt c1
        obtain ⟨u, hu⟩ := urow_get (x := x) (ws := ws) (k := k) (by rw [hlen.out]; exact hlt)
        have hst : wr.cell? ⟨w.heap.size + 1, k, none⟩ = some (.int .u64 u) := by rw [Hown.out.cellAt k (by omega)]; exact hu
        have hfz : wr.frozen? ⟨w.heap.size + 1, k, none⟩ = false := Hown.out.frozenAt k
        have Ha := Lib.hid ha
        have hset := Lib.hid (row_step (x := x) Hown.out ha hx)
        have hne : b ≠ w.heap.size + 1 := by have := cell_lt c0; simp at this; omega
        have c2 : ∀ v, (wr.setCell ⟨w.heap.size + 1, k, none⟩ v).cell? ⟨b, off + k, none⟩ = some (.int .i64 a) := fun v => by rw [World.cell?_of_block (Below.heap_setCell _ _ _ _ hne)]; exact c1
        clear ha hu c0
        go_wp2_with (go_at_call 10; refine (ones_any _ _).mono ?_; rintro e w' ⟨rfl, rfl⟩)
        go_roundw
        case rel => exact ⟨k + 1, by omega, by rw [shr_step, ← sumT_snoc Ha.out], by go_num, hset.out, hb.setCell (Nat.le_refl _) _⟩
        case measure => simp [intOf]; omega
      · have e1 : ws.take k = ws := List.take_of_length_le (by rw [hlen.out]; omega)
        have e2 : urow x ws k = uvals x ws := by unfold urow; rw [e1, hlen.out, show n - k = 0 from by omega]; simp
        rw [e2] at Hown
        rw [e1]
        clear e1 e2
        obtain ⟨q, c, hv, hl, hrow⟩ := IRow.of_own Hown.out
        injection hv with hv1 hv2 hv3
        subst hv1
        have Hrow := Lib.hid hrow
        have Hl := Lib.hid hl
        clear Hown hv2 hv3 hrow hl
        by_cases hz : x >>> sumW ws = 0
        · obtain ⟨E, V⟩ := unp_ok hf hz
          have ht : (((shrN x (sumW ws) : Nat) : Int) != 0) = false := by unfold shrN; rw [hz]; rfl
          clear hz
          go_wp2
          go_ret2
          rw [V.out, E.out]
          exact ⟨⟨_, _, _, rfl, Hl.out, Hrow.out⟩, below_of_alloc hb⟩
        · obtain ⟨E, V⟩ := unp_bad hf hz
          have ht : (((shrN x (sumW ws) : Nat) : Int) != 0) = true := by unfold shrN; rw [bne_iff_ne]; omega
          clear hz
          go_wp2
          go_ret2
          rw [V.out, E.out]
          exact ⟨⟨none, 0, 0, rfl, rfl, IRow.nil _ _ _⟩, below_of_alloc hb⟩
  · obtain ⟨E, V⟩ := unp_no (x := x) hf
    clear hr1
    go_enter Try.func19, Try.ntmps19
    go_wp2_with (refine hfit.out.mono ?_; rintro e w' ⟨rfl, rfl⟩)
    go_ret2
    rw [V.out, E.out]
    exact ⟨⟨none, 0, 0, rfl, rfl, IRow.nil _ _ _⟩, (Below.refl _ _).alloc (Nat.le_refl _) _⟩
end Go.Proofs.Ytmnfcepdmjondaa
