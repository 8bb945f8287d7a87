/- Contracts of package bits (Ones, fit, Pack, Unpack), for every seat that calls it: over Kit and BitsM. -/
import Derived.Test.YtpfbofcofhcfpaaDoorKit
import Derived.Test.YtpfbofcofhcfpaaDoorBitsM
namespace Go.Proofs.YtpfbofcofhcfpaaDoor
open Go.RowKit

theorem ret_u64 {a b : Int} (h : a = b) : Ending.returned (.int .u64 a) = .returned (.int .u64 b) := by rw [h]

set_option maxHeartbeats 400000 in
theorem ones_any (n : Int) (w : World) :
    Calls Tryd.prog 19 #[.int .i64 n] w fun e w' => e = .returned (.int .u64 (onesV n)) ∧ w = w' := by
  by_cases h : n < 0
  · have e := onesV_neg n h
    have e := Lib.hid e
    go_enter Tryd.func19, Tryd.ntmps19
    go_wp2
    go_ret
    exact ⟨ret_u64 (by rw [e.out]), rfl⟩
  · have e := onesV_wrap n
    have e := Lib.hid e
    go_enter Tryd.func19, Tryd.ntmps19
    go_wp2
    go_ret
    exact ⟨ret_u64 (by rw [← e.out]), rfl⟩

def Clos (F : FuncId) (cp : Value) (ws : List Int) (w : World) : Prop :=
  ∀ (i : Nat) (x : Int), ws[i]? = some x → Calls Tryd.prog F #[.int .i64 i, cp] w fun e w' => e = .returned (.int .i64 x) ∧ w = w'

set_option maxHeartbeats 400000 in
theorem fit_any (F : FuncId) (cp : Value) (n : Nat) (ws : List Int) (w : World) (hlen : Hid (ws.length = n)) (hn : (n : Int) ≤ 9223372036854775807) (hcf : ∀ a w, (callFunc F a).run Tryd.prog w = .ok (.enter F a) w) (hc : Clos F cp ws w) :
    Calls Tryd.prog 17 #[.int .i64 n, .func (.func F) #[] #[cp]] w fun e w' => e = .returned (.bool (fitL 64 ws)) ∧ w = w' := by
  go_enter Tryd.func17, Tryd.ntmps17
  go_wp2
  go_loop [5, 8] (fun l i => ∃ (k : Nat) (lv : Int), k ≤ n ∧ 0 ≤ lv ∧ lv ≤ 64 ∧ fitL lv (ws.drop k) = fitL 64 ws ∧ l = .int .i64 lv ∧ i = .int .i64 k) (fun _ i => n - (intOf i).toNat)
  case atStart => exact ⟨0, 64, by omega, by omega, by omega, rfl, rfl, rfl⟩
  case round =>
    obtain ⟨k, lv, hk, hl1, hl2, hf, rfl, rfl⟩ := hrel
    have Hf := Lib.hid hf
    clear hf
    by_cases hlt : k < n
    · obtain ⟨x, hx⟩ : ∃ x, ws[k]? = some x := ⟨_, List.getElem?_eq_getElem (by rw [hlen.out]; exact hlt)⟩
      have Hx := Lib.hid hx
      clear hx
      by_cases h1 : x < 1
      · have E := Lib.hid (fitL_no (left := lv) Hx.out (Or.inl h1))
        go_wp2_with (refine (hc k x Hx.out).mono ?_; rintro e w' ⟨rfl, rfl⟩)
        go_ret
        exact ⟨ret_bool (by rw [← Hf.out, E.out]), rfl⟩
      · by_cases h2 : lv < x
        · have E := Lib.hid (fitL_no (left := lv) Hx.out (Or.inr h2))
          go_wp2_with (refine (hc k x Hx.out).mono ?_; rintro e w' ⟨rfl, rfl⟩)
          go_ret
          exact ⟨ret_bool (by rw [← Hf.out, E.out]), rfl⟩
        · have E := Lib.hid (fitL_yes (left := lv) Hx.out h1 h2)
          go_wp2_with (refine (hc k x Hx.out).mono ?_; rintro e w' ⟨rfl, rfl⟩)
          go_round
          case rel => exact ⟨k + 1, lv - x, by omega, by omega, by omega, by rw [← Hf.out, E.out], by go_num, by go_num⟩
          case measure => simp [intOf]; omega
    · have E := Lib.hid (fitL_end (left := lv) (ws := ws) (k := k) (by rw [hlen.out]; omega))
      go_wp2
      go_ret
      exact ⟨ret_bool (by rw [← Hf.out, E.out]), rfl⟩

/-- Slice value (p, len) reads as the fields fs. -/
def FRow (w : World) (p : Option Addr) (fs : List (Int × Nat)) : Prop :=
  ∀ (i : Nat) (x : Int × Nat), fs[i]? = some x → ∃ b off, p = some ⟨b, off, none⟩ ∧ w.cell? ⟨b, off + i * 2, none⟩ = some (.int .i64 x.1) ∧ w.cell? ⟨b, off + i * 2 + 1, none⟩ = some (.int .u64 x.2)
theorem FRow.keep {w w' : World} {p : Option Addr} {fs : List (Int × Nat)} (h : FRow w p fs) (hb : Below w.heap.size w w') : FRow w' p fs := by
  intro i x hx
  obtain ⟨b, off, hp, h1, h2⟩ := h i x hx
  exact ⟨b, off, hp, cell_keep hb h1, cell_keep hb h2⟩

set_option maxHeartbeats 400000 in
theorem packClos_one (n cap : Nat) (i : Nat) (b off b0 : Nat) (x : Int) (w : World) (hi : i < n) (_hn : (n : Int) ≤ 9223372036854775807) (hb : w.cell? ⟨b, 0, none⟩ = some (.slice (some ⟨b0, off, none⟩) n cap)) (hc : w.cell? ⟨b0, off + i * 2, none⟩ = some (.int .i64 x)) :
    Calls Tryd.prog 18 #[.int .i64 i, .pointer (some ⟨b, 0, none⟩)] w fun e w' => e = .returned (.int .i64 x) ∧ w = w' := by
  go_enter Tryd.func18, Tryd.ntmps18
  go_wp2
  go_ret
  exact ⟨rfl, rfl⟩

theorem packClos (p : Option Addr) (n cap : Nat) (b : Nat) (fs : List (Int × Nat)) (w : World) (hlen : fs.length = n) (hn : (n : Int) ≤ 9223372036854775807) (hb : w.cell? ⟨b, 0, none⟩ = some (.slice p n cap)) (hr : FRow w p fs) :
    Clos 18 (.pointer (some ⟨b, 0, none⟩)) (fs.map (·.1)) w := by
  intro i x hx
  rw [List.getElem?_map, Option.map_eq_some_iff] at hx
  obtain ⟨y, hy, rfl⟩ := hx
  obtain ⟨b0, off, rfl, h1, _⟩ := hr i y hy
  exact packClos_one n cap i b off b0 y.1 w (by have := (List.getElem?_eq_some_iff.1 hy).1; omega) hn hb h1

theorem packB_bad {fs : List (Int × Nat)} (h1 : fitL 64 (fs.map (·.1)) = true) (h : okF fs = false) : packB fs = (0, 2) := by
  unfold packB; rw [if_pos h1, if_neg (by simp [h])]
theorem packB_ok {fs : List (Int × Nat)} (h1 : fitL 64 (fs.map (·.1)) = true) (h : okF fs = true) : packB fs = (((packR fs : Nat) : Int), 0) := by
  unfold packB; rw [if_pos h1, if_pos h]
theorem packB_no {fs : List (Int × Nat)} (h1 : ¬ fitL 64 (fs.map (·.1)) = true) : packB fs = (0, 1) := by
  unfold packB; rw [if_neg h1]
theorem ret_u64i {a b c d : Int} (h : (a, c) = (b, d)) : Ending.returned (.tuple #[.int .u64 a, .int .i64 c]) = .returned (.tuple #[.int .u64 b, .int .i64 d]) := by
  injection h with h1 h2; rw [h1, h2]

theorem drop_all {α : Type} {fs : List α} {k : Nat} (h : fs.length ≤ k) : fs.drop k = [] := List.drop_eq_nil_of_le h

set_option maxHeartbeats 400000 in
theorem pack_any (p : Option Addr) (n cap : Nat) (fs : List (Int × Nat)) (w : World) (hlen : Hid (fs.length = n)) (hn : (n : Int) ≤ 9223372036854775807) (hr : FRow w p fs) :
    Calls Tryd.prog 14 #[.slice p n cap] w fun e w' => e = .returned (.tuple #[.int .u64 (packB fs).1, .int .i64 (packB fs).2]) ∧ Below w.heap.size w w' := by
  have hbel : Below w.heap.size w (w.alloc (.cells #[.slice p n cap] 38)) := (Below.refl _ _).alloc (Nat.le_refl _) _
  have hr1 := Lib.hid (hr.keep hbel)
  clear hr
  have hfit := Lib.hid (fit_any 18 (.pointer (some ⟨w.heap.size, 0, none⟩)) n (fs.map (·.1)) (w.alloc (.cells #[.slice p n cap] 38)) (by rw [List.length_map]; exact hlen.out) hn (fun _ _ => by kernel_rfl) (packClos p n cap w.heap.size fs _ hlen.out hn (by simp) hr1.out))
  clear hbel
  by_cases hf : fitL 64 (fs.map (·.1)) = true
  · go_enter Tryd.func14, Tryd.ntmps14
    go_wp2_with (refine hfit.out.mono ?_; rintro e w' ⟨rfl, rfl⟩)
    clear hfit
    go_loopw [4, 14] (fun a i wr => ∃ k : Nat, k ≤ n ∧ okF (fs.drop (n - k)) = true ∧ a = .int .u64 ((packR (fs.drop (n - k)) : Nat) : Int) ∧ i = .int .i64 k ∧ Below (w.heap.size + 1) (w.alloc (.cells #[.slice p n cap] 38)) wr) (fun _ i _ => n - (intOf i).toNat)
    case atStart =>
      have e := drop_all (fs := fs) (k := n - 0) (by rw [hlen.out]; omega)
      exact ⟨0, by omega, by rw [e]; rfl, by rw [e]; rfl, rfl, Below.refl _ _⟩
    case round =>
      obtain ⟨k, hk, hok, rfl, rfl, hb⟩ := hrel
      have Hok := Lib.hid hok
      clear hok
      have hbox : wr.cell? ⟨w.heap.size, 0, none⟩ = some (.slice p n cap) := by rw [hb.cell (by simp)]; simp
      by_cases hlt : k < n
      · obtain ⟨x, hx⟩ : ∃ x, fs[n - 1 - k]? = some x := ⟨_, List.getElem?_eq_getElem (by rw [hlen.out]; omega)⟩
        obtain ⟨b, off, rfl, c1, c2⟩ := (hr1.out.keep (hb.mono (by simp))) _ x hx
        have hsz := Lib.hid (show w.heap.size + 1 ≤ wr.heap.size by have := hb.size; simpa using this)
        have Hx := Lib.hid hx
        clear hx
        have e1 : n - k = n - 1 - k + 1 := by omega
        rw [e1] at Hok
        rw [e1]
        clear e1
        by_cases hv : (x.2 : Int) ≤ onesV x.1
        · obtain ⟨s1, s2, s3, s4⟩ := pack_step Hx.out hf Hok.out hv
          have S3 := Lib.hid s3
          have S4 := Lib.hid s4
          clear s3 s4
          go_wp2
          go_quiet ((go_at_call 19; exact Calls.quiet_of_same ((ones_any _ _).mono fun e w' h => ⟨h.1, h.2.symm⟩)))
          go_wp2
          go_quiet (fail)
          go_wp2
          go_roundw
          case rel => exact ⟨k + 1, by omega, by rw [show n - (k + 1) = n - 1 - k from by omega]; exact S3.out, by rw [show n - (k + 1) = n - 1 - k from by omega, ← S4.out], by go_num, by repeat (first | apply below_drewN | exact hb.alloc hsz.out _)⟩
          case measure => simp [intOf]; omega
        · have E := Lib.hid (packB_bad hf (pack_bad Hx.out hv))
          go_wp2
          go_quiet ((go_at_call 19; exact Calls.quiet_of_same ((ones_any _ _).mono fun e w' h => ⟨h.1, h.2.symm⟩)))
          go_wp2
          go_ret2
          exact ⟨ret_u64i (by rw [E.out]), by repeat (first | apply below_drewN | exact (below_of_alloc hb).alloc (Nat.le_of_succ_le hsz.out) _)⟩
      · have e1 : n - k = 0 := by omega
        rw [e1, List.drop_zero] at Hok
        rw [e1, List.drop_zero]
        clear e1
        have E := Lib.hid (packB_ok hf Hok.out)
        go_wp2
        go_ret2
        exact ⟨ret_u64i (by rw [E.out]), below_of_alloc hb⟩
  · have E := Lib.hid (packB_no hf)
    go_enter Tryd.func14, Tryd.ntmps14
    go_wp2_with (refine hfit.out.mono ?_; rintro e w' ⟨rfl, rfl⟩)
    go_ret2
    exact ⟨ret_u64i (by rw [E.out]), (Below.refl _ _).alloc (Nat.le_refl _) _⟩
theorem sumW_snoc (l : List Int) (x : Int) : sumW (l ++ [x]) = sumW l + x.toNat := by
  induction l with
  | nil => simp [sumW]
  | cons g l ih => rw [List.cons_append, sumW, ih, sumW]; omega
def shrN (x s : Nat) : Nat := x >>> s
/-- The numbers of the fields of x with widths ws. -/
def uvals : Nat → List Int → List Int
  | _, [] => []
  | x, a :: r => ((x &&& onesN a : Nat) : Int) :: uvals (x >>> a.toNat) r
theorem uvals_snoc (ws : List Int) (a : Int) : ∀ x, uvals x (ws ++ [a]) = uvals x ws ++ [(((x >>> sumW ws) &&& onesN a : Nat) : Int)] := by
  induction ws with
  | nil => intro x; simp [uvals, sumW]
  | cons b r ih => intro x; rw [List.cons_append, uvals, ih, uvals, sumW, Nat.shiftRight_add]; rfl
theorem uvals_len (ws : List Int) : ∀ x, (uvals x ws).length = ws.length := by
  induction ws with
  | nil => intro x; rfl
  | cons b r ih => intro x; rw [uvals, List.length_cons, ih, List.length_cons]
def unpE (x : Nat) (ws : List Int) : Int := if fitL 64 ws = true then (if x >>> sumW ws = 0 then 0 else 2) else 1
def unpV (x : Nat) (ws : List Int) : List Int := if fitL 64 ws = true then (if x >>> sumW ws = 0 then uvals x ws else []) else []

theorem unp_no {x : Nat} {ws : List Int} (h : ¬ fitL 64 ws = true) : Hid (unpE x ws = 1) ∧ Hid (unpV x ws = []) := by
  unfold unpE unpV; rw [if_neg h, if_neg h]; exact ⟨rfl, rfl⟩
theorem unp_bad {x : Nat} {ws : List Int} (h : fitL 64 ws = true) (hx : ¬ x >>> sumW ws = 0) : Hid (unpE x ws = 2) ∧ Hid (unpV x ws = []) := by
  unfold unpE unpV; rw [if_pos h, if_pos h, if_neg hx, if_neg hx]; exact ⟨rfl, rfl⟩
theorem unp_ok {x : Nat} {ws : List Int} (h : fitL 64 ws = true) (hx : x >>> sumW ws = 0) : Hid (unpE x ws = 0) ∧ Hid (unpV x ws = uvals x ws) := by
  unfold unpE unpV; rw [if_pos h, if_pos h, if_pos hx, if_pos hx]; exact ⟨rfl, rfl⟩

theorem unpV_len (x : Nat) (ws : List Int) : (unpV x ws).length ≤ ws.length := by
  unfold unpV
  by_cases h : fitL 64 ws = true
  · rw [if_pos h]
    by_cases hz : x >>> sumW ws = 0
    · rw [if_pos hz, uvals_len]; exact Nat.le_refl _
    · rw [if_neg hz]; exact Nat.zero_le _
  · rw [if_neg h]; exact Nat.zero_le _

/-- What the row holds behind k rounds. -/
def urow (x : Nat) (ws : List Int) (k : Nat) : List Int := uvals x (ws.take k) ++ List.replicate (ws.length - k) 0
theorem urow_len (x : Nat) (ws : List Int) (k : Nat) (hk : k ≤ ws.length) : (urow x ws k).length = ws.length := by
  unfold urow; rw [List.length_append, uvals_len, List.length_take, List.length_replicate]; omega
theorem urow_set {x : Nat} {ws : List Int} {k : Nat} {a : Int} (h : ws[k]? = some a) : (urow x ws k).set k (((x >>> sumW (ws.take k)) &&& onesN a : Nat) : Int) = urow x ws (k + 1) := by
  have hk := (List.getElem?_eq_some_iff.1 h).1
  unfold urow
  have e1 : ws.length - k = (ws.length - (k + 1)) + 1 := by omega
  have e2 : (uvals x (ws.take k)).length = k := by rw [uvals_len, List.length_take]; omega
  rw [take_snoc' h, uvals_snoc, e1, List.replicate_succ, List.set_append_right _ _ (by omega), e2, Nat.sub_self, List.set_cons_zero, List.append_assoc]; rfl
theorem urow_get {x : Nat} {ws : List Int} {k : Nat} (h : k < ws.length) : ∃ u, (ivals .u64 (urow x ws k))[k]? = some (.int .u64 u) := by
  have hl := urow_len x ws k (by omega)
  exact ⟨(urow x ws k)[k]'(by omega), by rw [ivals, List.getElem?_map, List.getElem?_eq_getElem (by omega)]; rfl⟩
theorem shr_step {x s : Nat} {a : Int} : ((shrN x s : Nat) : Int) / 2 ^ a.toNat = ((shrN x (s + a.toNat) : Nat) : Int) := by
  unfold shrN; rw [shr_cast, Nat.shiftRight_add]
theorem sumT_snoc {ws : List Int} {k : Nat} {a : Int} (h : ws[k]? = some a) : sumW (ws.take (k + 1)) = sumW (ws.take k) + a.toNat := by
  rw [take_snoc' h, sumW_snoc]

theorem row_step {x k n g base : Nat} {e : TypeId} {ws : List Int} {a : Int} {wr : World} (h : wr.ownsRow base e 1 (.slice (some ⟨g, 0, none⟩) n n) n (ivals .u64 (urow x ws k))) (ha : ws[k]? = some a) (hx : x < 18446744073709551616) :
    (wr.setCell ⟨g, k, none⟩ (.int .u64 (bits .and .u64 ((shrN x (sumW (ws.take k)) : Nat) : Int) (onesV a)))).ownsRow base e 1 (.slice (some ⟨g, 0, none⟩) n n) n (ivals .u64 (urow x ws (k + 1))) := by
  have h1 := (h.stored k (.int .u64 (bits .and .u64 ((shrN x (sumW (ws.take k)) : Nat) : Int) (onesV a)))).1
  have e1 : (ivals .u64 (urow x ws k)).set k (.int .u64 (bits .and .u64 ((shrN x (sumW (ws.take k)) : Nat) : Int) (onesV a))) = ivals .u64 (urow x ws (k + 1)) := by
    rw [and_spell (shrN x (sumW (ws.take k))) a (shr_lt _ _ hx), ivals_set, ← urow_set ha]; rfl
  rw [e1] at h1
  exact h1

set_option maxHeartbeats 400000 in
theorem unpClos_one (n cap : Nat) (i : Nat) (b off b0 : Nat) (x : Int) (w : World) (hi : i < n) (_hn : (n : Int) ≤ 9223372036854775807) (hb : w.cell? ⟨b, 0, none⟩ = some (.slice (some ⟨b0, off, none⟩) n cap)) (hc : w.cell? ⟨b0, off + i, none⟩ = some (.int .i64 x)) :
    Calls Tryd.prog 20 #[.int .i64 i, .pointer (some ⟨b, 0, none⟩)] w fun e w' => e = .returned (.int .i64 x) ∧ w = w' := by
  go_enter Tryd.func20, Tryd.ntmps20
  go_wp2
  go_ret
  exact ⟨rfl, rfl⟩

theorem unpClos (p : Option Addr) (n cap : Nat) (b : Nat) (ws : List Int) (w : World) (hlen : ws.length = n) (hn : (n : Int) ≤ 9223372036854775807) (hb : w.cell? ⟨b, 0, none⟩ = some (.slice p n cap)) (hr : IRow w .i64 p ws) :
    Clos 20 (.pointer (some ⟨b, 0, none⟩)) ws w := by
  intro i x hx
  obtain ⟨b0, off, rfl, h1⟩ := hr i x hx
  exact unpClos_one n cap i b off b0 x w (by have := (List.getElem?_eq_some_iff.1 hx).1; omega) hn hb h1

set_option maxHeartbeats 800000 in
theorem unpack_any (x : Nat) (p : Option Addr) (n cap : Nat) (ws : List Int) (w : World) (hx : x < 18446744073709551616) (hlen : Hid (ws.length = n)) (hn : n ≤ 100000) (hr : IRow w .i64 p ws) :
    Calls Tryd.prog 16 #[.int .u64 x, .slice p n cap] w fun e w' => RetS (unpV x ws) (unpE x ws) e w' ∧ Below w.heap.size w w' := by
  obtain ⟨i0, hi, hz0, hz1, hz2⟩ := info_parts infoU64
  have hbel : Below w.heap.size w (w.alloc (.cells #[.slice p n cap] 44)) := (Below.refl _ _).alloc (Nat.le_refl _) _
  have hr1 := Lib.hid (hr.keep hbel)
  clear hr
  have hfit := Lib.hid (fit_any 20 (.pointer (some ⟨w.heap.size, 0, none⟩)) n ws (w.alloc (.cells #[.slice p n cap] 44)) hlen (by omega) (fun _ _ => by kernel_rfl) (unpClos p n cap w.heap.size ws _ hlen.out (by omega) (by simp) hr1.out))
  clear hbel
  by_cases hf : fitL 64 ws = true
  · go_enter Tryd.func16, Tryd.ntmps16
    go_wp2_with (first | (refine hfit.out.mono ?_; rintro e w' ⟨rfl, rfl⟩) | (at_make; refine wpList_make_full _ rfl _ _ 41 rfl (w.heap.size + 1) 24 i0 (.int .u64 0) 1 Tryd.underlying41 hi hz0 hz1 .i64 .i64 n n n rfl rfl rfl rfl ?c1 ?c2 ?c3 ?_))
    case c1 => rw [hz2]; omega
    case c2 => unfold maxLen; omega
    case c3 => simp
    intro w2 hown hg
    rw [made_zeros] at hown
    have hb2 : Below (w.heap.size + 1) (w.alloc (.cells #[.slice p n cap] 44)) w2 := (Below.refl _ _).grown hg (by simp) (fun k h => by cases h)
    have Hown0 := Lib.hid hown
    clear hg hfit hown
    have hbox2 : w2.cell? ⟨w.heap.size, 0, none⟩ = some (.slice p n cap) := by rw [hb2.cell (by simp)]; simp
    go_wp2
    have hlen2 := Lib.hid hlen.out.symm
    go_loopw [0, 18] (fun a i wr => ∃ k : Nat, k ≤ n ∧ a = .int .u64 ((shrN x (sumW (ws.take k)) : Nat) : Int) ∧ i = .int .i64 k ∧ wr.ownsRow (w.heap.size + 1) 24 1 (.slice (some ⟨w.heap.size + 1, 0, none⟩) n n) n (ivals .u64 (urow x ws k)) ∧ Below (w.heap.size + 1) (w.alloc (.cells #[.slice p n cap] 44)) wr) (fun _ i _ => n - (intOf i).toNat)
    case atStart =>
      refine ⟨0, by omega, rfl, rfl, ?_, hb2⟩
      have e : urow x ws 0 = List.replicate n 0 := by unfold urow; rw [hlen.out]; rfl
      rw [e]
      simpa using Hown0.out
    case round =>
      obtain ⟨k, hk, rfl, rfl, hown, hb⟩ := hrel
      have hbox : wr.cell? ⟨w.heap.size, 0, none⟩ = some (.slice p n cap) := by rw [hb.cell (by simp)]; simp
      have Hown := Lib.hid hown
      clear hown
      by_cases hlt : k < n
      · obtain ⟨a, ha⟩ : ∃ a, ws[k]? = some a := ⟨_, List.getElem?_eq_getElem (by rw [hlen.out]; exact hlt)⟩
        obtain ⟨b, off, rfl, c0⟩ := hr1.out _ a ha
        have c1 := cell_keep (hb.mono (by simp)) c0
        obtain ⟨ha1, ha2⟩ := fitL_mem _ _ (by omega) hf a (List.mem_of_getElem? ha)
        have lb := cell_lt c1
        obtain ⟨u, hu⟩ := urow_get (x := x) (ws := ws) (k := k) (by rw [hlen.out]; exact hlt)
        have hst : wr.cell? ⟨w.heap.size + 1, k, none⟩ = some (.int .u64 u) := by rw [Hown.out.cellAt k (by omega)]; exact hu
        have hfz : wr.frozen? ⟨w.heap.size + 1, k, none⟩ = false := Hown.out.frozenAt k
        have Ha := Lib.hid ha
        have hset := Lib.hid (row_step (x := x) Hown.out ha hx)
        have hne : b ≠ w.heap.size + 1 := by have := cell_lt c0; simp at this; omega
        have c2 : ∀ v, (wr.setCell ⟨w.heap.size + 1, k, none⟩ v).cell? ⟨b, off + k, none⟩ = some (.int .i64 a) := fun v => by rw [World.cell?_of_block (Below.heap_setCell _ _ _ _ hne)]; exact c1
        clear ha hu c0
        go_wp2_with (go_at_call 19; refine (ones_any _ _).mono ?_; rintro e w' ⟨rfl, rfl⟩)
        go_roundw
        case rel => exact ⟨k + 1, by omega, by rw [shr_step, ← sumT_snoc Ha.out], by go_num, hset.out, hb.setCell (Nat.le_refl _) _⟩
        case measure => simp [intOf]; omega
      · have e1 : ws.take k = ws := List.take_of_length_le (by rw [hlen.out]; omega)
        have e2 : urow x ws k = uvals x ws := by unfold urow; rw [e1, hlen.out, show n - k = 0 from by omega]; simp
        rw [e2] at Hown
        rw [e1]
        clear e1 e2
        obtain ⟨q, c, hv, hrow⟩ := SRow.of_own Hown.out
        injection hv with hv1 hv2 hv3
        subst hv1 hv3
        have Hrow := Lib.hid hrow
        clear Hown hv2 hrow
        by_cases hz : x >>> sumW ws = 0
        · obtain ⟨E, V⟩ := unp_ok hf hz
          have ht : (((shrN x (sumW ws) : Nat) : Int) != 0) = false := by unfold shrN; rw [hz]; rfl
          clear hz
          go_wp2
          go_ret2
          rw [V.out, E.out]
          exact ⟨⟨_, _, _, rfl, Hrow.out⟩, below_of_alloc hb⟩
        · obtain ⟨E, V⟩ := unp_bad hf hz
          have ht : (((shrN x (sumW ws) : Nat) : Int) != 0) = true := by unfold shrN; rw [bne_iff_ne]; omega
          clear hz
          go_wp2
          go_ret2
          rw [V.out, E.out]
          exact ⟨RetS.nil _ _, below_of_alloc hb⟩
  · obtain ⟨E, V⟩ := unp_no (x := x) hf
    clear hr1
    go_enter Tryd.func16, Tryd.ntmps16
    go_wp2_with (refine hfit.out.mono ?_; rintro e w' ⟨rfl, rfl⟩)
    go_ret2
    rw [V.out, E.out]
    exact ⟨RetS.nil _ _, (Below.refl _ _).alloc (Nat.le_refl _) _⟩
end Go.Proofs.YtpfbofcofhcfpaaDoor
