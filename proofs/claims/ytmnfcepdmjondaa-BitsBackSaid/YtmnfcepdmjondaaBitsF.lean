/- Contract of the reference's Pack. -/
import Derived.Test.YtmnfcepdmjondaaBitsE
namespace Go.Proofs.Ytmnfcepdmjondaa
open Go.RowKit

theorem infoInt : (Try.prog.info? 3).map (fun i => (i.zero, i.size, i.bytes)) = some (some (.int .i64 0), 1, 8) := by kernel_rfl
theorem infoU64 : (Try.prog.info? 23).map (fun i => (i.zero, i.size, i.bytes)) = some (some (.int .u64 0), 1, 8) := by kernel_rfl

theorem packR_snoc (l : List (Int × Nat)) (f : Int × Nat) : packR (l ++ [f]) = packR l ||| f.2 <<< sumW (l.map (·.1)) := by
  induction l with
  | nil => simp [packR, sumW]
  | cons g l ih =>
    rw [List.cons_append, packR, ih, packR, List.map_cons, sumW, Nat.shiftLeft_or_distrib, ← Nat.shiftLeft_add, Nat.or_assoc, Nat.or_assoc, Nat.or_comm g.2, Nat.add_comm]
theorem sumW_snoc (l : List Int) (x : Int) : sumW (l ++ [x]) = sumW l + x.toNat := by
  induction l with
  | nil => simp [sumW]
  | cons g l ih => rw [List.cons_append, sumW, ih, sumW]; omega
theorem sumW_take (k : Nat) (ws : List Int) : sumW (ws.take k) + sumW (ws.drop k) = sumW ws := by
  induction k generalizing ws with
  | zero => simp [sumW]
  | succ k ih =>
    cases ws with
    | nil => simp [sumW]
    | cons x r => have := ih r; rw [List.take_succ_cons, List.drop_succ_cons, sumW, sumW]; omega
theorem okF_take {fs : List (Int × Nat)} (h : okF fs = true) (k : Nat) : okF (fs.take k) = true := by
  unfold okF at *; rw [List.all_eq_true] at *; exact fun x hx => h x (List.mem_of_mem_take hx)
theorem take_snoc' {α : Type} {l : List α} {k : Nat} {x : α} (h : l[k]? = some x) : l.take (k + 1) = l.take k ++ [x] := by
  rw [List.take_add_one, h]; rfl
theorem okF_snoc {l : List (Int × Nat)} {x : Int × Nat} (h : okF l = true) (hv : (x.2 : Int) ≤ onesV x.1) : okF (l ++ [x]) = true := by
  unfold okF at *; rw [List.all_append, h]; simpa using hv

/-- The sum of the first k widths. -/
def sumT (fs : List (Int × Nat)) (k : Nat) : Nat := sumW ((fs.take k).map (·.1))
/-- One round of the reference's Pack. -/
theorem rpack_step {fs : List (Int × Nat)} {i : Nat} {x : Int × Nat} (hx : fs[i]? = some x) (hf : fitL 64 (fs.map (·.1)) = true) (hok : okF (fs.take i) = true) (hv : (x.2 : Int) ≤ onesV x.1) :
    1 ≤ x.1 ∧ x.1 ≤ 64 ∧ sumT fs i + x.1.toNat ≤ 64 ∧ okF (fs.take (i + 1)) = true ∧ sumT fs (i + 1) = sumT fs i + x.1.toNat ∧
    bits .or .u64 ((packR (fs.take i) : Nat) : Int) (IntKind.u64.wrap ((x.2 : Int) * 2 ^ sumT fs i)) = ((packR (fs.take (i + 1)) : Nat) : Int) := by
  unfold sumT
  have hm : x.1 ∈ fs.map (·.1) := List.mem_map_of_mem (List.mem_of_getElem? hx)
  have hb := fitL_mem _ _ (by omega) hf x.1 hm
  have e : fs.take (i + 1) = fs.take i ++ [x] := take_snoc' hx
  have es : sumW ((fs.take (i + 1)).map (·.1)) = sumW ((fs.take i).map (·.1)) + x.1.toNat := by rw [e, List.map_append, List.map_cons, List.map_nil, sumW_snoc]
  have hsum : sumW ((fs.take i).map (·.1)) + x.1.toNat ≤ 64 := by
    rw [← es, List.map_take]
    have h1 := sumW_take (i + 1) (fs.map (·.1))
    have h2 := fitL_sum _ _ (by omega) hf
    omega
  have hall : ∀ y ∈ (fs.take i).map (·.1), 1 ≤ y ∧ y ≤ 64 := fun y hy => fitL_mem _ _ (by omega) hf y (by rw [List.map_take] at hy; exact List.mem_of_mem_take hy)
  have hl := packR_lt _ hok hall
  have h2 := lt_pow_of_ones hb.2 hv
  refine ⟨hb.1, hb.2, hsum, by rw [e]; exact okF_snoc hok hv, es, ?_⟩
  rw [e, packR_snoc]
  generalize sumW ((fs.take i).map (·.1)) = s at *
  have h3 : x.2 <<< s < 2 ^ (x.1.toNat + s) := by
    rw [Nat.shiftLeft_eq, Nat.pow_add]; exact Nat.mul_lt_mul_of_pos_right h2 (pow_pos2 s)
  have h4 : (2 : Nat) ^ (x.1.toNat + s) ≤ 18446744073709551616 := pow_le64 _ (by omega)
  have h5 : (2 : Nat) ^ s ≤ 18446744073709551616 := pow_le64 _ (by omega)
  rw [IntKind.wrap_u64, ← ipow_cast, ← Int.natCast_mul, ← Nat.shiftLeft_eq]
  generalize x.2 <<< s = t at *
  have e2 : (t : Int) % 18446744073709551616 = (t : Int) := by omega
  rw [e2]
  exact u64_or_nat _ _ (by omega) (by omega)

/-- Numbers as values. -/
def ivals (kd : IntKind) (xs : List Int) : List Value := xs.map (Value.int kd)
theorem ivals_snoc (kd : IntKind) (xs : List Int) (x : Int) : ivals kd xs ++ [.int kd x] = ivals kd (xs ++ [x]) := by simp [ivals]

/-- An owned row of numbers reads as them. -/
theorem IRow.of_own {w : World} {kd : IntKind} {base n : Nat} {e : TypeId} {v : Value} {xs : List Int} (h : w.ownsRow base e 1 v n (ivals kd xs)) : ∃ p cap, v = .slice p n cap ∧ xs.length = n ∧ IRow w kd p xs := by
  obtain ⟨hl, h2⟩ := h
  have hl' : xs.length = n := by simp only [ivals, List.length_map] at hl; omega
  rcases h2 with ⟨rfl, hn⟩ | ⟨g, cap, cur, hv, hg, hh, hn, hc, hs, ht⟩
  · refine ⟨none, 0, by rw [hn], hl', fun i x hx => ?_⟩
    have := (List.getElem?_eq_some_iff.1 hx).1
    omega
  · refine ⟨some ⟨g, 0, none⟩, cap, hv, hl', fun i x hx => ⟨g, 0, rfl, ?_⟩⟩
    have hi := (List.getElem?_eq_some_iff.1 hx).1
    have h3 : (ivals kd xs)[i]? = some (.int kd x) := by rw [ivals, List.getElem?_map, hx]; rfl
    rw [← ht, List.getElem?_take, if_pos (by omega), Array.getElem?_toList] at h3
    simp only [World.cell?, hh, Nat.zero_add]
    exact h3
theorem own_append {w1 : World} {base k : Nat} {e : TypeId} {kd : IntKind} {v : Value} {ws : List Int} {x : Int} (h : w1.ownsRow base e 1 v (k + 1) (ivals kd (ws.take k) ++ [.int kd x])) (hx : ws[k]? = some x) : w1.ownsRow base e 1 v (k + 1) (ivals kd (ws.take (k + 1))) := by
  rw [take_snoc' hx, ← ivals_snoc]; exact h
/-- Behind an append to a row of the call's own: below the call's first block nothing has changed. -/
theorem below_append {W wr w1 : World} {o : Obj} {v : Value} {k : Nat} {e : TypeId} {s : Nat} {xs : List Value} (hb : Below W.heap.size W wr) (hown : wr.ownsRow W.heap.size e s v k xs) (hg : (wr.alloc o).grownBy w1 v.ownBlock) : Below W.heap.size W w1 :=
  (hb.alloc hb.size o).grown hg (by have := hb.size; simp; omega) (fun j hj => (hown.lt j hj).1)

/-- w' is w but for draws. -/
def Drawn (w w' : World) : Prop := ∃ d, w' = w.drewN d
theorem Drawn.refl (w : World) : Drawn w w := ⟨0, rfl⟩
theorem Drawn.step {w w' : World} (h : Drawn w w') (n : Nat) : Drawn w (w'.drewN n) := by
  obtain ⟨d, rfl⟩ := h; exact ⟨_, World.drewN_drewN _ _ _⟩
theorem Drawn.below {w w' : World} (h : Drawn w w') (B : Nat) : Below B w w' := by
  obtain ⟨d, rfl⟩ := h; exact below_drewN (Below.refl _ _) _

set_option maxHeartbeats 800000 in
theorem refPack_any (p : Option Addr) (n cap : Nat) (fs : List (Int × Nat)) (w : World) (hlen : Hid (fs.length = n)) (hn : n ≤ 100000) (hw : Hid (∀ x ∈ fs, x.2 < 18446744073709551616)) (hr : FRow w p fs) :
    Calls Try.prog 18 #[.slice p n cap] w fun e w' => e = .returned (.tuple #[.int .u64 (packB fs).1, .int .i64 (packB fs).2]) ∧ Below w.heap.size w w' := by
  have hr1 := Lib.hid hr
  clear hr
  obtain ⟨i0, hi, hz0, hz1, hz2⟩ := info_parts infoInt
  obtain ⟨ws, hws⟩ : ∃ ws, Hid (ws = fs.map (·.1)) := ⟨_, rfl⟩
  go_enter Try.func18, Try.ntmps18
  go_wp2
  go_loopw [4, 5] (fun v i wr => ∃ (k : Nat), k ≤ n ∧ wr.ownsRow w.heap.size 3 1 v k (ivals .i64 (ws.take k)) ∧ i = .int .i64 k ∧ Below w.heap.size w wr) (fun _ i _ => n - (intOf i).toNat)
  case atStart => exact ⟨0, by omega, World.ownsRow_nil _ _ _ _, rfl, Below.refl _ _⟩
  case round =>
    obtain ⟨k, hk, hown, rfl, hb⟩ := hrel
    have hsz := hb.size
    by_cases hlt : k < n
    · obtain ⟨x, hx⟩ : ∃ x, fs[k]? = some x := ⟨_, List.getElem?_eq_getElem (by rw [hlen.out]; exact hlt)⟩
      obtain ⟨b, off, rfl, c1, c2⟩ := hr1.out.keep hb _ x hx
      have Hx := Lib.hid (show ws[k]? = some x.1 by rw [hws.out, List.getElem?_map, hx]; rfl)
      clear hx
      go_wp2_with (at_builtin; refine wpList_append_own _ rfl _ _ 39 rfl w.heap.size 3 i0 (.int .i64 0) 1 8 Try.underlying39 hi hz0 hz1 hz2 rfl (by decide) _ _ _ rfl (hown.alloc _) ⟨wr.heap.size, 0, none⟩ 1 1 [.int .i64 x.1] rfl rfl ?c1 ?c2 ?c3 ?c4 ?c5 ?_)
      case c1 => exact cell_one_new _ _ _
      case c2 => simp [Value.oneCell']
      case c3 => unfold maxLen; omega
      case c4 => omega
      case c5 => simp; omega
      intro v' w1 hown1 hgrow1 _
      have hb1 := below_append hb hown hgrow1
      have hown2 := Lib.hid (own_append hown1 Hx.out)
      clear hown1 hgrow1 hown
      go_wp2
      go_roundw
      case rel => exact ⟨k + 1, by omega, hown2.out, by go_num, hb1⟩
      case measure => simp [intOf]; omega
    · obtain rfl : n = k := by omega
      rw [List.take_of_length_le (by rw [hws.out, List.length_map, hlen.out]; exact Nat.le_refl _)] at hown
      obtain ⟨q, c, rfl, _, hrow⟩ := IRow.of_own hown
      have Hp := Lib.hid (proper_any q n c ws wr (by rw [hws.out, List.length_map]; exact hlen.out) (by omega) hrow)
      rw [hws.out] at Hp
      clear hrow hown
      by_cases hf : fitL 64 (fs.map (·.1)) = true
      · go_wp2_with (refine Hp.out.mono ?_; rintro e w' ⟨rfl, rfl⟩)
        clear Hp
        have hr2 := Lib.hid (hr1.out.keep hb)
        obtain ⟨wo, rfl⟩ : ∃ wo : World, wo = wr := ⟨_, rfl⟩
        go_loopw [6, 7, 8] (fun a s i wq => ∃ (k : Nat), k ≤ n ∧ okF (fs.take k) = true ∧ a = .int .u64 ((packR (fs.take k) : Nat) : Int) ∧ s = .int .i64 ((sumT fs k : Nat) : Int) ∧ i = .int .i64 k ∧ Drawn wo wq) (fun _ _ i _ => n - (intOf i).toNat)
        case atStart => exact ⟨0, by omega, rfl, rfl, rfl, rfl, Drawn.refl _⟩
        case round =>
          obtain ⟨k, hk, hok, rfl, rfl, rfl, hd⟩ := hrel
          have Hok := Lib.hid hok
          clear hok
          by_cases hlt : k < n
          · obtain ⟨x, hx⟩ : ∃ x, fs[k]? = some x := ⟨_, List.getElem?_eq_getElem (by rw [hlen.out]; exact hlt)⟩
            obtain ⟨b, off, rfl, c1, c2⟩ := hr2.out.keep (hd.below _) _ x hx
            have Hx := Lib.hid hx
            clear hx
            by_cases hv : (x.2 : Int) ≤ onesV x.1
            · obtain ⟨s1, s2, s3, s4, s5, s6⟩ := rpack_step Hx.out hf Hok.out hv
              have S4 := Lib.hid s4
              have S6 := Lib.hid s6
              have S5 := Lib.hid s5
              have ht := and_test_fits (hw.out x (List.mem_of_getElem? Hx.out)) hv
              clear s4 s5 s6 hv
              go_wp2
              go_quiet ((go_at_call 11; exact Calls.quiet_of_same ((refOnes_any _ _).mono fun e w' h => ⟨h.1, h.2.symm⟩)))
              go_wp2
              go_roundw
              case rel => exact ⟨k + 1, by omega, S4.out, by rw [← S6.out], by rw [S5.out]; go_num, by go_num, hd.step _⟩
              case measure => simp [intOf]; omega
            · have E := Lib.hid (packB_bad hf (pack_bad Hx.out hv))
              have ht := and_test_not (hw.out x (List.mem_of_getElem? Hx.out)) hv
              clear hv
              go_wp2
              go_quiet ((go_at_call 11; exact Calls.quiet_of_same ((refOnes_any _ _).mono fun e w' h => ⟨h.1, h.2.symm⟩)))
              go_wp2
              go_ret2
              exact ⟨ret_u64i (by rw [E.out]), hb.trans ((hd.step _).below _)⟩
          · rw [List.take_of_length_le (by rw [hlen.out]; omega)] at Hok
            rw [List.take_of_length_le (by rw [hlen.out]; omega)]
            have E := Lib.hid (packB_ok hf Hok.out)
            go_wp2
            go_ret2
            exact ⟨ret_u64i (by rw [E.out]), hb.trans (hd.below _)⟩
      · have E := Lib.hid (packB_no hf)
        go_wp2_with (refine Hp.out.mono ?_; rintro e w' ⟨rfl, rfl⟩)
        go_ret2
        exact ⟨ret_u64i (by rw [E.out]), hb⟩
end Go.Proofs.Ytmnfcepdmjondaa
