/- Contract of the law's helper fields; the law BitsPacks walked. -/
import Derived.Test.YtmnfcepdmjondaaBitsF
import Derived.StillTactics
import Derived.OwnWalk
import Derived.Laws.Pointers
import Derived.Deep.RegionHeld3
import Derived.Deep.AppendLies
namespace Go.Proofs.Ytmnfcepdmjondaa
open Go.RowKit

theorem infoField : (Try.prog.info? 47).map (fun i => (i.zero, i.size, i.bytes)) = some (some (.agg #[.int .i64 0, .int .u64 0]), 2, 16) := by kernel_rfl

def fvals (fs : List (Int × Nat)) : List Value := fs.flatMap fun f => [.int .i64 f.1, .int .u64 f.2]
theorem fvals_snoc (fs : List (Int × Nat)) (x : Int × Nat) : fvals fs ++ [.int .i64 x.1, .int .u64 x.2] = fvals (fs ++ [x]) := by simp [fvals]
theorem fvals_len (fs : List (Int × Nat)) : (fvals fs).length = fs.length * 2 := by
  induction fs with
  | nil => rfl
  | cons f r ih => simp [fvals] at *; omega
theorem fvals_get (fs : List (Int × Nat)) : ∀ (i : Nat) (x : Int × Nat), fs[i]? = some x → (fvals fs)[i * 2]? = some (.int .i64 x.1) ∧ (fvals fs)[i * 2 + 1]? = some (.int .u64 x.2) := by
  induction fs with
  | nil => intro i x h; simp at h
  | cons f r ih =>
    intro i x h
    have e : fvals (f :: r) = .int .i64 f.1 :: .int .u64 f.2 :: fvals r := by simp [fvals]
    rw [e]
    cases i with
    | zero => simp at h; subst h; simp
    | succ i =>
      rw [List.getElem?_cons_succ] at h
      have := ih i x h
      rw [show (i + 1) * 2 = i * 2 + 1 + 1 from by omega]
      simpa using this

theorem FRow.of_own {w : World} {base n : Nat} {e : TypeId} {v : Value} {fs : List (Int × Nat)} (h : w.ownsRow base e 2 v n (fvals fs)) : ∃ p cap, v = .slice p n cap ∧ fs.length = n ∧ FRow w p fs := by
  obtain ⟨hl, h2⟩ := h
  have hl' : fs.length = n := by rw [fvals_len] at hl; omega
  rcases h2 with ⟨rfl, hn⟩ | ⟨g, cap, cur, hv, hg, hh, hn, hc, hs, ht⟩
  · refine ⟨none, 0, by rw [hn], hl', fun i x hx => ?_⟩
    have := (List.getElem?_eq_some_iff.1 hx).1
    omega
  · refine ⟨some ⟨g, 0, none⟩, cap, hv, hl', fun i x hx => ⟨g, 0, rfl, ?_⟩⟩
    have hi := (List.getElem?_eq_some_iff.1 hx).1
    obtain ⟨h3, h4⟩ := fvals_get fs i x hx
    rw [← ht, List.getElem?_take, if_pos (by omega), Array.getElem?_toList] at h3 h4
    simp only [World.cell?, hh, Nat.zero_add]
    exact ⟨h3, h4⟩
theorem own_appendF {w1 : World} {base k : Nat} {e : TypeId} {v : Value} {ws : List (Int × Nat)} {x : Int × Nat} (h : w1.ownsRow base e 2 v (k + 1) (fvals (ws.take k) ++ [.int .i64 x.1, .int .u64 x.2])) (hx : ws[k]? = some x) : w1.ownsRow base e 2 v (k + 1) (fvals (ws.take (k + 1))) := by
  rw [take_snoc' hx, ← fvals_snoc]; exact h

theorem below_appendD {W wr w1 : World} {o : Obj} {v : Value} {k : Nat} {e : TypeId} {s : Nat} {xs : List Value} (hb : Below W.heap.size W wr) (hown : wr.ownsRow W.heap.size e s v k xs) (hg : (wr.alloc o).drew.grownBy w1 v.ownBlock) : Below W.heap.size W w1 :=
  (hb.alloc hb.size o).drew.grown hg (by have := hb.size; simp; omega) (fun j hj => (hown.lt j hj).1)

set_option maxHeartbeats 800000 in
theorem fields_any (p : Option Addr) (n cap : Nat) (fs : List (Int × Nat)) (w : World) (hlen : Hid (fs.length = n)) (hn : n ≤ 100000) (hr : FRow w p fs) :
    Calls Try.prog 17 #[.slice p n cap] w fun e w' => (∃ q c, e = .returned (.slice q n c) ∧ FRow w' q fs) ∧ Below w.heap.size w w' := by
  have hr1 := Lib.hid hr
  clear hr
  obtain ⟨i0, hi, hz0, hz1, hz2⟩ := info_parts infoField
  go_enter Try.func17, Try.ntmps17
  go_wp2
  go_loopw [3, 4] (fun v i wr => ∃ (k : Nat), k ≤ n ∧ wr.ownsRow w.heap.size 47 2 v k (fvals (fs.take k)) ∧ i = .int .i64 k ∧ Below w.heap.size w wr) (fun _ i _ => n - (intOf i).toNat)
  case atStart => exact ⟨0, by omega, World.ownsRow_nil _ _ _ _, rfl, Below.refl _ _⟩
  case round =>
    obtain ⟨k, hk, hown, rfl, hb⟩ := hrel
    have hsz := hb.size
    by_cases hlt : k < n
    · obtain ⟨x, hx⟩ : ∃ x, fs[k]? = some x := ⟨_, List.getElem?_eq_getElem (by rw [hlen.out]; exact hlt)⟩
      obtain ⟨b, off, rfl, d1, d2⟩ := hr1.out _ x hx
      have hbw := cell_lt d1
      have c1 := cell_keep hb d1
      have c2 := cell_keep hb d2
      have hne : u3.ownBlock ≠ some b := fun e => by have := (hown.lt b e).1; simp at hbw; omega
      have Hx := Lib.hid hx
      clear hx d1 d2
      have hk0 : (0 : Int) ≤ (k : Int) := Int.natCast_nonneg _
      have hlt2 : (k : Int) < n := by omega
      have lb := cell_lt c1
      go_wp2_with fail
      go_region_held3 (fun w' => w'.cell? ⟨b, off + k * 2, none⟩ = some (.int .i64 x.1) ∧ w'.cell? ⟨b, off + k * 2 + 1, none⟩ = some (.int .u64 x.2))
        (first
          | go_keep
          | (go_split_ands
             refine ⟨?_, ?_⟩
             · (rw [hgrow.cell_far _ (by simp; omega) (Ne.symm hne)]; assumption)
             · (rw [hgrow.cell_far _ (by simp; omega) (Ne.symm hne)]; assumption)))
        ((refine step_append_lies _ (by rfl) _ _ _ (by rfl) w.heap.size 47 i0 _ 2 16 Try.underlying35 hi hz0 hz1 hz2 rfl (by omega) u3 k (fvals (fs.take k)) (by rfl) ((hown.alloc _).drew)
            ⟨wr.heap.size, 0, none⟩ 1 1 [.int .i64 x.1, .int .u64 x.2] (by rfl) (by rfl) (World.news_of_block (cs := #[.int .i64 x.1, .int .u64 x.2]) (t := 47) (fr := (0, 0)) (heap_alloc_new wr _)) (by simp [Value.oneCell'])
            (by omega) (by unfold maxLen; omega) (by omega) (by simp; omega) (wr.heap.size + 1) (by simp) ?_; intro gg cap w1 hown1 hgrow hat hlt))
      have hb1 := below_appendD hb hown hgrow
      have hown2 := Lib.hid (own_appendF hown1 Hx.out)
      clear hown1 hgrow hown hat hlt
      go_wp2
      go_roundw
      case rel => exact ⟨k + 1, by omega, hown2.out, by go_num, hb1⟩
      case measure => simp [intOf]; omega
    · obtain rfl : n = k := by omega
      rw [List.take_of_length_le (by rw [hlen.out]; exact Nat.le_refl _)] at hown
      obtain ⟨q, c, rfl, _, hrow⟩ := FRow.of_own hown
      clear hown
      have hrow := Lib.hid hrow
      go_wp2
      go_ret
      exact ⟨⟨q, c, rfl, hrow.out⟩, hb⟩

set_option maxHeartbeats 800000 in
theorem lawPacks (p : Option Addr) (n cap : Nat) (fs : List (Int × Nat)) (w : World) (hlen : Hid (fs.length = n)) (hn : (n : Int) ≤ 9223372036854775807) (hw : Hid (∀ x ∈ fs, x.2 < 18446744073709551616)) (hr : FRow w p fs) :
    Calls Try.prog 6 #[.slice p n cap] w fun e w' => e = .returned (.bool true) ∧ Below w.heap.size w w' := by
  have hr1 := Lib.hid hr
  clear hr
  by_cases hlt : (100 : Int) < n
  · go_enter Try.func6, Try.ntmps6
    go_wp2
    go_ret
    exact ⟨rfl, Below.refl _ _⟩
  · have hn2 : n ≤ 100000 := by omega
    go_enter Try.func6, Try.ntmps6
    go_wp2_with fail
    refine (fields_any p n cap fs _ hlen hn2 hr1.out).mono ?_
    rintro e w1 ⟨⟨q, c, rfl, hq⟩, hb1⟩
    go_wp2_with fail
    refine (pack_any q n c fs _ hlen hn hq).mono ?_
    rintro e w2 ⟨rfl, hb2⟩
    have hb12 := hb1.trans (hb2.mono hb1.size)
    have hr2 := Lib.hid (hr1.out.keep hb12)
    go_wp2_with fail
    refine (refPack_any p n cap fs _ hlen hn2 hw hr2.out).mono ?_
    rintro e w3 ⟨rfl, hb3⟩
    have hb13 := hb12.trans (hb3.mono hb12.size)
    go_wp2_with fail
    refine (awake_any _).mono ?_
    rintro e w4 ⟨rfl, hb4⟩
    have hb14 := hb13.trans (hb4.mono hb13.size)
    go_wp2
    go_ret
    exact ⟨rfl, hb14⟩
end Go.Proofs.Ytmnfcepdmjondaa
