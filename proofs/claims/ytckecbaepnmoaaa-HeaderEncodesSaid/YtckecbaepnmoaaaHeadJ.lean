/- The law HeaderPointers walked. -/
import Derived.Test.YtckecbaepnmoaaaHeadK
namespace Go.Proofs.Ytckecbaepnmoaaa
open Go.RowKit

/-- A boxed struct and a row of ints, kept through calls that make memory alone. -/
theorem held_keep2 {B : Nat} {w0 w w' : World} {x y z : Value} {q : Option Addr} {n c : Nat} {xs : List Int} (h : w.cell? ⟨B, 0, none⟩ = some x ∧ w.cell? ⟨B, 1, none⟩ = some y ∧ w.cell? ⟨B, 2, none⟩ = some z ∧ Below w0.heap.size w0 w ∧ SRow w .i64 q n c xs) (hb : Below w.heap.size w w') :
    w'.cell? ⟨B, 0, none⟩ = some x ∧ w'.cell? ⟨B, 1, none⟩ = some y ∧ w'.cell? ⟨B, 2, none⟩ = some z ∧ Below w0.heap.size w0 w' ∧ SRow w' .i64 q n c xs :=
  ⟨cell_keep hb h.1, cell_keep hb h.2.1, cell_keep hb h.2.2.1, bthen h.2.2.2.1 hb, h.2.2.2.2.keep hb⟩
theorem same_held {B : Nat} {w0 w : World} {x y z : Value} {p q : Option Addr} {n m c d : Nat} {xs : List Int} (h : w.cell? ⟨B, 0, none⟩ = some x ∧ w.cell? ⟨B, 1, none⟩ = some y ∧ w.cell? ⟨B, 2, none⟩ = some z ∧ Below w0.heap.size w0 w ∧ SRow w .i64 p n c xs) (hq : SRow w .i64 q m d xs) :
    Calls Try.prog 25 #[.slice p n c, .slice q m d] w fun e w' => e = .returned (.bool true) ∧ Below w.heap.size w w' :=
  sameI_eq p q n m c d xs w h.2.2.2.2 hq
theorem held_keep3 {B : Nat} {w0 w w' : World} {x y z u : Value} {a : Addr} {q : Option Addr} {n c : Nat} {xs : List Int} (h : w.cell? ⟨B, 0, none⟩ = some x ∧ w.cell? ⟨B, 1, none⟩ = some y ∧ w.cell? ⟨B, 2, none⟩ = some z ∧ w.cell? a = some u ∧ Below w0.heap.size w0 w ∧ SRow w .i64 q n c xs) (hb : Below w.heap.size w w') :
    w'.cell? ⟨B, 0, none⟩ = some x ∧ w'.cell? ⟨B, 1, none⟩ = some y ∧ w'.cell? ⟨B, 2, none⟩ = some z ∧ w'.cell? a = some u ∧ Below w0.heap.size w0 w' ∧ SRow w' .i64 q n c xs :=
  ⟨cell_keep hb h.1, cell_keep hb h.2.1, cell_keep hb h.2.2.1, cell_keep hb h.2.2.2.1, bthen h.2.2.2.2.1 hb, h.2.2.2.2.2.keep hb⟩

set_option maxHeartbeats 3200000 in
theorem lawPointers (k n m i : Int) (w : World) (hm0 : 0 ≤ m) (hm : m < 4294967296) :
    Calls Try.prog 8 #[.agg #[.int .i64 k, .int .i64 n, .int .u32 m], .int .i64 i] w fun e w' => e = .returned (.bool true) ∧ Below w.heap.size w w' := by
  have Hm := Lib.hid (And.intro hm0 hm)
  clear hm0 hm
  go_enter Try.func8, Try.ntmps8
  go_wp2_with fail
  refine (pointers_any k n m _ Hm.out.1 Hm.out.2).mono ?_
  rintro e w1 ⟨⟨q, len, c, rfl, hq⟩, hb1⟩
  have hw1 := below_boxed hb1
  obtain ⟨d0, d1, d2⟩ := box3 (by simpa using hb1)
  have Hq := Lib.hid hq
  have hl := hq.i63.2
  clear hb1 hq
  go_wp2_with fail
  go_region_held3 (fun w' => w'.cell? ⟨w.heap.size, 0, none⟩ = some (.int .i64 k) ∧ w'.cell? ⟨w.heap.size, 1, none⟩ = some (.int .i64 n) ∧ w'.cell? ⟨w.heap.size, 2, none⟩ = some (.int .u32 m) ∧ Below w.heap.size w w' ∧ SRow w' .i64 q len c (ptrsV k n m))
    (first | exact ⟨d0, d1, d2, hw1.drew, Hq.out.keep (Below.drew (Below.refl _ _))⟩ | (exact held_keep2 ‹_› hbq))
    (first
      | (go_at_call 21; refine (size_any k n m _ Hm.out.1 Hm.out.2).mono ?_; rintro e w' ⟨rfl, hbq⟩)
      | (go_at_call 22; refine (refSize_any k n m _ Hm.out.1 Hm.out.2).mono ?_; rintro e w' ⟨rfl, hbq⟩)
      | (go_at_call 23; refine (pointer_any k n m i _ Hm.out.1 Hm.out.2).mono ?_; rintro e w' ⟨rfl, hbq⟩)
      | (go_at_call 24; refine (refPointer_any k n m i _ Hm.out.1 Hm.out.2).mono ?_; rintro e w' ⟨rfl, hbq⟩)
      | (go_at_call 26; refine (refPointers_any k n m _ Hm.out.1 Hm.out.2).mono ?_; rintro e w' ⟨⟨q2, m2, c2, rfl, hq2⟩, hbq⟩)
      | (go_at_call 25; refine (same_held (B := w.heap.size) (w0 := w) (x := .int .i64 k) (y := .int .i64 n) (z := .int .u32 m) (xs := ptrsV k n m) ?_ ?_).mono ?_; (assumption); (assumption); rintro e w' ⟨rfl, hbq⟩))
  rename_i hH
  obtain ⟨g0, g1, g2, hB, hS⟩ := hH
  have HS := Lib.hid hS
  clear d0 d1 d2 hq2 hS
  go_wp2_with fail
  go_loopw [6] (fun u wr => ∃ j : Nat, j ≤ len ∧ u = .int .i64 j ∧ Below w'.heap.size w' wr) (fun u _ => len - (intOf u).toNat)
  case atStart => exact ⟨0, by omega, rfl, Below.refl _ _⟩
  case round =>
    obtain ⟨j, hj, rfl, hb⟩ := hrel
    have e0 := cell_keep hb g0
    have e1 := cell_keep hb g1
    have e2 := cell_keep hb g2
    have hB2 := bthen hB hb
    have HS2 := Lib.hid (HS.out.keep hb)
    by_cases hlt : j < len
    · obtain ⟨x, b, off, hx, rfl, d0⟩ := HS2.out.at_ hlt
      have hp := ptrsV_mem (List.mem_of_getElem? hx)
      have hc := Lib.hid (fun w => pointer_any k n m x w Hm.out.1 Hm.out.2)
      rw [hp] at hc
      have hlt2 : (j : Int) < len := by omega
      have hj0 : (0 : Int) ≤ j := Int.natCast_nonneg _
      clear hx hp g0 g1 g2
      go_wp2_with fail
      go_region_held3 (fun w' => w'.cell? ⟨w.heap.size, 0, none⟩ = some (.int .i64 k) ∧ w'.cell? ⟨w.heap.size, 1, none⟩ = some (.int .i64 n) ∧ w'.cell? ⟨w.heap.size, 2, none⟩ = some (.int .u32 m) ∧ w'.cell? ⟨b, off + j, none⟩ = some (.int .i64 x) ∧ Below wr.heap.size wr w' ∧ SRow w' .i64 (some ⟨b, off, none⟩) len c (ptrsV k n m))
        (first | exact ⟨e0, e1, e2, d0, Below.drew (Below.refl _ _), HS2.out.keep (Below.drew (Below.refl _ _))⟩ | (exact held_keep3 ‹_› hbq))
        (first
          | (go_at_call 23; refine (hc.out _).mono ?_; rintro e w' ⟨rfl, hbq⟩))
      rename_i hH
      have hB3 := bthen hb hH.2.2.2.2.1
      clear hH hc e0 e1 e2 d0
      go_wp2
      go_roundw
      case rel => exact ⟨j + 1, by omega, by go_num, hB3⟩
      case measure => simp [intOf]; omega
    · clear g0 g1 g2
      go_wp2_with fail
      refine (awake_any _).mono ?_
      rintro e w5 ⟨rfl, hb5⟩
      go_wp2
      go_ret
      exact ⟨rfl, bthen hB2 hb5⟩
end Go.Proofs.Ytckecbaepnmoaaa
