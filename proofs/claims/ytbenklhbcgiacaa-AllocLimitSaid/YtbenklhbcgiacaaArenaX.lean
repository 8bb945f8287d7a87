/- Contracts of the references of layer 2 but New: span, Index, Load, Read, Write, Store, Move; for every seat that calls them. -/
import Derived.Test.YtbenklhbcgiacaaArenaM
namespace Go.Proofs.Ytbenklhbcgiacaa
open Go.RowKit

theorem ret_ib {k : IntKind} {x y : Int} {a b : Bool} (h1 : x = y) (h2 : a = b) : Ending.returned (.tuple #[.int k x, .bool a]) = .returned (.tuple #[.int k y, .bool b]) := by rw [h1, h2]

def SpanNo (w : World) (e : Ending) (w' : World) : Prop := ∃ i : Int, e = .returned (.tuple #[.int .i64 i, .bool false]) ∧ w = w'
theorem lit_row (w : World) (T : TypeId) (base : Nat) (hb : base ≤ w.heap.size) : (w.alloc (.cells #[] T)).ownsRow base T 1 (.slice (some ⟨w.heap.size, 0, none⟩) 0 0) 0 [] :=
  World.ownsRow_lit w #[] 0 hb (Nat.zero_le _) rfl

theorem own_set {w : World} {base g n cap : Nat} {e : TypeId} {xs : List Int} (h : w.ownsRow base e 1 (.slice (some ⟨g, 0, none⟩) n cap) n (ivals .u64 xs)) (j : Nat) (u : Int) :
    (w.setCell ⟨g, j, none⟩ (.int .u64 u)).ownsRow base e 1 (.slice (some ⟨g, 0, none⟩) n cap) n (ivals .u64 (xs.set j u)) := by
  have h1 := (h.stored j (.int .u64 u)).1
  rw [ivals_set] at h1; exact h1
theorem own_form {w : World} {base n : Nat} {e : TypeId} {v : Value} {xs : List Value} (h : w.ownsRow base e 1 v n xs) : ∃ q cap, v = .slice q n cap ∧ (0 < n → ∃ g, q = some ⟨g, 0, none⟩ ∧ base ≤ g) := by
  rcases h.2 with ⟨rfl, h0⟩ | ⟨g, cap', cur, hv, hg, _⟩
  · subst h0; exact ⟨none, 0, rfl, fun h => by omega⟩
  · exact ⟨_, _, hv, fun _ => ⟨g, rfl, hg⟩⟩

/-- The words behind k rounds of the reference's Write. -/
def wrow (xs l : List Int) (i k : Nat) : List Int := splice xs i (l.take k)
theorem wrow_len {xs l : List Int} {i k : Nat} (h : i + l.length ≤ xs.length) : (wrow xs l i k).length = xs.length := by
  unfold wrow; rw [splice_len (by rw [List.length_take]; omega)]
theorem wrow_zero (xs l : List Int) (i : Nat) : wrow xs l i 0 = xs := by unfold wrow splice; simp
theorem wrow_end {xs l : List Int} {i k : Nat} (h : l.length ≤ k) : wrow xs l i k = splice xs i l := by unfold wrow; rw [List.take_of_length_le h]
theorem wrow_set {xs l : List Int} {i k : Nat} {x : Int} (h : i + l.length ≤ xs.length) (hx : l[k]? = some x) : (wrow xs l i k).set (i + k) x = wrow xs l i (k + 1) := by
  have hk := (List.getElem?_eq_some_iff.1 hx).1
  apply List.ext_getElem?
  intro j
  have hl1 : (l.take k).length = k := by rw [List.length_take]; omega
  have hl2 : (l.take (k + 1)).length = k + 1 := by rw [List.length_take]; omega
  rw [List.getElem?_set]
  by_cases h1 : i + k = j
  · subst h1
    rw [if_pos rfl, if_pos (by rw [wrow_len h]; omega)]
    unfold wrow
    rw [splice_in (by omega) (by omega) (by omega), List.getElem?_take, if_pos (by omega), show i + k - i = k from by omega, hx]
  · rw [if_neg h1]
    unfold wrow
    by_cases h2 : i ≤ j ∧ j < i + k
    · rw [splice_in (by omega) (by omega) (by omega), splice_in (by omega) (by omega) (by omega), List.getElem?_take, List.getElem?_take, if_pos (by omega), if_pos (by omega)]
    · rw [splice_out (by omega) (by omega), splice_out (by omega) (by omega)]

theorem one_row (w : World) (T : TypeId) (v : Int) : SRow (w.alloc (.cells #[.int .u64 v] T)) .u64 (some ⟨w.heap.size, 0, none⟩) 1 1 [v] :=
  ⟨rfl, Nat.le_refl _, by unfold maxLen; omega, fun i x hx => by
    match i with
    | 0 => simp at hx; subst hx; exact ⟨_, _, rfl, by simp⟩
    | i + 1 => simp at hx⟩


/-- Move by way of Read and Write. -/
theorem read_then {xs : List Int} {t f m : Int} : (readE xs f m = 0 → moveV xs t f m = writeV xs t (readV xs f m) ∧ moveE xs t f m = writeE xs t (readV xs f m)) ∧ (readE xs f m ≠ 0 → moveV xs t f m = [] ∧ moveE xs t f m = readE xs f m) := by
  by_cases h1 : m < 0
  · obtain ⟨e1, e2⟩ := read_arg (xs := xs) (a := f) h1
    obtain ⟨e3, e4⟩ := move_arg (xs := xs) (t := t) (f := f) h1
    rw [e2]
    exact ⟨fun h => by omega, fun _ => ⟨e3, e4⟩⟩
  · obtain ⟨k, rfl⟩ : ∃ k : Nat, m = k := ⟨m.toNat, by omega⟩
    rcases okA_cases xs.length f k with ⟨j, rfl, hj, hk⟩ | ⟨hk, hj⟩
    · obtain ⟨e1, e2⟩ := read_ok hk
      rw [e1, e2]
      refine ⟨fun _ => ?_, fun h => by omega⟩
      have hl : ((xs.drop j).take k).length = k := by rw [List.length_take, List.length_drop]; omega
      rcases okA_cases xs.length t k with ⟨i, rfl, hi, hk2⟩ | ⟨hk2, hi⟩
      · obtain ⟨e3, e4⟩ := move_ok hk2 hk
        obtain ⟨e5, e6⟩ := write_ok (xs := xs) (l := (xs.drop j).take k) (i := i) (by rw [hl]; exact hk2)
        rw [e3, e4, e5, e6]; exact ⟨rfl, rfl⟩
      · obtain ⟨e3, e4⟩ := move_no (xs := xs) (t := t) (f := 4096 + (j : Int)) (n := k) (Or.inl hk2)
        obtain ⟨e5, e6⟩ := write_no (xs := xs) (l := (xs.drop j).take k) (a := t) (by rw [hl]; exact hk2)
        rw [e3, e4, e5, e6]; exact ⟨rfl, rfl⟩
    · obtain ⟨e1, e2⟩ := read_no hk
      obtain ⟨e3, e4⟩ := move_no (xs := xs) (t := t) (f := f) (n := k) (Or.inr hk)
      rw [e2]
      exact ⟨fun h => by omega, fun _ => ⟨e3, e4⟩⟩

theorem readV_len (xs : List Int) (a m : Int) : (readV xs a m).length ≤ xs.length := by
  unfold readV
  by_cases h1 : m < 0
  · rw [if_pos h1]; exact Nat.zero_le _
  · rw [if_neg h1]
    by_cases h2 : okA xs.length a m.toNat = true
    · rw [if_pos h2, List.length_take, List.length_drop]; omega
    · rw [if_neg h2]; exact Nat.zero_le _

end Go.Proofs.Ytbenklhbcgiacaa
