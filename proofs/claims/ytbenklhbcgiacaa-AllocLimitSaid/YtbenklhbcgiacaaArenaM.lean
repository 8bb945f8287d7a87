/- Plain mathematics of word memory: which ranges exist, and what Load, Store, Read, Write and Move answer. -/
import Derived.Test.YtbenklhbcgiacaaKit
namespace Go.Proofs.Ytbenklhbcgiacaa
open Go.RowKit

/-- The n words from address a on exist among len words. -/
def okA (len : Nat) (a : Int) (n : Nat) : Bool := decide (4096 ≤ a ∧ a - 4096 + n ≤ len)
theorem okA_cases (len : Nat) (a : Int) (n : Nat) : (∃ i : Nat, a = 4096 + (i : Int) ∧ i + n ≤ len ∧ okA len a n = true) ∨ (okA len a n = false ∧ (a < 4096 ∨ len < a - 4096 + n)) := by
  by_cases h : 4096 ≤ a ∧ a - 4096 + n ≤ len
  · left; exact ⟨(a - 4096).toNat, by omega, by omega, decide_eq_true h⟩
  · right; exact ⟨decide_eq_false h, by omega⟩
theorem okA_off (i : Nat) : ((4096 + (i : Int)) - 4096).toNat = i := by omega

def newV (n : Int) : List Int := if 0 ≤ n ∧ n ≤ 4096 then List.replicate n.toNat 0 else []
def newE (n : Int) : Int := if 0 ≤ n ∧ n ≤ 4096 then 0 else 1
def indexV (len : Nat) (a : Int) : Int := if okA len a 1 then a - 4096 else 0
def indexE (len : Nat) (a : Int) : Int := if okA len a 1 then 0 else 2
def loadV (xs : List Int) (a : Int) : Int := if okA xs.length a 1 then xs.getD (a - 4096).toNat 0 else 0
def loadE (xs : List Int) (a : Int) : Int := if okA xs.length a 1 then 0 else 2
def readV (xs : List Int) (a n : Int) : List Int := if n < 0 then [] else if okA xs.length a n.toNat then (xs.drop (a - 4096).toNat).take n.toNat else []
def readE (xs : List Int) (a n : Int) : Int := if n < 0 then 1 else if okA xs.length a n.toNat then 0 else 2
def writeV (xs : List Int) (a : Int) (l : List Int) : List Int := if okA xs.length a l.length then splice xs (a - 4096).toNat l else []
def writeE (xs : List Int) (a : Int) (l : List Int) : Int := if okA xs.length a l.length then 0 else 2
def moveV (xs : List Int) (t f n : Int) : List Int := if n < 0 then [] else if okA xs.length t n.toNat ∧ okA xs.length f n.toNat then splice xs (t - 4096).toNat ((xs.drop (f - 4096).toNat).take n.toNat) else []
def moveE (xs : List Int) (t f n : Int) : Int := if n < 0 then 1 else if okA xs.length t n.toNat ∧ okA xs.length f n.toNat then 0 else 2

theorem nneg (n : Nat) : ¬ ((n : Int) < 0) := by omega
theorem new_ok {k : Nat} (h : k ≤ 4096) : newV k = List.replicate k 0 ∧ newE k = 0 := by
  unfold newV newE; rw [if_pos (by omega), if_pos (by omega)]; exact ⟨rfl, rfl⟩
theorem new_no {n : Int} (h : ¬ (0 ≤ n ∧ n ≤ 4096)) : newV n = [] ∧ newE n = 1 := by
  unfold newV newE; rw [if_neg h, if_neg h]; exact ⟨rfl, rfl⟩
theorem index_ok {len i : Nat} (h : okA len (4096 + (i : Int)) 1 = true) : indexV len (4096 + (i : Int)) = i ∧ indexE len (4096 + (i : Int)) = 0 := by
  unfold indexV indexE; rw [if_pos h, if_pos h]; exact ⟨by omega, rfl⟩
theorem index_no {len : Nat} {a : Int} (h : okA len a 1 = false) : indexV len a = 0 ∧ indexE len a = 2 := by
  unfold indexV indexE; rw [if_neg (by simp [h]), if_neg (by simp [h])]; exact ⟨rfl, rfl⟩
theorem load_ok' {xs : List Int} {i : Nat} {x : Int} (h : okA xs.length (4096 + (i : Int)) 1 = true) (hx : xs[i]? = some x) : loadV xs (4096 + (i : Int)) = x ∧ loadE xs (4096 + (i : Int)) = 0 := by
  unfold loadV loadE; rw [if_pos h, if_pos h, okA_off, List.getD_eq_getElem?_getD, hx]; exact ⟨rfl, rfl⟩
theorem load_no' {xs : List Int} {a : Int} (h : okA xs.length a 1 = false) : loadV xs a = 0 ∧ loadE xs a = 2 := by
  unfold loadV loadE; rw [if_neg (by simp [h]), if_neg (by simp [h])]; exact ⟨rfl, rfl⟩
theorem read_arg {xs : List Int} {a n : Int} (h : n < 0) : readV xs a n = [] ∧ readE xs a n = 1 := by
  unfold readV readE; rw [if_pos h, if_pos h]; exact ⟨rfl, rfl⟩
theorem read_ok {xs : List Int} {i n : Nat} (h : okA xs.length (4096 + (i : Int)) n = true) : readV xs (4096 + (i : Int)) n = (xs.drop i).take n ∧ readE xs (4096 + (i : Int)) n = 0 := by
  unfold readV readE; rw [if_neg (nneg n), if_neg (nneg n), Int.toNat_natCast, if_pos h, if_pos h, okA_off]; exact ⟨rfl, rfl⟩
theorem read_no {xs : List Int} {a : Int} {n : Nat} (h : okA xs.length a n = false) : readV xs a n = [] ∧ readE xs a n = 2 := by
  unfold readV readE; rw [if_neg (nneg n), if_neg (nneg n), Int.toNat_natCast, if_neg (by simp [h]), if_neg (by simp [h])]; exact ⟨rfl, rfl⟩
theorem write_ok {xs l : List Int} {i : Nat} (h : okA xs.length (4096 + (i : Int)) l.length = true) : writeV xs (4096 + (i : Int)) l = splice xs i l ∧ writeE xs (4096 + (i : Int)) l = 0 := by
  unfold writeV writeE; rw [if_pos h, if_pos h, okA_off]; exact ⟨rfl, rfl⟩
theorem write_no {xs l : List Int} {a : Int} (h : okA xs.length a l.length = false) : writeV xs a l = [] ∧ writeE xs a l = 2 := by
  unfold writeV writeE; rw [if_neg (by simp [h]), if_neg (by simp [h])]; exact ⟨rfl, rfl⟩
theorem move_arg {xs : List Int} {t f n : Int} (h : n < 0) : moveV xs t f n = [] ∧ moveE xs t f n = 1 := by
  unfold moveV moveE; rw [if_pos h, if_pos h]; exact ⟨rfl, rfl⟩
theorem move_ok {xs : List Int} {i j n : Nat} (h : okA xs.length (4096 + (i : Int)) n = true) (h2 : okA xs.length (4096 + (j : Int)) n = true) :
    moveV xs (4096 + (i : Int)) (4096 + (j : Int)) n = splice xs i ((xs.drop j).take n) ∧ moveE xs (4096 + (i : Int)) (4096 + (j : Int)) n = 0 := by
  unfold moveV moveE; rw [if_neg (nneg n), if_neg (nneg n), Int.toNat_natCast, if_pos ⟨h, h2⟩, if_pos ⟨h, h2⟩, okA_off, okA_off]; exact ⟨rfl, rfl⟩
theorem move_no {xs : List Int} {t f : Int} {n : Nat} (h : okA xs.length t n = false ∨ okA xs.length f n = false) : moveV xs t f n = [] ∧ moveE xs t f n = 2 := by
  have h2 : ¬ (okA xs.length t n = true ∧ okA xs.length f n = true) := by rcases h with h | h <;> simp [h]
  unfold moveV moveE; rw [if_neg (nneg n), if_neg (nneg n), Int.toNat_natCast, if_neg h2, if_neg h2]; exact ⟨rfl, rfl⟩

theorem splice_len {xs l : List Int} {i : Nat} (h : i + l.length ≤ xs.length) : (splice xs i l).length = xs.length := length_splice xs i l h
theorem splice_in {xs l : List Int} {i j : Nat} (h : i + l.length ≤ xs.length) (h1 : i ≤ j) (h2 : j < i + l.length) : (splice xs i l)[j]? = l[j - i]? := by
  unfold splice
  have e : (xs.take i).length = i := by rw [List.length_take]; omega
  rw [List.getElem?_append_right (by omega), e, List.getElem?_append_left (by omega)]
theorem splice_out {xs l : List Int} {i j : Nat} (h : i + l.length ≤ xs.length) (h1 : j < i ∨ i + l.length ≤ j) : (splice xs i l)[j]? = xs[j]? := by
  unfold splice
  have e : (xs.take i).length = i := by rw [List.length_take]; omega
  rcases h1 with h1 | h1
  · rw [List.getElem?_append_left (by omega), List.getElem?_take, if_pos h1]
  · rw [List.getElem?_append_right (by omega), e, List.getElem?_append_right (by omega), List.getElem?_drop]
    congr 1; omega

/-- A call returned a slice over a whole new block that is just xs. -/
def DupRet (T : TypeId) (xs : List Int) (n : Nat) (w : World) (e : Ending) (w' : World) : Prop := ∃ g, e = .returned (.slice (some ⟨g, 0, none⟩) n n) ∧ w.heap.size ≤ g ∧ Blk w' g T .u64 xs ∧ Below w.heap.size w w'
end Go.Proofs.Ytbenklhbcgiacaa
