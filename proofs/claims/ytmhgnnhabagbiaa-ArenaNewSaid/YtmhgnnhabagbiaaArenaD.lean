/- The laws of layer 2 over arguments as they are read. -/
import Derived.Test.YtmhgnnhabagbiaaArenaK
namespace Go.Proofs.Ytmhgnnhabagbiaa
open Go.RowKit
section
variable {H : Type} {enc : TypeId × Value → H} {w : World} {spare : Nat → Bool} {held : Bool}
theorem open_words {p : Option Addr} {n cap : Nat} {d : DataW H} {pl : List MemPlace} (h : DataW.Trod enc Try.prog w 0 spare held 22 (.slice p n cap) d pl) : ∃ xs : List Int, SRow w .u64 p n cap xs := by
  obtain ⟨xs, h1, _⟩ := open_srow Try.underlying22 Try.underlying23 (by kernel_rfl) h
  exact ⟨xs, h1⟩
theorem u64_bd {x : Int} (h : (Lit.int .u64 x).wf = true) : 0 ≤ x ∧ x < 18446744073709551616 := by
  obtain ⟨n, rfl, hn⟩ := u64_of_wf h; omega
theorem lawNewD {n a : Int} {p : Option Addr} {len cap : Nat} {d : DataW H} {pl : List MemPlace} (h : DataW.Trod enc Try.prog w 0 spare held 22 (.slice p len cap) d pl) (ha : (Lit.int .u64 a).wf = true) :
    Calls Try.prog 3 #[.int .i64 n, .slice p len cap, .int .u64 a] w fun e w' => e = .returned (.bool true) ∧ Below w.heap.size w w' := by
  obtain ⟨xs, hr⟩ := open_words h
  exact lawNew n p len cap xs a w hr (u64_bd ha).1 (u64_bd ha).2
theorem lawWordsD {a v : Int} {p : Option Addr} {len cap : Nat} {d : DataW H} {pl : List MemPlace} (h : DataW.Trod enc Try.prog w 0 spare held 22 (.slice p len cap) d pl) (ha : (Lit.int .u64 a).wf = true) :
    Calls Try.prog 4 #[.slice p len cap, .int .u64 a, .int .u64 v] w fun e w' => e = .returned (.bool true) ∧ Below w.heap.size w w' := by
  obtain ⟨xs, hr⟩ := open_words h
  exact lawWords p len cap xs a v w hr (u64_bd ha).1 (u64_bd ha).2
theorem lawRangesD {t f k : Int} {p q : Option Addr} {n cap m c : Nat} {d d' : DataW H} {pl pl' : List MemPlace} (h : DataW.Trod enc Try.prog w 0 spare held 22 (.slice p n cap) d pl) (h' : DataW.Trod enc Try.prog w 0 spare held 22 (.slice q m c) d' pl')
    (ht : (Lit.int .u64 t).wf = true) (hf : (Lit.int .u64 f).wf = true) (hk : (Lit.int .i64 k).wf = true) :
    Calls Try.prog 5 #[.slice p n cap, .slice q m c, .int .u64 t, .int .u64 f, .int .i64 k] w fun e w' => e = .returned (.bool true) ∧ Below w.heap.size w w' := by
  obtain ⟨xs, hr⟩ := open_words h
  obtain ⟨l, hs⟩ := open_words h'
  exact lawRanges p q n cap m c xs l t f k w hr hs (u64_bd ht).1 (u64_bd ht).2 (u64_bd hf).1 (u64_bd hf).2 (i64_of_wf hk).2
theorem lawKeepsD {a o : Int} {p q : Option Addr} {n cap m c : Nat} {d d' : DataW H} {pl pl' : List MemPlace} (h : DataW.Trod enc Try.prog w 0 spare held 22 (.slice p n cap) d pl) (h' : DataW.Trod enc Try.prog w 0 spare held 22 (.slice q m c) d' pl')
    (ha : (Lit.int .u64 a).wf = true) :
    Calls Try.prog 6 #[.slice p n cap, .slice q m c, .int .u64 a, .int .i64 o] w fun e w' => e = .returned (.bool true) ∧ Below w.heap.size w w' := by
  obtain ⟨xs, hr⟩ := open_words h
  obtain ⟨l, hs⟩ := open_words h'
  exact lawKeeps p q n cap m c xs l a o w hr hs (u64_bd ha).1 (u64_bd ha).2
theorem lawMovesD {t f k : Int} {p : Option Addr} {n cap : Nat} {d : DataW H} {pl : List MemPlace} (h : DataW.Trod enc Try.prog w 0 spare held 22 (.slice p n cap) d pl)
    (ht : (Lit.int .u64 t).wf = true) (hf : (Lit.int .u64 f).wf = true) (hk : (Lit.int .i64 k).wf = true) :
    Calls Try.prog 7 #[.slice p n cap, .int .u64 t, .int .u64 f, .int .i64 k] w fun e w' => e = .returned (.bool true) ∧ Below w.heap.size w w' := by
  obtain ⟨xs, hr⟩ := open_words h
  exact lawMoves p n cap xs t f k w hr (u64_bd ht).1 (u64_bd ht).2 (u64_bd hf).1 (u64_bd hf).2 (i64_of_wf hk).2
end
end Go.Proofs.Ytmhgnnhabagbiaa
