/- Layer 15: rows of one's own, tables in memory that a call made, a table taken apart. -/
import Derived.Test.YtggaaobpaodigaaSlN
import Derived.Test.YtggaaobpaodigaaSlA
set_option linter.unusedVariables false
namespace Go.Proofs.Ytggaaobpaodigaa
open Go.RowKit

theorem formS {w : World} {B T s n : Nat} {v : Value} {vs : List Value} (h : w.ownsRow B T s v n vs) : ∃ q c, v = .slice q n c := by
  rcases h.2 with ⟨rfl, rfl⟩ | ⟨g, c, _, rfl, _⟩
  · exact ⟨none, 0, rfl⟩
  · exact ⟨_, c, rfl⟩
theorem noneS (w : World) (e : TypeId) (s : Nat) : (w.alloc (.cells #[] e)).ownsRow w.heap.size e s (.slice (some ⟨w.heap.size, 0, none⟩) 0 0) 0 [] :=
  ⟨by simp, .inr ⟨w.heap.size, 0, #[], rfl, Nat.le_refl _, heap_alloc_new w _, Nat.le_refl _, Nat.zero_le _, by simp, by simp⟩⟩
theorem cellS {w : World} {B e s n : Nat} {v : Value} {xs : List Value} (h : w.ownsRow B e s v n xs) (a : Addr) (x : Value) (hne : v.ownBlock ≠ some a.block) : (w.setCell a x).ownsRow B e s v n xs := by
  refine ⟨h.1, ?_⟩
  rcases h.2 with hn | ⟨g, cap, cur, rfl, hg, hh, rest⟩
  · exact .inl hn
  · exact .inr ⟨g, cap, cur, rfl, hg, by rw [Below.heap_setCell _ _ _ _ (fun e => hne (by simp [Value.ownBlock, e]))]; exact hh, rest⟩
theorem lowerS {w : World} {B B' e s n : Nat} {v : Value} {xs : List Value} (h : w.ownsRow B e s v n xs) (hb : B' ≤ B) : w.ownsRow B' e s v n xs := by
  refine ⟨h.1, ?_⟩
  rcases h.2 with hn | ⟨g, cap, cur, he, hg, rest⟩
  · exact .inl hn
  · exact .inr ⟨g, cap, cur, he, by omega, rest⟩
theorem grownS {w w' : World} {B e s n : Nat} {v : Value} {xs : List Value} {row : Option Nat} (h : w.ownsRow B e s v n xs) (hg : w.grownBy w' row) (hne : v.ownBlock = none ∨ v.ownBlock ≠ row) : w'.ownsRow B e s v n xs := by
  refine ⟨h.1, ?_⟩
  rcases h.2 with hn | ⟨g, cap, cur, rfl, hg2, hh, rest⟩
  · exact .inl hn
  · refine .inr ⟨g, cap, cur, rfl, hg2, (hg.block g (Array.getElem?_eq_some_iff.1 hh).1 ?_).trans hh, rest⟩
    rcases hne with h1 | h1
    · simp [Value.ownBlock] at h1
    · simpa [Value.ownBlock] using h1
theorem vrowS {w : World} {B e s n c : Nat} {p : Option Addr} {vs : List Value} (h : w.ownsRow B e s (.slice p n c) n vs) : VRow w s p n c vs := by
  obtain ⟨p', c', he, hr⟩ := VRow.of_own h
  cases he; exact hr
theorem srowS {w : World} {kd : IntKind} {B e n c : Nat} {p : Option Addr} {xs : List Int} (h : w.ownsRow B e 1 (.slice p n c) n (ivals kd xs)) : SRow w kd p n c xs := by
  obtain ⟨p', c', he, hr⟩ := SRow.of_own h
  cases he; exact hr
theorem freshS {w : World} {B e s n c : Nat} {p : Option Addr} {vs : List Value} (h : w.ownsRow B e s (.slice p n c) n vs) : ∀ a, p = some a → B ≤ a.block ∧ a.block < w.heap.size := by
  intro a ha
  subst ha
  have hl := h.lt
  rcases h.2 with ⟨h1, _⟩ | ⟨g, cap, cur, he, hg, _⟩
  · cases h1
  · cases he; exact hl g (by simp [Value.ownBlock])
theorem boxG {w w' : World} {b : Nat} {vs : List Value} {row : Option Nat} (h : OwnL w b vs) (hg : w.grownBy w' row) (hlt : b < w.heap.size) (hne : some b ≠ row) : OwnL w' b vs :=
  ⟨fun i v hv => hg.cell (h.cell i v hv) hne, fun i => by rw [hg.frozen_far ⟨b, i, none⟩ hlt hne]; exact h.free i⟩
theorem belowG {w w0 w' : World} {B C e s n : Nat} {v : Value} {xs : List Value} (hb : Below C w0 w) (ho : w.ownsRow B e s v n xs) (hg : w.grownBy w' v.ownBlock) (hC : C ≤ B) (hB : C ≤ w.heap.size) : Below C w0 w' :=
  hb.grown hg hB fun k hk => by have := (ho.lt k hk).1; omega
theorem belowM {w w0 w' : World} {B C : Nat} (hb : Below C w0 w) (hg : w.grownBy w' (some B)) (hC : C ≤ B) (hB : C ≤ w.heap.size) : Below C w0 w' :=
  hb.grown hg hB fun k hk => by cases hk; omega
theorem own1S {w : World} {B : Nat} {a : Value} (h : OwnL w B [a]) : w.cell? ⟨B, 0, none⟩ = some a ∧ w.frozen? ⟨B, 0, none⟩ = false := ⟨h.cell 0 _ rfl, h.free 0⟩
theorem own2S {w : World} {B : Nat} {a b : Value} (h : OwnL w B [a, b]) : w.cell? ⟨B, 0, none⟩ = some a ∧ w.cell? ⟨B, 1, none⟩ = some b ∧ w.frozen? ⟨B, 0, none⟩ = false ∧ w.frozen? ⟨B, 1, none⟩ = false := ⟨h.cell 0 _ rfl, h.cell 1 _ rfl, h.free 0, h.free 1⟩
theorem own3S {w : World} {B : Nat} {a b c : Value} (h : OwnL w B [a, b, c]) : w.cell? ⟨B, 0, none⟩ = some a ∧ w.cell? ⟨B, 1, none⟩ = some b ∧ w.cell? ⟨B, 2, none⟩ = some c := ⟨h.cell 0 _ rfl, h.cell 1 _ rfl, h.cell 2 _ rfl⟩
theorem boxLt {w : World} {B : Nat} {a : Value} {vs : List Value} (h : OwnL w B (a :: vs)) : B < w.heap.size := h.lt (v := a) rfl
/-- A map's block is no row's. -/
theorem MR.row {w : World} {B n : Nat} {f : Nat → Option Int} (h : MR w B n f) {b e s m : Nat} {v : Value} {xs : List Value} (hr : w.ownsRow b e s v m xs) : some B ≠ v.ownBlock := by
  rcases hr.2 with ⟨rfl, _⟩ | ⟨g, cap, cur, rfl, hg, hh, _⟩
  · simp [Value.ownBlock]
  · intro e1
    simp [Value.ownBlock] at e1
    obtain ⟨D, ⟨es, clock, hb, _⟩, _⟩ := h
    subst e1
    rw [hh] at hb; cases hb
theorem MR.box {w : World} {B n b : Nat} {f : Nat → Option Int} (h : MR w B n f) {a : Value} {vs : List Value} (hx : OwnL w b (a :: vs)) : B ≠ b := h.apart (hx.cell 0 a rfl)

/-- A table in memory that a call made. -/
structure FT (B : Nat) (w : World) (p : Option Addr) (n c : Nat) (t : List En) : Prop where
  o : w.ownsRow B 54 3 (.slice p n c) n (t.flatMap enC)
theorem FT.r {B : Nat} {w : World} {p : Option Addr} {n c : Nat} {t : List En} (h : FT B w p n c t) : VRow w 3 p n c (t.flatMap enC) := vrowS h.o
theorem FT.fr {B : Nat} {w : World} {p : Option Addr} {n c : Nat} {t : List En} (h : FT B w p n c t) : ∀ a, p = some a → B ≤ a.block ∧ a.block < w.heap.size := freshS h.o
theorem FT.keep {B : Nat} {w w' : World} {p : Option Addr} {n c : Nat} {t : List En} (h : FT B w p n c t) (hb : Below w.heap.size w w') : FT B w' p n c t := ⟨own_below h.o hb⟩
theorem FT.mono {B C : Nat} {w : World} {p : Option Addr} {n c : Nat} {t : List En} (h : FT B w p n c t) (hc : C ≤ B) : FT C w p n c t := ⟨lowerS h.o hc⟩
theorem FT.nil (B : Nat) (w : World) : FT B w none 0 0 [] := ⟨World.ownsRow_nil _ _ _ _⟩
theorem VRow.cellS {w : World} {s : Nat} {p : Option Addr} {n c : Nat} {vs : List Value} (h : VRow w s p n c vs) (a : Addr) (x : Value) (hne : ∀ b, p = some b → b.block ≠ a.block) : VRow (w.setCell a x) s p n c vs :=
  ⟨h.len, h.le, h.max, fun i v hv => by
    obtain ⟨b, off, hp, hc⟩ := h.row i v hv
    exact ⟨b, off, hp, by rw [World.cell?_setCell_other _ _ _ _ (fun e => hne _ hp (by rw [e]))]; exact hc⟩⟩
theorem FT.cell {B : Nat} {w : World} {p : Option Addr} {n c : Nat} {t : List En} (h : FT B w p n c t) (a : Addr) (x : Value) (hne : a.block < B) : FT B (w.setCell a x) p n c t :=
  ⟨cellS h.o a x (fun e => by have := (h.o.lt _ e).1; omega)⟩
theorem FT.own {B : Nat} {w : World} {p : Option Addr} {n c : Nat} {t : List En} (h : w.ownsRow B 54 3 (.slice p n c) n (t.flatMap enC)) : FT B w p n c t := ⟨h⟩
/-- A call returned a table in memory of its own, and the error er. -/
def RetT (B : Nat) (t : List En) (er : Int) (e : Ending) (w' : World) : Prop := ∃ p n c, e = .returned (.tuple #[.agg #[.slice p n c], .int .i64 er]) ∧ FT B w' p n c t
theorem RetT.zero (B : Nat) (er : Int) (w : World) : RetT B [] er (.returned (.tuple #[.agg #[.slice none 0 0], .int .i64 er])) w := ⟨none, 0, 0, rfl, FT.nil B w⟩
def RetNT (B : Nat) (t : List En) (i g er : Int) (e : Ending) (w' : World) : Prop := ∃ p n c, e = .returned (.tuple #[.agg #[.slice p n c], .int .i64 i, .int .i64 g, .int .i64 er]) ∧ FT B w' p n c t
theorem RetNT.zero (B : Nat) (er : Int) (w : World) : RetNT B [] 0 0 er (.returned (.tuple #[.agg #[.slice none 0 0], .int .i64 0, .int .i64 0, .int .i64 er])) w := ⟨none, 0, 0, rfl, FT.nil B w⟩

/-- The parts of a table: generations and map. -/
structure PO (w : World) (base : Nat) (pg : Option Addr) (ng cg B N : Nat) (g : List Int) (f : Nat → Option Int) : Prop where
  G : w.ownsRow base 3 1 (.slice pg ng cg) ng (ivals .i64 g)
  M : MR w B N f
  hB : base ≤ B
theorem PO.keep {w w' : World} {base : Nat} {pg : Option Addr} {ng cg B N : Nat} {g : List Int} {f : Nat → Option Int} (h : PO w base pg ng cg B N g f) (hb : Below w.heap.size w w') : PO w' base pg ng cg B N g f := ⟨own_below h.G hb, h.M.keep hb, h.hB⟩
theorem PO.lower {w : World} {base base' : Nat} {pg : Option Addr} {ng cg B N : Nat} {g : List Int} {f : Nat → Option Int} (h : PO w base pg ng cg B N g f) (hb : base' ≤ base) : PO w base' pg ng cg B N g f := ⟨lowerS h.G hb, h.M, Nat.le_trans hb h.hB⟩
theorem PO.more {w : World} {base : Nat} {pg : Option Addr} {ng cg B N M : Nat} {g : List Int} {f : Nat → Option Int} (h : PO w base pg ng cg B N g f) (hb : N ≤ M) : PO w base pg ng cg B M g f := ⟨h.G, h.M.mono hb, h.hB⟩
theorem PO.cell {w : World} {base : Nat} {pg : Option Addr} {ng cg B N : Nat} {g : List Int} {f : Nat → Option Int} (h : PO w base pg ng cg B N g f) (a : Addr) (x : Value) (ha : a.block < base) : PO (w.setCell a x) base pg ng cg B N g f :=
  ⟨cellS h.G a x (fun e => by have := (h.G.lt _ e).1; omega), h.M.cell a x (by have := h.hB; omega), h.hB⟩
theorem PO.len {w : World} {base : Nat} {pg : Option Addr} {ng cg B N : Nat} {g : List Int} {f : Nat → Option Int} (h : PO w base pg ng cg B N g f) : g.length = ng := by have := h.G.1; rw [ivals_len] at this; omega
/-- A call returned parts. -/
def RetPa (base N : Nat) (g : List Int) (f : Nat → Option Int) (e : Ending) (w' : World) : Prop := ∃ pg ng cg B, e = .returned (.agg #[.slice pg ng cg, .map (some B)]) ∧ PO w' base pg ng cg B N g f
theorem run_makeHint (w : World) (n : Int) : (Instr.makeMap 45 (some (.int .i64 n))).run Try.prog w = .ok (.map (some w.heap.size)) (w.alloc (.map #[] 0)) := by
  have hu := Try.underlying45
  simp [Instr.makeMap, run_underlying hu, asInt, asIntOf, Result.andThen]
end Go.Proofs.Ytggaaobpaodigaa
