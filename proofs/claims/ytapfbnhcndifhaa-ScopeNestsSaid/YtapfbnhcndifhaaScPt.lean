/- play of layer 14: the region that appends to both rows. -/
import Derived.Test.YtapfbnhcndifhaaScPs
import Derived.Test.YtapfbnhcndifhaaScFr
set_option linter.unusedVariables false
namespace Go.Proofs.Ytapfbnhcndifhaa
open Go.RowKit

theorem infoPr : (Try.prog.info? 42).map (fun i => (i.zero, i.size, i.bytes)) = some (some (.agg #[.int .i64 0, .int .i64 0]), 2, 16) := by kernel_rfl
theorem VRow.grown {w w' : World} {s : Nat} {p : Option Addr} {n c : Nat} {vs : List Value} {row : Option Nat} (h : VRow w s p n c vs) (hg : w.grownBy w' row) (hne : ∀ a, p = some a → row ≠ some a.block) : VRow w' s p n c vs :=
  ⟨h.len, h.le, h.max, fun i v hv => by obtain ⟨b, off, hp, hc⟩ := h.row i v hv; exact ⟨b, off, hp, hg.cell hc (fun e => hne _ hp e.symm)⟩⟩
theorem SRow.grown {w w' : World} {kd : IntKind} {p : Option Addr} {n c : Nat} {xs : List Int} {row : Option Nat} (h : SRow w kd p n c xs) (hg : w.grownBy w' row) (hne : ∀ a, p = some a → row ≠ some a.block) : SRow w' kd p n c xs :=
  ⟨h.len, h.le, h.max, fun i v hv => by obtain ⟨b, off, hp, hc⟩ := h.row i v hv; exact ⟨b, off, hp, hg.cell hc (fun e => hne _ hp e.symm)⟩⟩
/-- The pointers of local handles stay away from a row of one's own. -/
def Apt (pa pb pc : Option Addr) (v : Value) : Prop := ∀ a, (pa = some a ∨ pb = some a ∨ pc = some a) → v.ownBlock ≠ some a.block
theorem apt_none (v : Value) : Apt none none none v := fun a h => by rcases h with h | h | h <;> cases h
theorem LRow.grown {w w' : World} {pa pb pc : Option Addr} {na ca nb cb nc cc : Nat} {l : Loc} {v : Value} (h : LRow w pa na ca pb nb cb pc nc cc l) (hg : w.grownBy w' v.ownBlock) (ha : Apt pa pb pc v) : LRow w' pa na ca pb nb cb pc nc cc l :=
  ⟨h.sl.grown hg fun a e => ha a (.inl e), h.sc.grown hg fun a e => ha a (.inr (.inl e)), h.is.grown hg fun a e => ha a (.inr (.inr e))⟩
theorem FRow.apt {w : World} {pa pb pc : Option Addr} {na ca nb cb nc cc B : Nat} {l : Loc} {v : Value} (h : FRow B w pa na ca pb nb cb pc nc cc l) (hv : ∀ g, v.ownBlock = some g → g < B) : Apt pa pb pc v := by
  intro a ha e
  have h1 := hv _ e
  rcases ha with ha | ha | ha
  · have := h.fa a ha; omega
  · have := h.fb a ha; omega
  · have := h.fc a ha; omega
structure QS (w0 w : World) (base bA bN : Nat) (qi : Option Addr) (ni ci : Nat) (qr : Option Addr) (nr cr : Nat) (ps qs : List Value) (ys ns as' : List Value) (pa : Option Addr) (na ca : Nat) (pb : Option Addr) (nb cb : Nat) (pc : Option Addr) (nc cc : Nat) (l : Loc) : Prop where
  box : OwnL w w0.heap.size [.slice none 0 0, .slice none 0 0, .slice none 0 0]
  I : w.ownsRow base 42 2 (.slice qi ni ci) ni ps
  R : w.ownsRow base 38 1 (.slice qr nr cr) nr qs
  IR : ∀ g, (Value.slice qi ni ci).ownBlock = some g → (Value.slice qr nr cr).ownBlock ≠ some g
  bel : Below w0.heap.size w0 w
  Y : OwnL w (w0.heap.size + 1) ys
  N : OwnL w bN ns
  A : OwnL w bA as'
  L : LRow w pa na ca pb nb cb pc nc cc l
  lt : ∀ a, (pa = some a ∨ pb = some a ∨ pc = some a) → a.block < w.heap.size
  apI : Apt pa pb pc (.slice qi ni ci)
  apR : Apt pa pb pc (.slice qr nr cr)
  hI : ∀ g, (Value.slice qi ni ci).ownBlock = some g → g ≠ bN ∧ g ≠ bA
  hR : ∀ g, (Value.slice qr nr cr).ownBlock = some g → g ≠ bN ∧ g ≠ bA
  hb : w0.heap.size + 2 ≤ base
  hbA : base ≤ bA ∧ bA < bN ∧ bN < w.heap.size
section
variable {w0 w w' : World} {base bA bN ni ci nr cr na ca nb cb nc cc : Nat} {qi qr pa pb pc : Option Addr} {ps qs ys ns as' : List Value} {l : Loc}
theorem QS.keep (h : QS w0 w base bA bN qi ni ci qr nr cr ps qs ys ns as' pa na ca pb nb cb pc nc cc l) (hb : Below w.heap.size w w') : QS w0 w' base bA bN qi ni ci qr nr cr ps qs ys ns as' pa na ca pb nb cb pc nc cc l := by
  have h1 := h.hb; have h2 := h.hbA; have h3 := hb.size
  exact ⟨h.box.keep hb (by omega), own_below h.I hb, own_below h.R hb, h.IR, bthen h.bel hb, h.Y.keep hb (by omega), h.N.keep hb (by omega), h.A.keep hb (by omega), h.L.keep hb, fun a e => Nat.lt_of_lt_of_le (h.lt a e) h3, h.apI, h.apR, h.hI, h.hR, h.hb, ⟨h2.1, h2.2.1, by omega⟩⟩
theorem QS.appI {q : Option Addr} {c : Nat} {x : List Value} (h : QS w0 w base bA bN qi ni ci qr nr cr ps qs ys ns as' pa na ca pb nb cb pc nc cc l) (ho : w'.ownsRow base 42 2 (.slice q (ni + 1) c) (ni + 1) (ps ++ x)) (hg : w.grownBy w' (Value.slice qi ni ci).ownBlock)
    (hat : (Value.slice q (ni + 1) c).ownBlock = (Value.slice qi ni ci).ownBlock ∨ (Value.slice q (ni + 1) c).ownBlock = some w.heap.size) : QS w0 w' base bA bN q (ni + 1) c qr nr cr (ps ++ x) qs ys ns as' pa na ca pb nb cb pc nc cc l := by
  have h1 := h.hb; have h2 := h.hbA; have h3 := hg.size
  have hn : ∀ g, (Value.slice qi ni ci).ownBlock = some g → base ≤ g := fun g e => (h.I.lt g e).1
  refine ⟨h.box.grown hg (by omega) (fun e => by have := hn _ e.symm; omega), ho, h.R.kept hg (ne_row h.IR), apart_of h.IR hat h.R, h.bel.grown hg (by omega) (fun k e => by have := hn _ e; omega), h.Y.grown hg (by omega) (fun e => by have := hn _ e.symm; omega), h.N.grown hg (by omega) (fun e => (h.hI _ e.symm).1 rfl), h.A.grown hg (by omega) (fun e => (h.hI _ e.symm).2 rfl), h.L.grown hg h.apI, fun a e => Nat.lt_of_lt_of_le (h.lt a e) h3, fun a ha e => ?_, h.apR, fun g e => ?_, h.hR, h.hb, ⟨h2.1, h2.2.1, by omega⟩⟩
  · rcases hat with e2 | e2
    · exact h.apI a ha (e2 ▸ e)
    · rw [e2] at e; have := Option.some.inj e; have := h.lt a ha; omega
  · rcases hat with e2 | e2
    · exact h.hI g (e2 ▸ e)
    · rw [e2] at e; have := Option.some.inj e; omega
theorem QS.appR {q : Option Addr} {c : Nat} {x : List Value} (h : QS w0 w base bA bN qi ni ci qr nr cr ps qs ys ns as' pa na ca pb nb cb pc nc cc l) (ho : w'.ownsRow base 38 1 (.slice q (nr + 1) c) (nr + 1) (qs ++ x)) (hg : w.grownBy w' (Value.slice qr nr cr).ownBlock)
    (hat : (Value.slice q (nr + 1) c).ownBlock = (Value.slice qr nr cr).ownBlock ∨ (Value.slice q (nr + 1) c).ownBlock = some w.heap.size) : QS w0 w' base bA bN qi ni ci q (nr + 1) c ps (qs ++ x) ys ns as' pa na ca pb nb cb pc nc cc l := by
  have h1 := h.hb; have h2 := h.hbA; have h3 := hg.size
  have hn : ∀ g, (Value.slice qr nr cr).ownBlock = some g → base ≤ g := fun g e => (h.R.lt g e).1
  refine ⟨h.box.grown hg (by omega) (fun e => by have := hn _ e.symm; omega), h.I.kept hg (ne_row (flip_apart h.IR)), ho, apart_to h.IR hat h.I, h.bel.grown hg (by omega) (fun k e => by have := hn _ e; omega), h.Y.grown hg (by omega) (fun e => by have := hn _ e.symm; omega), h.N.grown hg (by omega) (fun e => (h.hR _ e.symm).1 rfl), h.A.grown hg (by omega) (fun e => (h.hR _ e.symm).2 rfl), h.L.grown hg h.apR, fun a e => Nat.lt_of_lt_of_le (h.lt a e) h3, h.apI, fun a ha e => ?_, h.hI, fun g e => ?_, h.hb, ⟨h2.1, h2.2.1, by omega⟩⟩
  · rcases hat with e2 | e2
    · exact h.apR a ha (e2 ▸ e)
    · rw [e2] at e; have := Option.some.inj e; have := h.lt a ha; omega
  · rcases hat with e2 | e2
    · exact h.hR g (e2 ▸ e)
    · rw [e2] at e; have := Option.some.inj e; omega
/-- Behind the region: the state of the loop. -/
theorem QS.toPS {l' : Loc} {rs : List Int} (h : QS w0 w base bA bN qi ni ci qr nr cr ps qs ys ns as' pa na ca pb nb cb pc nc cc l) (hp : ps = (pairsFrom 0 l'.is).flatMap prC) (hq : qs = ivals .u64 rs) : PS w0 w base qi ni ci qr nr cr l' rs w.heap.size :=
  ⟨h.box, hp ▸ h.I, hq ▸ h.R, h.IR, h.bel, fun g e => (h.I.lt g e).2, fun g e => (h.R.lt g e).2, h.hb⟩
end
end Go.Proofs.Ytapfbnhcndifhaa
