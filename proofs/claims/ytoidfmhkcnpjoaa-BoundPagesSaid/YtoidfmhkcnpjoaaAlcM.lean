/- Plain mathematics of layer 7: first runs, places of objects. -/
import Derived.Test.YtoidfmhkcnpjoaaHeapM
import Derived.Test.YtoidfmhkcnpjoaaHeadM
namespace Go.Proofs.Ytoidfmhkcnpjoaa
open Go.RowKit

def asksB (pw np k n m : Int) : Bool := validB k n m && decide (¬ k = 0) && decide (¬ needV pw np (sizeV k n m) = -1)
theorem runs_free (ps : List Pg) : ∀ (k : Nat) (r : Int × Int), r ∈ runsTo ps k → ∀ t : Nat, r.1 ≤ t → (t : Int) < r.1 + r.2 → ∃ x, ps[t]? = some x ∧ x.kind = 0
  | 0, r, h => by simp [runsTo] at h
  | k + 1, r, h => by
    have ih := runs_free ps k
    cases hx : ps[k]? with
    | none => rw [runsTo, hx] at h; exact ih r h
    | some x =>
      rw [runsTo_step hx] at h
      by_cases h0 : x.kind = 0
      · rcases runs_cases (runsTo ps k) with e | ⟨pre, q, e⟩
        · rw [e, runStep_nil h0] at h
          simp at h; subst h
          intro t h1 h2
          obtain rfl : t = k := by simp only at h1 h2; omega
          exact ⟨x, hx, h0⟩
        · by_cases he : q.1 + q.2 = k
          · rw [e, runStep_bump h0 he] at h
            rcases List.mem_append.1 h with h | h
            · exact ih r (by rw [e]; exact List.mem_append_left _ h)
            · simp at h; subst h
              intro t h1 h2
              by_cases ht : t = k
              · subst ht; exact ⟨x, hx, h0⟩
              · exact ih q (by rw [e]; simp) t h1 (by simp only at h2; omega)
          · rw [e, runStep_new h0 he] at h
            rcases List.mem_append.1 h with h | h
            · exact ih r (by rw [e]; exact h)
            · simp at h; subst h
              intro t h1 h2
              obtain rfl : t = k := by simp only at h1 h2; omega
              exact ⟨x, hx, h0⟩
      · rw [runStep_no h0] at h; exact ih r h
theorem firstFrom_mem {k : Int} : ∀ l : List (Int × Int), firstFrom k l = -1 ∨ ∃ r ∈ l, firstFrom k l = r.1 ∧ 1 ≤ k ∧ k ≤ r.2
  | [] => Or.inl rfl
  | r :: t => by
    unfold firstFrom
    split
    · rename_i h; exact Or.inr ⟨r, by simp, rfl, h⟩
    · rcases firstFrom_mem t with h | ⟨q, hq, h⟩
      · exact Or.inl h
      · exact Or.inr ⟨q, by simp [hq], h⟩
/-- The first run of k free pages. -/
theorem first_spec {ps : List Pg} {k : Int} (h : 0 ≤ firstV ps k) : 1 ≤ k ∧ firstV ps k + k ≤ ps.length ∧ ∀ t : Nat, firstV ps k ≤ t → (t : Int) < firstV ps k + k → ∃ x, ps[t]? = some x ∧ x.kind = 0 := by
  rw [firstV_from] at h ⊢
  rcases firstFrom_mem (k := k) (runsV ps) with e | ⟨r, hr, e, h1, h2⟩
  · omega
  · rw [e]
    have hb := runs_bd ps ps.length r hr
    exact ⟨h1, by omega, fun t a b => runs_free ps ps.length r hr t a (by omega)⟩
theorem first_ge (ps : List Pg) (k : Int) : -1 ≤ firstV ps k := by
  rw [firstV_from]
  rcases firstFrom_mem (k := k) (runsV ps) with e | ⟨r, hr, e, -⟩
  · omega
  · have := runs_bd ps ps.length r hr; omega

/-- The page for small allocations. -/
def bumpPg (h : Hp) : Pg := h.pages.getD h.bump.toNat Pg.zero
def newB (h : Hp) (n : Int) : Bool := decide (h.bump < 0 ∨ ¬ (bumpPg h).space = h.space ∨ h.pw < (bumpPg h).used + n ∨ limitV h.pw h.np < inUse h.pages)
def smallFull (h : Hp) : Bool := decide (firstV h.pages 1 < 0 ∨ limitV h.pw h.np ≤ inUse h.pages)
def smallOKB (h : Hp) (n : Int) : Bool := !(newB h n && smallFull h)
def smallJ (h : Hp) (n : Int) : Int := if newB h n then firstV h.pages 1 else h.bump
def smallPs (h : Hp) (n : Int) : List Pg := if newB h n then smallPV h.pages (firstV h.pages 1) h.space else h.pages
def useAt (ps : List Pg) (j : Nat) (n : Int) : List Pg := ps.set j ⟨(ps.getD j Pg.zero).kind, (ps.getD j Pg.zero).space, (ps.getD j Pg.zero).used + n, (ps.getD j Pg.zero).pins⟩
def smallH (h : Hp) (n : Int) : Hp := { h with pages := useAt (smallPs h n) (smallJ h n).toNat n, bump := smallJ h n }
def smallA (h : Hp) (n : Int) : Int := 4096 + smallJ h n * h.pw + ((smallPs h n).getD (smallJ h n).toNat Pg.zero).used

def largeOKB (h : Hp) (k : Int) : Bool := decide (¬ (firstV h.pages k < 0 ∨ limitV h.pw h.np < inUse h.pages + k))
def largeH (h : Hp) (n k : Int) : Hp := { h with pages := largePV h.pw h.np h.pages (firstV h.pages k) h.space n }
def largeA (h : Hp) (k : Int) : Int := 4096 + firstV h.pages k * h.pw
end Go.Proofs.Ytoidfmhkcnpjoaa
