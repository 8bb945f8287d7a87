/- Plain answers of layer 15: tables of handles. -/
import Derived.Test.YtggaaobpaodigaaRow
namespace Go.Proofs.Ytggaaobpaodigaa
open Go.RowKit

/-- An entry. -/
structure En where
  gn : Int
  rf : Int
  lv : Bool
  deriving DecidableEq
def enC (e : En) : List Value := [.int .i64 e.gn, .int .u64 e.rf, .bool e.lv]
theorem enC_len (e : En) : (enC e).length = 3 := rfl
def enB (e : En) : Bool := decide (1 ≤ e.gn) && decide (e.gn ≤ 4294967295) && (e.lv || decide (e.rf = 0))
def okT (t : List En) : Bool := decide (t.length ≤ 64) && t.all enB
theorem enB_iff {e : En} : enB e = true ↔ 1 ≤ e.gn ∧ e.gn ≤ 4294967295 ∧ (e.lv = false → e.rf = 0) := by
  unfold enB
  cases e.lv <;> simp [and_assoc]
theorem okT_iff {t : List En} : okT t = true ↔ t.length ≤ 64 ∧ ∀ (k : Nat) (e : En), t[k]? = some e → enB e = true := by
  unfold okT
  simp only [Bool.and_eq_true, decide_eq_true_eq, List.all_eq_true]
  refine ⟨fun h => ⟨h.1, fun k e he => h.2 e (List.mem_of_getElem? he)⟩, fun h => ⟨h.1, fun e he => ?_⟩⟩
  obtain ⟨k, hk⟩ := List.getElem?_of_mem he
  exact h.2 k e hk
theorem okT_long {t : List En} (h : 64 < t.length) : okT t = false := by
  rw [← Bool.not_eq_true]; intro h'; have := (okT_iff.1 h').1; omega
theorem okT_bad {t : List En} {k : Nat} {e : En} (h : t[k]? = some e) (hb : enB e = false) : okT t = false := by
  rw [← Bool.not_eq_true]; intro h'; rw [(okT_iff.1 h').2 k e h] at hb; cases hb

/-- What an entry refers to, if it is Live. -/
def rfO (e : En) : Option Int := if e.lv then some e.rf else none
def tf (t : List En) (i : Nat) : Option Int := match t[i]? with
  | some e => rfO e
  | none => none
def gs (t : List En) : List Int := t.map (·.gn)
def mkE (g : Int) (r : Option Int) : En := match r with
  | some x => ⟨g, x, true⟩
  | none => ⟨g, 0, false⟩
/-- A table put together. -/
def tabFrom : Nat → List Int → (Nat → Option Int) → List En
  | _, [], _ => []
  | n, g :: r, f => mkE g (f n) :: tabFrom (n + 1) r f
def tabOf (g : List Int) (f : Nat → Option Int) : List En := tabFrom 0 g f
theorem tabFrom_len : ∀ (g : List Int) (n : Nat) (f : Nat → Option Int), (tabFrom n g f).length = g.length
  | [], _, _ => rfl
  | x :: r, n, f => by rw [tabFrom, List.length_cons, List.length_cons, tabFrom_len r]
theorem tabFrom_get : ∀ (g : List Int) (n k : Nat) (f : Nat → Option Int), (tabFrom n g f)[k]? = (g[k]?).map fun x => mkE x (f (n + k))
  | [], n, k, f => by simp [tabFrom]
  | x :: r, n, 0, f => by simp [tabFrom]
  | x :: r, n, k + 1, f => by rw [tabFrom, List.getElem?_cons_succ, List.getElem?_cons_succ, tabFrom_get r (n + 1) k f, show n + 1 + k = n + (k + 1) by omega]
theorem tabFrom_snoc : ∀ (g : List Int) (n : Nat) (x : Int) (f : Nat → Option Int), tabFrom n (g ++ [x]) f = tabFrom n g f ++ [mkE x (f (n + g.length))]
  | [], n, x, f => by simp [tabFrom]
  | y :: r, n, x, f => by rw [List.cons_append, tabFrom, tabFrom, tabFrom_snoc r (n + 1) x f, List.cons_append, List.length_cons, show n + 1 + r.length = n + (r.length + 1) by omega]
theorem tabOf_len (g : List Int) (f : Nat → Option Int) : (tabOf g f).length = g.length := tabFrom_len g 0 f
theorem tabOf_get (g : List Int) (k : Nat) (f : Nat → Option Int) : (tabOf g f)[k]? = (g[k]?).map fun x => mkE x (f k) := by
  unfold tabOf; rw [tabFrom_get, Nat.zero_add]
theorem tabOf_take {g : List Int} {k : Nat} {x : Int} (f : Nat → Option Int) (h : g[k]? = some x) : tabOf (g.take (k + 1)) f = tabOf (g.take k) f ++ [mkE x (f k)] := by
  unfold tabOf
  rw [take_snoc' h, tabFrom_snoc, Nat.zero_add, List.length_take, Nat.min_eq_left (by have := (List.getElem?_eq_some_iff.1 h).1; omega)]
theorem gs_len (t : List En) : (gs t).length = t.length := by simp [gs]
theorem gs_get (t : List En) (k : Nat) : (gs t)[k]? = (t[k]?).map (·.gn) := by simp [gs]
theorem tf_some {t : List En} {k : Nat} {e : En} (h : t[k]? = some e) : tf t k = rfO e := by unfold tf; rw [h]
theorem tf_none {t : List En} {k : Nat} (h : t.length ≤ k) : tf t k = none := by unfold tf; rw [List.getElem?_eq_none h]
theorem tf_take {t : List En} {k : Nat} {e : En} (h : t[k]? = some e) (j : Nat) : tf (t.take (k + 1)) j = if j = k then rfO e else tf (t.take k) j := by
  unfold tf
  by_cases hj : j = k
  · subst hj
    rw [if_pos rfl, List.getElem?_take, if_pos (by omega), h]
  · rw [if_neg hj, List.getElem?_take, List.getElem?_take]
    by_cases h1 : j < k
    · rw [if_pos (by omega), if_pos h1]
    · rw [if_neg (by omega), if_neg h1]
/-- A valid table taken apart and put together. -/
theorem mkE_rfO {e : En} (h : e.lv = false → e.rf = 0) : mkE e.gn (rfO e) = e := by
  obtain ⟨g, r, l⟩ := e
  cases l
  · have := h rfl
    simp only at this
    subst this; rfl
  · rfl
theorem tabOf_self {t : List En} (h : okT t = true) : tabOf (gs t) (tf t) = t := by
  apply List.ext_getElem?
  intro k
  rw [tabOf_get, gs_get]
  cases he : t[k]? with
  | none => rfl
  | some e =>
    simp only [Option.map_some]
    rw [tf_some he, mkE_rfO (enB_iff.1 ((okT_iff.1 h).2 k e he)).2.2]
/-- One of them changed. -/
def upd (f : Nat → Option Int) (i : Nat) (r : Option Int) : Nat → Option Int := fun j => if j = i then r else f j
theorem upd_same (f : Nat → Option Int) (i : Nat) (r : Option Int) : upd f i r i = r := if_pos rfl
theorem upd_other (f : Nat → Option Int) {i j : Nat} (r : Option Int) (h : j ≠ i) : upd f i r j = f j := if_neg h
theorem tabOf_set {t : List En} (h : okT t = true) {i : Nat} {e : En} (he : t[i]? = some e) (g : Int) (r : Option Int) : tabOf ((gs t).set i g) (upd (tf t) i r) = t.set i (mkE g r) := by
  apply List.ext_getElem?
  intro k
  rw [tabOf_get, List.getElem?_set, List.getElem?_set]
  by_cases hk : i = k
  · subst hk
    have hl := (List.getElem?_eq_some_iff.1 he).1
    rw [if_pos rfl, if_pos (by rw [gs_len]; exact hl), if_pos rfl, if_pos hl, Option.map_some, upd_same]
  · rw [if_neg hk, if_neg hk, gs_get]
    cases hx : t[k]? with
    | none => rfl
    | some y =>
      simp only [Option.map_some]
      rw [upd_other _ _ (fun e => hk e.symm), tf_some hx, mkE_rfO (enB_iff.1 ((okT_iff.1 h).2 k y hx)).2.2]
theorem tabOf_upd {t : List En} (h : okT t = true) {i : Nat} {e : En} (he : t[i]? = some e) (r : Option Int) : tabOf (gs t) (upd (tf t) i r) = t.set i (mkE e.gn r) := by
  rw [← tabOf_set h he e.gn r]
  congr 1
  apply List.ext_getElem?
  intro k
  rw [List.getElem?_set]
  by_cases hk : i = k
  · subst hk
    rw [if_pos rfl, if_pos (by rw [gs_len]; exact (List.getElem?_eq_some_iff.1 he).1), gs_get, he]; rfl
  · rw [if_neg hk]
theorem tabOf_snoc {t : List En} (h : okT t = true) (g r : Int) : tabOf (gs t ++ [g]) (upd (tf t) t.length (some r)) = t ++ [⟨g, r, true⟩] := by
  unfold tabOf
  rw [tabFrom_snoc, Nat.zero_add, gs_len, upd_same]
  show tabOf (gs t) _ ++ [mkE g (some r)] = _
  congr 1
  apply List.ext_getElem?
  intro k
  rw [tabOf_get, gs_get]
  cases hx : t[k]? with
  | none => rfl
  | some y =>
    have := (List.getElem?_eq_some_iff.1 hx).1
    simp only [Option.map_some]
    rw [upd_other _ _ (by omega), tf_some hx, mkE_rfO (enB_iff.1 ((okT_iff.1 h).2 k y hx)).2.2]

/-- The first entry that a new handle can use, or the length. -/
def nextV : List En → Nat
  | [] => 0
  | e :: r => if e.lv = false ∧ e.gn < 4294967295 then 0 else nextV r + 1
theorem nextV_le : ∀ t : List En, nextV t ≤ t.length
  | [] => Nat.le_refl _
  | e :: r => by
    have := nextV_le r
    unfold nextV
    split
    · omega
    · simp; exact this
theorem nextV_is : ∀ (t : List En) (k : Nat), (∀ j e, j < k → t[j]? = some e → ¬ (e.lv = false ∧ e.gn < 4294967295)) → k ≤ t.length → (t.length = k ∨ ∃ e, t[k]? = some e ∧ e.lv = false ∧ e.gn < 4294967295) → nextV t = k
  | [], k, _, hk, _ => by simp at hk; subst hk; rfl
  | e :: r, 0, _, _, h => by
    rcases h with h | ⟨x, hx, h1, h2⟩
    · simp at h
    · cases hx
      unfold nextV; rw [if_pos ⟨h1, h2⟩]
  | e :: r, k + 1, hb, hk, h => by
    unfold nextV
    rw [if_neg (hb 0 e (by omega) rfl), nextV_is r k (fun j x hj hx => hb (j + 1) x (by omega) hx) (by simpa using hk) (by
      rcases h with h | ⟨x, hx, h1⟩
      · exact .inl (by simpa using h)
      · exact .inr ⟨x, hx, h1⟩)]
/-- What New answers. -/
def newE (t : List En) : Int := if okT t = false then 1 else if nextV t = 64 then 18 else 0
def genV (t : List En) : Int := match t[nextV t]? with
  | some e => e.gn + 1
  | none => 1
def putV (t : List En) (r : Int) : List En := match t[nextV t]? with
  | some e => t.set (nextV t) ⟨e.gn + 1, r, true⟩
  | none => t ++ [⟨1, r, true⟩]
def newT (t : List En) (r : Int) : List En := if newE t = 0 then putV t r else []
def newN (t : List En) : Int := if newE t = 0 then nextV t else 0
def newG (t : List En) : Int := if newE t = 0 then genV t else 0
/-- What find answers. -/
def findE (t : List En) (i g : Int) : Int := if okT t = false then 1 else if i < 0 then 6 else match t[i.toNat]? with
  | none => 6
  | some e => if g < 1 ∨ e.gn < g then 6 else if g < e.gn ∨ e.lv = false then 8 else 0
def getT (t : List En) (i g : Int) : Int := if findE t i g = 0 then (tf t i.toNat).getD 0 else 0
def setT (t : List En) (i g r : Int) : List En := if findE t i g = 0 then t.set i.toNat ⟨g, r, true⟩ else []
def delT (t : List En) (i g : Int) : List En := if findE t i g = 0 then t.set i.toNat ⟨g, 0, false⟩ else []
theorem findE_a {t : List En} {i g : Int} (h : okT t = false) : findE t i g = 1 := by unfold findE; rw [if_pos h]
theorem findE_b {t : List En} {i g : Int} (h : okT t = true) (hi : i < 0) : findE t i g = 6 := by unfold findE; rw [if_neg (by rw [h]; decide), if_pos hi]
theorem findE_c {t : List En} {j : Nat} {g : Int} (h : okT t = true) (hi : t.length ≤ j) : findE t j g = 6 := by
  unfold findE; rw [if_neg (by rw [h]; decide), if_neg (by omega), Int.toNat_natCast, List.getElem?_eq_none hi]
theorem findE_d {t : List En} {j : Nat} {g : Int} {e : En} (h : okT t = true) (he : t[j]? = some e) : findE t j g = if g < 1 ∨ e.gn < g then 6 else if g < e.gn ∨ e.lv = false then 8 else 0 := by
  unfold findE; rw [if_neg (by rw [h]; decide), if_neg (by omega), Int.toNat_natCast, he]
theorem findE_zero {t : List En} {i g : Int} (h : findE t i g = 0) : ∃ (j : Nat) (e : En), i = j ∧ okT t = true ∧ t[j]? = some e ∧ e.gn = g ∧ 1 ≤ g ∧ e.lv = true := by
  cases h1 : okT t
  · rw [findE_a h1] at h; omega
  · by_cases h2 : i < 0
    · rw [findE_b h1 h2] at h; omega
    · obtain ⟨j, rfl⟩ : ∃ j : Nat, i = j := ⟨i.toNat, by omega⟩
      cases he : t[j]? with
      | none => rw [findE_c h1 (List.getElem?_eq_none_iff.1 he)] at h; omega
      | some e =>
        rw [findE_d h1 he] at h
        by_cases h3 : g < 1 ∨ e.gn < g
        · rw [if_pos h3] at h; omega
        · rw [if_neg h3] at h
          by_cases h4 : g < e.gn ∨ e.lv = false
          · rw [if_pos h4] at h; omega
          · refine ⟨j, e, rfl, rfl, he, by omega, by omega, ?_⟩
            cases hl : e.lv
            · exact absurd (.inr hl) h4
            · rfl
/-- The references of the Live entries. -/
def refsOf : List En → List Int
  | [] => []
  | e :: r => if e.lv then e.rf :: refsOf r else refsOf r
def refsT (t : List En) : List Int := if okT t then refsOf t else []
theorem refsOf_append : ∀ (a b : List En), refsOf (a ++ b) = refsOf a ++ refsOf b
  | [], b => rfl
  | e :: r, b => by rw [List.cons_append, refsOf, refsOf, refsOf_append r b]; split <;> rfl
theorem refsOf_take {t : List En} {k : Nat} {e : En} (h : t[k]? = some e) : refsOf (t.take (k + 1)) = refsOf (t.take k) ++ if e.lv then [e.rf] else [] := by
  rw [take_snoc' h, refsOf_append]; simp only [refsOf]
/-- The places of the Live entries. -/
def liveFrom : Nat → List En → List Int
  | _, [] => []
  | n, e :: r => if e.lv then (n : Int) :: liveFrom (n + 1) r else liveFrom (n + 1) r
def liveI (t : List En) : List Int := liveFrom 0 t
theorem liveFrom_len : ∀ (t : List En) (n : Nat), (liveFrom n t).length = (refsOf t).length
  | [], _ => rfl
  | e :: r, n => by rw [liveFrom, refsOf]; split <;> simp [liveFrom_len r (n + 1)]
theorem live_len (t : List En) : (liveI t).length = (refsOf t).length := liveFrom_len t 0
theorem refs_le : ∀ t : List En, (refsOf t).length ≤ t.length
  | [] => Nat.le_refl _
  | e :: r => by have := refs_le r; rw [refsOf]; split <;> simp <;> omega
theorem liveFrom_mem : ∀ (t : List En) (n : Nat) (x : Int), x ∈ liveFrom n t ↔ ∃ (k : Nat) (e : En), t[k]? = some e ∧ e.lv = true ∧ x = ((n + k : Nat) : Int)
  | [], n, x => by simp [liveFrom]
  | e :: r, n, x => by
    have ih := liveFrom_mem r (n + 1) x
    have hex : (∃ (k : Nat) (y : En), (e :: r)[k]? = some y ∧ y.lv = true ∧ x = ((n + k : Nat) : Int)) ↔ (e.lv = true ∧ x = n) ∨ ∃ (k : Nat) (y : En), r[k]? = some y ∧ y.lv = true ∧ x = ((n + 1 + k : Nat) : Int) := by
      constructor
      · rintro ⟨k, y, hy, hl, hx⟩
        cases k with
        | zero => cases hy; exact .inl ⟨hl, by simpa using hx⟩
        | succ k => exact .inr ⟨k, y, hy, hl, by omega⟩
      · rintro (⟨hl, hx⟩ | ⟨k, y, hy, hl, hx⟩)
        · exact ⟨0, e, rfl, hl, by simpa using hx⟩
        · exact ⟨k + 1, y, hy, hl, by omega⟩
    rw [hex, ← ih, liveFrom]
    by_cases hl : e.lv = true
    · rw [if_pos hl, List.mem_cons]; simp [hl]
    · rw [if_neg hl]; simp [hl]
theorem liveFrom_sorted : ∀ (t : List En) (n : Nat), (liveFrom n t).Pairwise (fun a b => a < b)
  | [], _ => List.Pairwise.nil
  | e :: r, n => by
    unfold liveFrom
    split
    · refine List.Pairwise.cons (fun b hb => ?_) (liveFrom_sorted r (n + 1))
      obtain ⟨k, _, _, _, rfl⟩ := (liveFrom_mem r (n + 1) b).1 hb
      omega
    · exact liveFrom_sorted r (n + 1)
/-- The k-th live entry. -/
theorem live_at : ∀ (t : List En) (n k : Nat) (x : Int), (liveFrom n t)[k]? = some x → ∃ (i : Nat) (e : En), x = ((n + i : Nat) : Int) ∧ t[i]? = some e ∧ e.lv = true ∧ (refsOf (t.take i)).length = k ∧ (refsOf t)[k]? = some e.rf
  | [], n, k, x, h => by simp [liveFrom] at h
  | e :: r, n, k, x, h => by
    unfold liveFrom at h
    by_cases hl : e.lv = true
    · rw [if_pos hl] at h
      cases k with
      | zero =>
        simp at h; subst h
        exact ⟨0, e, by simp, rfl, hl, rfl, by rw [refsOf, if_pos hl]; rfl⟩
      | succ k =>
        rw [List.getElem?_cons_succ] at h
        obtain ⟨i, y, rfl, hy, hyl, hk, hr⟩ := live_at r (n + 1) k x h
        exact ⟨i + 1, y, by omega, hy, hyl, by rw [List.take_succ_cons, refsOf, if_pos hl, List.length_cons, hk], by rw [refsOf, if_pos hl, List.getElem?_cons_succ]; exact hr⟩
    · rw [if_neg hl] at h
      obtain ⟨i, y, rfl, hy, hyl, hk, hr⟩ := live_at r (n + 1) k x h
      exact ⟨i + 1, y, by omega, hy, hyl, by rw [List.take_succ_cons, refsOf, if_neg hl, hk], by rw [refsOf, if_neg hl]; exact hr⟩
/-- What Move answers. -/
def moveR (t : List En) (m : Nat) : Int := if okT t = false ∨ m ≠ (refsOf t).length then 1 else 0
/-- The table whose first k live entries have new references. -/
def rankV (t : List En) (i : Nat) : Nat := (refsOf (t.take i)).length
def mvTo (t : List En) (xs : List Int) (k : Nat) : Nat → Option Int := fun i => match t[i]? with
  | some e => if e.lv = true then (if rankV t i < k then some (xs.getD (rankV t i) 0) else some e.rf) else none
  | none => none
def mvT (t : List En) (xs : List Int) : List En := tabOf (gs t) (mvTo t xs (refsOf t).length)
def moveT (t : List En) (xs : List Int) : List En := if moveR t xs.length = 0 then mvT t xs else []
theorem mvTo_zero (t : List En) (xs : List Int) : mvTo t xs 0 = tf t := by
  funext i
  unfold mvTo tf rfO
  cases t[i]? with
  | none => rfl
  | some e => simp only; rw [if_neg (Nat.not_lt_zero _)]
theorem rank_lt {t : List En} {i : Nat} {e : En} (h : t[i]? = some e) (hl : e.lv = true) : rankV t i < (refsOf t).length := by
  have h1 := refsOf_take h
  rw [if_pos hl] at h1
  have h2 : refsOf t = refsOf (t.take (i + 1)) ++ refsOf (t.drop (i + 1)) := by rw [← refsOf_append, List.take_append_drop]
  unfold rankV
  rw [h2, h1]
  simp only [List.length_append, List.length_cons, List.length_nil]; omega
theorem rank_mono (t : List En) {i j : Nat} (h : i ≤ j) : rankV t i ≤ rankV t j := by
  unfold rankV
  have : t.take j = t.take i ++ (t.take j).drop i := by
    have h1 := (List.take_append_drop i (t.take j)).symm
    rw [List.take_take, Nat.min_eq_left h] at h1
    exact h1
  rw [this, refsOf_append, List.length_append]; omega
theorem rank_succ {t : List En} {i : Nat} {e : En} (h : t[i]? = some e) : rankV t (i + 1) = rankV t i + if e.lv = true then 1 else 0 := by
  unfold rankV
  rw [refsOf_take h, List.length_append]; split <;> simp
theorem rank_inj {t : List En} {i j : Nat} {a b : En} (hi : t[i]? = some a) (hj : t[j]? = some b) (ha : a.lv = true) (hb : b.lv = true) (h : rankV t i = rankV t j) : i = j := by
  rcases Nat.lt_trichotomy i j with h1 | h1 | h1
  · have h2 := rank_mono t (show i + 1 ≤ j from h1)
    rw [rank_succ hi, if_pos ha] at h2; omega
  · exact h1
  · have h2 := rank_mono t (show j + 1 ≤ i from h1)
    rw [rank_succ hj, if_pos hb] at h2; omega
theorem mvTo_step {t : List En} {xs : List Int} {i : Nat} {e : En} {x : Int} (he : t[i]? = some e) (hl : e.lv = true) (hx : xs[rankV t i]? = some x) : mvTo t xs (rankV t i + 1) = upd (mvTo t xs (rankV t i)) i (some x) := by
  funext j
  by_cases hj : j = i
  · subst hj
    rw [upd_same]
    unfold mvTo
    rw [he]
    simp only
    rw [if_pos hl, if_pos (by omega), List.getD, hx]; rfl
  · rw [upd_other _ _ hj]
    unfold mvTo
    cases hy : t[j]? with
    | none => rfl
    | some y =>
      simp only
      by_cases hyl : y.lv = true
      · rw [if_pos hyl, if_pos hyl]
        have hne : rankV t j ≠ rankV t i := fun h => hj (rank_inj hy he hyl hl h)
        by_cases h1 : rankV t j < rankV t i
        · rw [if_pos (by omega), if_pos h1]
        · rw [if_neg (by omega), if_neg h1]
      · rw [if_neg hyl, if_neg hyl]
end Go.Proofs.Ytggaaobpaodigaa
