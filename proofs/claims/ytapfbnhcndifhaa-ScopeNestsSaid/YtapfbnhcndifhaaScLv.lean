/- Contract of package scope: Leave. -/
import Derived.Test.YtapfbnhcndifhaaScBk
import Derived.Test.YtapfbnhcndifhaaScO
set_option linter.unusedVariables false
set_option linter.unusedSimpArgs false
namespace Go.Proofs.Ytapfbnhcndifhaa
open Go.RowKit Go.Shelf
attribute [local go_sem] Oper.semAt_some

/-- The last scope below k whose Base is true. -/
def findB (sc : List Sp) : Nat → Option (Nat × Sp)
  | 0 => none
  | k + 1 => match sc[k]? with
    | some s => if s.bs then some (k, s) else findB sc k
    | none => findB sc k
theorem findB_none {sc : List Sp} : ∀ n, (∀ j s, j < n → sc[j]? = some s → s.bs = false) → findB sc n = none
  | 0, _ => rfl
  | n + 1, h => by
    have ih := findB_none n fun j s hj hs => h j s (by omega) hs
    rw [findB]
    cases hs : sc[n]? with
    | none => exact ih
    | some s => simp only; rw [if_neg (by rw [h n s (by omega) hs]; decide)]; exact ih
theorem findB_some {sc : List Sp} {k : Nat} {s : Sp} (hs : sc[k]? = some s) (hb : s.bs = true) : ∀ d, (∀ j t, k < j → j < k + 1 + d → sc[j]? = some t → t.bs = false) → findB sc (k + 1 + d) = some (k, s)
  | 0, _ => by rw [Nat.add_zero, findB, hs]; simp only; rw [if_pos hb]
  | d + 1, h => by
    have ih := findB_some hs hb d fun j t h1 h2 h3 => h j t h1 (by omega) h3
    rw [show k + 1 + (d + 1) = (k + 1 + d) + 1 by omega, findB]
    cases ht : sc[k + 1 + d]? with
    | none => exact ih
    | some t => simp only; rw [if_neg (by rw [h _ t (by omega) (by omega) ht]; decide)]; exact ih
/-- What Leave answers. -/
def leaveE (l : Loc) : Int := if okB l = false then 1 else match findB l.sc l.sc.length with
  | some _ => 0
  | none => 9
def leaveL (l : Loc) : Loc := if okB l = false then loc0 else match findB l.sc l.sc.length with
  | some (k, s) => cutL l k s
  | none => loc0
theorem leave_some {l : Loc} {k : Nat} {s : Sp} (h : okB l = true) (hf : findB l.sc l.sc.length = some (k, s)) : leaveE l = 0 ∧ leaveL l = cutL l k s := by
  unfold leaveE leaveL; rw [h, hf]; exact ⟨rfl, rfl⟩
theorem leave_none {l : Loc} (h : okB l = true) (hf : findB l.sc l.sc.length = none) : leaveE l = 9 ∧ leaveL l = loc0 := by
  unfold leaveE leaveL; rw [h, hf]; exact ⟨rfl, rfl⟩

theorem OwnL.kept {w w' : World} {b : Nat} {vs : List Value} {row : Option Nat} (h : OwnL w b vs) (h0 : 0 < vs.length) (hg : w.grownBy w' row) (hr : ∀ r, row = some r → ∃ o : Obj, w.heap[r]? = some o ∧ o.isCells = false) : OwnL w' b vs := by
  have hne : some b ≠ row := fun e => by
    obtain ⟨o, ho, hc⟩ := hr b e.symm
    have h1 := h.cell 0 _ (List.getElem?_eq_getElem h0)
    obtain ⟨o', ho', hc'⟩ := cells_of_cell h1
    simp only at ho'
    rw [ho] at ho'; cases ho'; rw [hc] at hc'; cases hc'
  exact h.grown hg (h.lt (List.getElem?_eq_getElem h0)) hne
theorem VRow.kept {w w' : World} {s : Nat} {p : Option Addr} {n c : Nat} {vs : List Value} {row : Option Nat} (h : VRow w s p n c vs) (hg : w.grownBy w' row) (hr : ∀ r, row = some r → ∃ o : Obj, w.heap[r]? = some o ∧ o.isCells = false) : VRow w' s p n c vs :=
  ⟨h.len, h.le, h.max, fun i v hv => by obtain ⟨b, off, hp, hc⟩ := h.row i v hv; exact ⟨b, off, hp, cell_kept hc hg hr⟩⟩
theorem SRow.kept {w w' : World} {kd : IntKind} {p : Option Addr} {n c : Nat} {xs : List Int} {row : Option Nat} (h : SRow w kd p n c xs) (hg : w.grownBy w' row) (hr : ∀ r, row = some r → ∃ o : Obj, w.heap[r]? = some o ∧ o.isCells = false) : SRow w' kd p n c xs :=
  ⟨h.len, h.le, h.max, fun i v hv => by obtain ⟨b, off, hp, hc⟩ := h.row i v hv; exact ⟨b, off, hp, cell_kept hc hg hr⟩⟩
theorem LRow.kept {w w' : World} {pa pb pc : Option Addr} {na ca nb cb nc cc : Nat} {l : Loc} {row : Option Nat} (h : LRow w pa na ca pb nb cb pc nc cc l) (hg : w.grownBy w' row) (hr : ∀ r, row = some r → ∃ o : Obj, w.heap[r]? = some o ∧ o.isCells = false) : LRow w' pa na ca pb nb cb pc nc cc l :=
  ⟨h.sl.kept hg hr, h.sc.kept hg hr, h.is.kept hg hr⟩
theorem cell_same {w : World} {a p : Addr} {v : Value} (h : w.cell? a = some v) : (w.setCell a v).cell? p = w.cell? p := by
  by_cases e : a = p
  · subst e; rw [World.cell?_setCell_same _ _ _ h, h]
  · exact World.cell?_setCell_other _ _ _ _ e
theorem LRow.same {w : World} {pa pb pc : Option Addr} {na ca nb cb nc cc : Nat} {l : Loc} (h : LRow w pa na ca pb nb cb pc nc cc l) {a : Addr} {v : Value} (hv : w.cell? a = some v) : LRow (w.setCell a v) pa na ca pb nb cb pc nc cc l :=
  ⟨⟨h.sl.len, h.sl.le, h.sl.max, fun i v hv' => by obtain ⟨b, off, hp, hc⟩ := h.sl.row i v hv'; exact ⟨b, off, hp, by rw [cell_same hv]; exact hc⟩⟩,
   ⟨h.sc.len, h.sc.le, h.sc.max, fun i v hv' => by obtain ⟨b, off, hp, hc⟩ := h.sc.row i v hv'; exact ⟨b, off, hp, by rw [cell_same hv]; exact hc⟩⟩,
   ⟨h.is.len, h.is.le, h.is.max, fun i v hv' => by obtain ⟨b, off, hp, hc⟩ := h.is.row i v hv'; exact ⟨b, off, hp, by rw [cell_same hv]; exact hc⟩⟩⟩
theorem keepsFrom_below {w w' : World} {B : Nat} (h : Below w.heap.size w w') : KeepsFrom B w w' := ⟨h.size, fun k o _ hk _ => (h.block k (Array.getElem?_eq_some_iff.1 hk).1).trans hk⟩

/-- What a round leaves behind that ends the loop. -/
def LeftAt (l : Loc) (B : Nat) (pre : List (Fin l.sc.length)) (W : World) : Prop :=
  ∃ ini last, pre = ini ++ [last] ∧ (∀ x ∈ ini, l.sc[x].bs = false) ∧ l.sc[last].bs = true ∧
    ∃ pa na ca pb nb cb pc nc cc, OwnL W (B + 1) [.slice pa na ca, .slice pb nb cb, .slice pc nc cc] ∧ W.cell? ⟨B + 2, 0, none⟩ = some (.int .i64 0) ∧ LRow W pa na ca pb nb cb pc nc cc (cutL l last.1 l.sc[last])

theorem start3 {w w2 : World} {a b c : Value} {T U : TypeId} (hb : Below (((w.alloc (.cells #[a, b, c] T)).alloc (.cells #[.slice none 0 0, .slice none 0 0, .slice none 0 0] T)).alloc (.cells #[.int .i64 0] U)).heap.size (((w.alloc (.cells #[a, b, c] T)).alloc (.cells #[.slice none 0 0, .slice none 0 0, .slice none 0 0] T)).alloc (.cells #[.int .i64 0] U)) w2) :
    OwnL w2 w.heap.size [a, b, c] ∧ OwnL w2 (w.heap.size + 1) [.slice none 0 0, .slice none 0 0, .slice none 0 0] ∧ OwnL w2 (w.heap.size + 1 + 1) [.int .i64 0] ∧ Below w.heap.size w w2 ∧ w.heap.size + 3 ≤ w2.heap.size := by
  have h1 := OwnL.new (w.alloc (.cells #[a, b, c] T)) [.slice none 0 0, .slice none 0 0, .slice none 0 0] T
  have h2 := OwnL.new ((w.alloc (.cells #[a, b, c] T)).alloc (.cells #[.slice none 0 0, .slice none 0 0, .slice none 0 0] T)) [.int .i64 0] U
  simp only [World.size_alloc] at h1 h2
  refine ⟨(((OwnL.new w _ _).keep below_box (by simp)).keep below_box (by (first | omega | (simp; omega) | simp))).keep hb (by (first | omega | (simp; omega) | simp)), (h1.keep below_box (by (first | omega | (simp; omega) | simp))).keep hb (by (first | omega | (simp; omega) | simp)), h2.keep hb (by simp), bthen (bthen (bthen below_box below_box) below_box) hb, ?_⟩
  have := hb.size; simp at this; omega
set_option maxRecDepth 100000 in
set_option maxHeartbeats 6400000 in
theorem scLeave_any (pa : Option Addr) (na ca : Nat) (pb : Option Addr) (nb cb : Nat) (pc : Option Addr) (nc cc : Nat) (l : Loc) (w : World) (hr : LRow w pa na ca pb nb cb pc nc cc l) :
    Calls Try.prog 33 #[.agg #[.slice pa na ca, .slice pb nb cb, .slice pc nc cc]] w fun e w' => RetL (leaveL l) (leaveE l) e w' ∧ Below w.heap.size w w' := by
  have Hl := Lib.hid hr.lens
  obtain ⟨h63a, h63b, h63c⟩ := hr.i63
  have Hr := Lib.hid (fun w' (h : Below w.heap.size w w') => hr.keep h)
  have hv := Lib.hid (fun w h => scValid_any pa na ca pb nb cb pc nc cc l w h)
  clear hr
  cases ho : okB l
  · have E : leaveE l = 1 ∧ leaveL l = loc0 := by unfold leaveE leaveL; rw [ho]; exact ⟨rfl, rfl⟩
    rw [E.1, E.2]
    rw [ho] at hv
    clear E ho
    go_enter Try.func33, Try.ntmps33
    go_wp2_with fail
    refine (hv.out _ (Hr.out _ (bthen (bthen below_box below_box) below_box))).mono ?_
    rintro e w2 ⟨rfl, hb2⟩
    obtain ⟨hX, hY, hZ, hB2, hs2⟩ := start3 hb2
    have HB := Lib.hid hB2
    obtain ⟨y0, y1, y2, z0, z1, z2⟩ := own6 hY
    have y3 := hZ.cell 0 _ rfl
    have z3 := hZ.free 0
    clear hX hY hZ hB2 hb2
    go_wp2
    exact bodyPost_ret (v := .tuple #[.agg #[.slice none 0 0, .slice none 0 0, .slice none 0 0], .int .i64 1]) (by simp [results, Try.results33, go_sem, y0, y1, y2, y3]) rfl ⟨RetL.zero _ _, (((HB.out.setCell (by simp) _).setCell (by simp) _).setCell (by simp) _).setCell (by simp; omega) _⟩
  · obtain ⟨k1, k2, k3⟩ := lens_ok ho
    rw [Hl.out.2.1] at k2
    have hv2 := Lib.hid (fun w h => (show Calls Try.prog 35 #[.agg #[.slice pa na ca, .slice pb nb cb, .slice pc nc cc]] w fun e w' => e = .returned (.bool true) ∧ Below w.heap.size w w' from by rw [← ho]; exact hv.out w h))
    have Ho := Lib.hid ho
    clear hv ho
    refine (callsIn_wide (n := 6)).1 ?_
    refine callsIn_of_wp_marks Try.func33 rfl trivial ?_ rfl
    simp only [Try.ntmps33, List.size_toArray, List.length_cons, List.length_nil, Nat.reduceAdd, Nat.reduceSub, Array.replicate_succ, Array.replicate_zero, List.push_toArray, List.append_toArray, List.nil_append, List.cons_append]
    gi_wp2_with (first
      | (refine ⟨trivial, ?_⟩; gi_at_call 35; refine (callsIn_wide.2 (hv2.out _ (Hr.out _ (bthen (bthen below_box below_box) below_box)))).mono ?_; rintro e w2 ⟨rfl, hb2⟩; (obtain ⟨hX, hY, hZ, hB2, hs2⟩ := start3 hb2); (obtain ⟨x0, x1, x2⟩ := own3c hX))
      | (refine ⟨trivial, ?_⟩; gi_at_call 47; refine (backward_any Fence.wide _ trivial rfl _ _ _ _).mono ?_; rintro e w3 ⟨rfl, rfl⟩))
    have HX := Lib.hid (hX.keep (below_box (o := .cells #[.slice pb nb cb] 25)) (by omega))
    have HY := Lib.hid (hY.keep (below_box (o := .cells #[.slice pb nb cb] 25)) (by omega))
    have HZ := Lib.hid (hZ.keep (below_box (o := .cells #[.slice pb nb cb] 25)) (by omega))
    have HB := Lib.hid (bthen hB2 (below_box (o := .cells #[.slice pb nb cb] 25)))
    have HN := Lib.hid (OwnL.new w2 [.slice pb nb cb] 25)
    obtain ⟨Bs, hBs⟩ : ∃ Bs, w2.heap.size = Bs := ⟨_, rfl⟩
    have hsz : (w2.alloc (.cells #[.slice pb nb cb] 25)).heap.size = Bs + 1 := by rw [← hBs]; simp
    obtain ⟨w0, hw0⟩ : ∃ w0, w2.alloc (.cells #[.slice pb nb cb] 25) = w0 := ⟨_, rfl⟩
    rw [hBs] at hs2 HN ⊢
    rw [hw0] at HX HY HZ HB HN hsz ⊢
    clear hX hY hZ hB2 hb2 x0 x1 x2 hw0 hBs
    have hN := HN.out.cell 0 _ rfl
    have Hb := Lib.hid (fun W' (h : Below w0.heap.size w0 W') => (cell_keep h hN : W'.cell? ⟨Bs, 0, none⟩ = some (.slice pb nb cb)))
    have Hc := Lib.hid (fun W' (h : Below w0.heap.size w0 W') => (Hr.out W' (bthen HB.out h)).sc)
    refine wpIn_rangeFunc_ownH rfl (by omega) (gf := 61) (lb := #[.pointer (some ⟨Bs, 0, none⟩)]) rfl trivial (enters_of Try.func61 (by kernel_rfl) rfl)
      (back_stops Fence.wide 5 trivial rfl (by omega) Bs w0.heap.size pb nb cb l.sc Hl.out.2.1 k2 w0 (Nat.le_refl _) Hb.out Hc.out) belowK_t (belowK_b (Nat.le_refl _)) (Below.refl _ _) (fun _ => rfl)
      (fun pre W => (∀ x ∈ pre, l.sc[x].bs = false) ∧ Below w0.heap.size w0 W)
      (fun c pre W => (c = .ret ∧ LeftAt l w.heap.size pre W) ∧ Below w.heap.size w W)
      (OwnFrom.and (ownFrom_pure _ _) (ownFrom_below (Nat.le_refl _) (Nat.le_refl _)))
      (fun c => OwnFrom.and (OwnFrom.and (ownFrom_pure _ _) (Own.from (fun s X Y row hs hg hr => by
        obtain ⟨ini, last, e1, e2, e3, qa, ma, da, qb, mb, db, qc, mc, dc, h1, h2, h3⟩ := hs
        exact ⟨ini, last, e1, e2, e3, qa, ma, da, qb, mb, db, qc, mc, dc, h1.kept (by simp) hg hr, cell_kept h2 hg hr, h3.kept hg hr⟩) _)) (ownFrom_below (Nat.le_refl _) (by omega)))
      ⟨by simp, Below.refl _ _⟩
      (fun x a' W => ∃ Bx, w0.heap.size ≤ Bx ∧ OwnL W Bx (spC l.sc[x]) ∧ a' = { tmps := #[.agg #[.slice pa na ca, .slice pb nb cb, .slice pc nc cc], .pointer (some ⟨w.heap.size, 0, none⟩), .pointer (some ⟨w.heap.size + 1, 0, none⟩), .pointer (some ⟨w.heap.size + 1 + 1, 0, none⟩), .int .i64 (x.1 : Int), .pointer (some ⟨Bx, 0, none⟩), .agg #[.slice pa na ca, .slice pb nb cb, .slice pc nc cc], .bool true, .bool false, undef, .pointer (some ⟨w.heap.size, 1, none⟩), .slice pb nb cb, .func (.func 61) #[] #[.pointer (some ⟨Bs, 0, none⟩)], .int .i64 (x.1 : Int), .agg #[.int .i64 l.sc[x].fr, .int .i64 l.sc[x].cp, .bool l.sc[x].bs], undef, undef, undef, undef, undef, undef], defers := [] })
      (fun x a' _ X Y row hs hg hr => by obtain ⟨Bx, e1, e2, e3⟩ := hs; exact ⟨Bx, e1, e2.kept (by simp [spC]) hg (fun r e => (hr r e).2), e3⟩)
      ?assign ?body ?done ?stop
    case assign =>
      rintro lp pre x W K ⟨hp, hBW⟩ hK
      have HK := Lib.hid hK
      have HP := Lib.hid hp
      have HBW := Lib.hid hBW
      clear hK hp hBW
      unfold encB
      gi_wp2
      exact HK.out _ _ ((KeepsOthers.alloc _ _).from _) (below_box.mono HBW.out.size) ⟨HP.out, HBW.out.trans (below_box.mono HBW.out.size)⟩ ⟨W.heap.size, HBW.out.size, OwnL.new W [.int .i64 l.sc[x].fr, .int .i64 l.sc[x].cp, .bool l.sc[x].bs] _, rfl⟩
    case body =>
      rintro lp pre x a' W hlo ⟨r, hr⟩ ⟨hp, hBW⟩ ⟨Bx, hBx, hO, rfl⟩ hlt
      have HP := Lib.hid hp
      have HBW := Lib.hid hBW
      have HO := Lib.hid hO
      clear hp hBW hO
      obtain ⟨c0, c1, c2⟩ := own3c (show OwnL W Bx [.int .i64 l.sc[x].fr, .int .i64 l.sc[x].cp, .bool l.sc[x].bs] from HO.out)
      have hsx : l.sc[x.1]? = some l.sc[x] := List.getElem?_eq_getElem x.2
      have HBa := Lib.hid (bthen HB.out HBW.out)
      have HXa := Lib.hid (HX.out.keep HBW.out (by omega))
      have HYa := Lib.hid (HY.out.keep HBW.out (by omega))
      have HZa := Lib.hid (HZ.out.keep HBW.out (by omega))
      have hsW := HBW.out.size
      obtain ⟨x0, x1, x2⟩ := own3c HXa.out
      have hcl := Lib.hid (fun w h => closeFrom_any pa na ca pb nb cb pc nc cc l x.1 l.sc[x] w h Ho.out hsx)
      obtain ⟨S, hS⟩ : ∃ S, Hid (l.sc[x] = S) := ⟨_, Lib.hid rfl⟩
      rw [hS.out] at c0 c1 c2 hcl hsx ⊢
      cases hbs : S.bs
      · rw [hbs] at c2
        have Hf := Lib.hid (show l.sc[x].bs = false by rw [hS.out]; exact hbs)
        clear hbs hcl hsx
        gi_wp2
        exact ⟨KeepsFrom.refl _ _, Below.refl _ _, fun y hy => (List.mem_append.1 hy).elim (HP.out y) (fun e => by rw [List.mem_singleton.1 e]; exact Hf.out), HBW.out⟩
      · rw [hbs] at c2
        have Ht := Lib.hid (show l.sc[x].bs = true by rw [hS.out]; exact hbs)
        clear hbs hsx
        gi_wp2_with (refine ⟨trivial, ?_⟩; gi_at_call 39; refine (CallsIn.inRound lp (callsIn_wide.2 (hcl.out _ (Hr.out _ HBa.out)))).mono ?_; rintro e w5 ⟨⟨ra, ka, ea, rb, kb, eb, rc, kc, ec, rfl, hrow⟩, hb5⟩; (obtain ⟨y0, y1, y2, z0, z1, z2⟩ := own6 (HYa.out.keep hb5 (by omega))); have y3 := (HZa.out.keep hb5 (by omega)).cell 0 _ rfl; have z3 := (HZa.out.keep hb5 (by omega)).free 0; have HR5 := Lib.hid (hrow.set3 (HYa.out.keep hb5 (by omega)) (.slice ra ka ea) (.slice rb kb eb) (.slice rc kc ec)); have HY5 := Lib.hid (set3_own (x := .slice ra ka ea) (y := .slice rb kb eb) (z := .slice rc kc ec) (HYa.out.keep hb5 (by omega))); have HZ5 := Lib.hid (set3_other (B := w.heap.size + 1) (x := .slice ra ka ea) (y := .slice rb kb eb) (z := .slice rc kc ec) (HZa.out.keep hb5 (by omega)) (by omega)); have HB5 := Lib.hid (bthen HBa.out hb5); have HK5 := Lib.hid (keepsFrom_below (B := w0.heap.size) hb5); clear hrow hb5)
        exact ⟨((((HK5.out.trans ((KeepsOthers.setCell _ _ _).from _)).trans ((KeepsOthers.setCell _ _ _).from _)).trans ((KeepsOthers.setCell _ _ _).from _)).trans ((KeepsOthers.setCell _ _ _).from _)),
          ⟨rfl, pre, x, rfl, HP.out, Ht.out, ra, ka, ea, rb, kb, eb, rc, kc, ec, HY5.out.other _ _ (by simp), (HZ5.out.set 0 (.int .i64 0) (by simp)).cell 0 _ rfl, by rw [hS.out]; exact HR5.out.same (HZ5.out.cell 0 _ rfl)⟩,
          (set3_below HB5.out (by omega)).setCell (by simp; omega) _⟩
    case done =>
      rintro D ys W hD hall ⟨hp, hBW⟩ hK
      have E := leave_none Ho.out (findB_none l.sc.length fun j s hj hs => by
        have h1 := hp ⟨j, hj⟩ (hall ⟨j, hj⟩)
        have h2 := List.getElem?_eq_getElem hj
        rw [hs] at h2
        rw [show s = l.sc[j] from Option.some.inj h2]; exact h1)
      have HE := Lib.hid E
      have HYd := Lib.hid (HY.out.keep hBW (by omega))
      have HZd := Lib.hid (HZ.out.keep hBW (by omega))
      have HBd := Lib.hid (bthen HB.out hBW)
      obtain ⟨y0, y1, y2, z0, z1, z2⟩ := own6 HYd.out
      have y3 := HZd.out.cell 0 _ rfl
      have z3 := HZd.out.free 0
      have HKD := Lib.hid hK
      clear hp hall E hBW hK
      gi_wp2
      obtain ⟨V, hV⟩ : ∃ V, (((W.setCell ⟨w.heap.size + 1, 0, none⟩ (.slice none 0 0)).setCell ⟨w.heap.size + 1, 1, none⟩ (.slice none 0 0)).setCell ⟨w.heap.size + 1, 2, none⟩ (.slice none 0 0)).setCell ⟨w.heap.size + 1 + 1, 0, none⟩ (.int .i64 9) = V := ⟨_, rfl⟩
      have hY' : OwnL V (w.heap.size + 1) [.slice none 0 0, .slice none 0 0, .slice none 0 0] := by rw [← hV]; exact (set3_own HYd.out).other _ _ (by simp)
      have hZ' : OwnL V (w.heap.size + 1 + 1) [.int .i64 9] := by rw [← hV]; exact (set3_other (B := w.heap.size + 1) HZd.out (by omega)).set 0 (.int .i64 9) (by simp)
      have hK' : V.heap[D]? = some (.deferred (some [])) := by rw [← hV]; exact ((((KeepsOthers.setCell _ _ _).trans (KeepsOthers.setCell _ _ _)).trans (KeepsOthers.setCell _ _ _)).trans (KeepsOthers.setCell _ _ _)).same D _ HKD.out rfl
      have hBV : Below w.heap.size w V := by rw [← hV]; exact (set3_below HBd.out (by omega)).setCell (by simp; omega) _
      rw [hV]
      refine ⟨by simp, .inl ⟨_, _, rfl, run_takeDeferred hK', ?_⟩⟩
      have hg := grownBy_putObj' V D (.deferred none)
      have hgr : ∀ r, some D = some r → ∃ o : Obj, V.heap[r]? = some o ∧ o.isCells = false := fun r e => by cases e; exact ⟨_, hK', rfl⟩
      obtain ⟨a0, a1, a2⟩ := own3c (hY'.kept (by simp) hg hgr)
      have a3 := (hZ'.kept (by simp) hg hgr).cell 0 _ rfl
      refine ⟨.tuple #[.agg #[.slice none 0 0, .slice none 0 0, .slice none 0 0], .int .i64 9], ?_, ?_, hBV.trans (belowK_b (w := w) (Nat.le_refl _) V D _ _ (by omega) hK' rfl rfl)⟩
      · simp [results, Try.f33, go_sem, a0, a1, a2, a3]
      · rw [HE.out.1, HE.out.2]; exact RetL.zero _ _
    case stop =>
      rintro D c pre W hD ⟨k, hk, rfl⟩ ⟨⟨rfl, hL⟩, hBW⟩ hK
      obtain ⟨ini, last, e1, e2, e3, ra, ka, ea, rb, kb, eb, rc, kc, ec, hO, h2, hrow⟩ := hL
      have E : leaveE l = 0 ∧ leaveL l = cutL l last.1 l.sc[last] := by
        obtain ⟨k', rfl⟩ : ∃ k', k = k' + 1 := by
          cases k with
          | zero => simp [bkTo] at e1
          | succ k' => exact ⟨k', rfl⟩
        rw [bkTo] at e1
        obtain ⟨rfl, e5⟩ := List.append_inj' e1 rfl
        have e6 : last.1 = l.sc.length - 1 - k' := by rw [← List.cons.inj e5 |>.1]
        have hls : l.sc[last.1]? = some l.sc[last] := List.getElem?_eq_getElem last.2
        have hf := findB_some hls e3 k' fun j s hj1 hj2 hs => by
          have hjl := (List.getElem?_eq_some_iff.1 hs).1
          have h1 := e2 ⟨j, hjl⟩ ((bkTo_mem l.sc ⟨j, hjl⟩ k' (by omega)).2 (by simp only; omega))
          have h2 := List.getElem?_eq_getElem hjl
          rw [hs] at h2
          rw [show s = l.sc[j] from Option.some.inj h2]; exact h1
        rw [show last.1 + 1 + k' = l.sc.length by omega] at hf
        exact leave_some Ho.out hf
      have HE := Lib.hid E
      have HOd := Lib.hid hO
      have HRd := Lib.hid hrow
      have HBd := Lib.hid hBW
      have HKD := Lib.hid hK
      clear e1 e2 e3 E hO hrow hBW hK
      gi_wp2
      have hK := HKD.out
      refine ⟨by simp, .inl ⟨_, _, rfl, run_takeDeferred hK, ?_⟩⟩
      have hg := grownBy_putObj' W D (.deferred none)
      have hgr : ∀ r, some D = some r → ∃ o : Obj, W.heap[r]? = some o ∧ o.isCells = false := fun r e => by cases e; exact ⟨_, hK, rfl⟩
      obtain ⟨a0, a1, a2⟩ := own3c (HOd.out.kept (by simp) hg hgr)
      have a3 := cell_kept h2 hg hgr
      refine ⟨.tuple #[.agg #[.slice ra ka ea, .slice rb kb eb, .slice rc kc ec], .int .i64 0], ?_, ?_, HBd.out.trans (belowK_b (w := w) (Nat.le_refl _) W D _ _ (by omega) hK rfl rfl)⟩
      · simp [results, Try.f33, go_sem, a0, a1, a2, a3]
      · rw [HE.out.1, HE.out.2]; exact ⟨ra, ka, ea, rb, kb, eb, rc, kc, ec, rfl, HRd.out.kept hg hgr⟩
end Go.Proofs.Ytapfbnhcndifhaa
