/- Contracts of package scope: copies of local handles (slices.Clone, owned). -/
import Derived.Test.YtapfbnhcndifhaaScD
import Derived.Test.YtapfbnhcndifhaaOwn
import Derived.Lib.SliceRun
set_option linter.unusedVariables false
namespace Go.Proofs.Ytapfbnhcndifhaa
open Go.RowKit

theorem infoSl : (Try.prog.info? 75).map (fun i => (i.zero, i.size, i.bytes)) = some (some (.agg #[.int .i64 0, .int .u64 0, .bool false]), 3, 24) := by kernel_rfl
theorem infoSp : (Try.prog.info? 77).map (fun i => (i.zero, i.size, i.bytes)) = some (some (.agg #[.int .i64 0, .int .i64 0, .bool false]), 3, 24) := by kernel_rfl
theorem slC_one (sl : List Sl) : ∀ v ∈ sl.flatMap slC, v.oneCell' = true := by
  intro v hv
  obtain ⟨s, _, h⟩ := List.mem_flatMap.1 hv
  simp [slC] at h
  rcases h with rfl | rfl | rfl <;> rfl
theorem spC_one (sl : List Sp) : ∀ v ∈ sl.flatMap spC, v.oneCell' = true := by
  intro v hv
  obtain ⟨s, _, h⟩ := List.mem_flatMap.1 hv
  simp [spC] at h
  rcases h with rfl | rfl | rfl <;> rfl
/-- A call returned a row of its own. -/
def RetW (B T s n : Nat) (vs : List Value) (e : Ending) (w' : World) : Prop := ∃ q c, e = .returned (.slice q n c) ∧ w'.ownsRow B T s (.slice q n c) n vs
theorem own_form {w : World} {B T s n : Nat} {v : Value} {vs : List Value} (h : w.ownsRow B T s v n vs) : ∃ q c, v = .slice q n c := by
  rcases h.2 with ⟨rfl, rfl⟩ | ⟨g, c, _, rfl, _⟩
  · exact ⟨none, 0, rfl⟩
  · exact ⟨_, c, rfl⟩
theorem own_none (w : World) (e : TypeId) (s : Nat) : (w.alloc (.cells #[] e)).ownsRow w.heap.size e s (.slice (some ⟨w.heap.size, 0, none⟩) 0 0) 0 [] :=
  ⟨by simp, .inr ⟨w.heap.size, 0, #[], rfl, Nat.le_refl _, heap_alloc_new w _, Nat.le_refl _, Nat.zero_le _, by simp, by simp⟩⟩
theorem own_cell {w : World} {B e s n : Nat} {v : Value} {xs : List Value} (h : w.ownsRow B e s v n xs) (a : Addr) (x : Value) (hne : v.ownBlock ≠ some a.block) : (w.setCell a x).ownsRow B e s v n xs := by
  refine ⟨h.1, ?_⟩
  rcases h.2 with hn | ⟨g, cap, cur, rfl, hg, hh, rest⟩
  · exact .inl hn
  · exact .inr ⟨g, cap, cur, rfl, hg, by rw [Below.heap_setCell _ _ _ _ (fun e => hne (by simp [Value.ownBlock, e]))]; exact hh, rest⟩

set_option maxRecDepth 100000 in
set_option maxHeartbeats 800000 in
theorem clSl_any (p : Option Addr) (n cap : Nat) (l : List Sl) (w : World) (hr : VRow w 3 p n cap (l.flatMap slC)) (hn : n ≤ 5000) :
    Calls Try.prog 54 #[.slice p n cap] w fun e w' => RetW w.heap.size 75 3 n (l.flatMap slC) e w' ∧ Below w.heap.size w w' := by
  obtain ⟨i0, hin, hz0, hz1, hz2⟩ := info_parts infoSl
  have qT : ∀ (w : World) (a : Option Addr) (n c n' c' : Nat), (binOp .eql 24 (.slice a n c) (.slice none n' c')).run Try.prog w = .ok (.bool a.isNone) w := fun w a n c n' c' => Lib.run_eql_slice_nil w _ _ a n c n' c' Try.underlying24
  cases p with
  | none =>
    have hn0 : n = 0 ∧ l = [] := by
      rcases l with _ | ⟨x, r⟩
      · exact ⟨by have h := hr.len; simp at h; omega, rfl⟩
      · obtain ⟨b, off, hp, _⟩ := hr.row 0 _ (show ((x :: r).flatMap slC)[0]? = some _ from rfl); cases hp
    obtain ⟨rfl, rfl⟩ := hn0
    clear hr
    go_enter Try.func54, Try.ntmps54
    go_wp2
    go_ret
    exact ⟨⟨none, 0, rfl, World.ownsRow_nil _ _ _ _⟩, Below.refl _ _⟩
  | some ad =>
    have Hr := Lib.hid hr
    have hown0 : (w.alloc (.cells #[] 75)).ownsRow w.heap.size 75 3 (.slice (some ⟨w.heap.size, 0, none⟩) 0 0) 0 [] := own_none w 75 3
    clear hr
    go_enter Try.func54, Try.ntmps54
    go_wp2_with (at_builtin; refine wpList_append_vrow rfl _ _ 24 rfl w.heap.size 75 i0 _ 3 24 Try.underlying24 hin hz0 hz1 hz2 rfl (by decide) (.slice (some ⟨w.heap.size, 0, none⟩) 0 0) 0 [] rfl hown0 (some ad) n cap (l.flatMap slC) rfl ?src (slC_one l) ?c3 ?c4 ?c5 ?_)
    case src => exact Hr.out.keep below_box
    case c3 => unfold maxLen; omega
    case c4 => omega
    case c5 => simp
    intro v' w2 hown hgrow
    have hb0 : Below w.heap.size w w2 := (below_box).grown hgrow (by simp) (fun k h => by simp [Value.ownBlock] at h; omega)
    try simp only [Nat.zero_add, List.nil_append] at hown
    obtain ⟨q, c, rfl⟩ := own_form hown
    have Hown0 := Lib.hid hown
    clear hgrow hown
    go_wp2
    go_ret
    exact ⟨⟨q, c, rfl, Hown0.out⟩, hb0⟩

set_option maxRecDepth 100000 in
set_option maxHeartbeats 800000 in
theorem clSp_any (p : Option Addr) (n cap : Nat) (l : List Sp) (w : World) (hr : VRow w 3 p n cap (l.flatMap spC)) (hn : n ≤ 5000) :
    Calls Try.prog 55 #[.slice p n cap] w fun e w' => RetW w.heap.size 77 3 n (l.flatMap spC) e w' ∧ Below w.heap.size w w' := by
  obtain ⟨i0, hin, hz0, hz1, hz2⟩ := info_parts infoSp
  have qT : ∀ (w : World) (a : Option Addr) (n c n' c' : Nat), (binOp .eql 25 (.slice a n c) (.slice none n' c')).run Try.prog w = .ok (.bool a.isNone) w := fun w a n c n' c' => Lib.run_eql_slice_nil w _ _ a n c n' c' Try.underlying25
  cases p with
  | none =>
    have hn0 : n = 0 ∧ l = [] := by
      rcases l with _ | ⟨x, r⟩
      · exact ⟨by have h := hr.len; simp at h; omega, rfl⟩
      · obtain ⟨b, off, hp, _⟩ := hr.row 0 _ (show ((x :: r).flatMap spC)[0]? = some _ from rfl); cases hp
    obtain ⟨rfl, rfl⟩ := hn0
    clear hr
    go_enter Try.func55, Try.ntmps55
    go_wp2
    go_ret
    exact ⟨⟨none, 0, rfl, World.ownsRow_nil _ _ _ _⟩, Below.refl _ _⟩
  | some ad =>
    have Hr := Lib.hid hr
    have hown0 : (w.alloc (.cells #[] 77)).ownsRow w.heap.size 77 3 (.slice (some ⟨w.heap.size, 0, none⟩) 0 0) 0 [] := own_none w 77 3
    clear hr
    go_enter Try.func55, Try.ntmps55
    go_wp2_with (at_builtin; refine wpList_append_vrow rfl _ _ 25 rfl w.heap.size 77 i0 _ 3 24 Try.underlying25 hin hz0 hz1 hz2 rfl (by decide) (.slice (some ⟨w.heap.size, 0, none⟩) 0 0) 0 [] rfl hown0 (some ad) n cap (l.flatMap spC) rfl ?src (spC_one l) ?c3 ?c4 ?c5 ?_)
    case src => exact Hr.out.keep below_box
    case c3 => unfold maxLen; omega
    case c4 => omega
    case c5 => simp
    intro v' w2 hown hgrow
    have hb0 : Below w.heap.size w w2 := (below_box).grown hgrow (by simp) (fun k h => by simp [Value.ownBlock] at h; omega)
    try simp only [Nat.zero_add, List.nil_append] at hown
    obtain ⟨q, c, rfl⟩ := own_form hown
    have Hown0 := Lib.hid hown
    clear hgrow hown
    go_wp2
    go_ret
    exact ⟨⟨q, c, rfl, Hown0.out⟩, hb0⟩

set_option maxRecDepth 100000 in
set_option maxHeartbeats 800000 in
theorem clIs_any (p : Option Addr) (n cap : Nat) (l : List Int) (w : World) (hr : SRow w .i64 p n cap l) (hn : n ≤ 5000) :
    Calls Try.prog 56 #[.slice p n cap] w fun e w' => RetW w.heap.size 3 1 n (ivals .i64 l) e w' ∧ Below w.heap.size w w' := by
  obtain ⟨i0, hin, hz0, hz1, hz2⟩ := info_parts infoInt
  have qT : ∀ (w : World) (a : Option Addr) (n c n' c' : Nat), (binOp .eql 26 (.slice a n c) (.slice none n' c')).run Try.prog w = .ok (.bool a.isNone) w := fun w a n c n' c' => Lib.run_eql_slice_nil w _ _ a n c n' c' Try.underlying26
  cases p with
  | none =>
    have hn0 : n = 0 ∧ l = [] := by
      rcases l with _ | ⟨x, r⟩
      · exact ⟨by have h := hr.len; simp at h; omega, rfl⟩
      · obtain ⟨b, off, hp, _⟩ := hr.row 0 _ (show (x :: r)[0]? = some _ from rfl); cases hp
    obtain ⟨rfl, rfl⟩ := hn0
    clear hr
    go_enter Try.func56, Try.ntmps56
    go_wp2
    go_ret
    exact ⟨⟨none, 0, rfl, World.ownsRow_nil _ _ _ _⟩, Below.refl _ _⟩
  | some ad =>
    have Hr := Lib.hid hr
    have hown0 : (w.alloc (.cells #[] 3)).ownsRow w.heap.size 3 1 (.slice (some ⟨w.heap.size, 0, none⟩) 0 0) 0 [] := own_none w 3 1
    clear hr
    go_enter Try.func56, Try.ntmps56
    go_wp2_with (at_builtin; refine wpList_append_row rfl _ _ 26 rfl w.heap.size 3 i0 _ 8 Try.underlying26 hin hz0 hz1 hz2 rfl (.slice (some ⟨w.heap.size, 0, none⟩) 0 0) 0 [] rfl hown0 (some ad) n cap .i64 l rfl ?src ?c3 ?c4 ?c5 ?_)
    case src => exact Hr.out.keep below_box
    case c3 => unfold maxLen; omega
    case c4 => omega
    case c5 => simp
    intro v' w2 hown hgrow
    have hb0 : Below w.heap.size w w2 := (below_box).grown hgrow (by simp) (fun k h => by simp [Value.ownBlock] at h; omega)
    try simp only [Nat.zero_add, List.nil_append] at hown
    obtain ⟨q, c, rfl⟩ := own_form hown
    have Hown0 := Lib.hid hown
    clear hgrow hown
    go_wp2
    go_ret
    exact ⟨⟨q, c, rfl, Hown0.out⟩, hb0⟩

/-- Three rows of one's own in blocks apart read as local handles. -/
structure OwnLoc (w : World) (B : Nat) (pa : Option Addr) (na ca : Nat) (pb : Option Addr) (nb cb : Nat) (pc : Option Addr) (nc cc : Nat) (l : Loc) : Prop where
  a : w.ownsRow B 75 3 (.slice pa na ca) na (l.sl.flatMap slC)
  b : w.ownsRow B 77 3 (.slice pb nb cb) nb (l.sc.flatMap spC)
  c : w.ownsRow B 3 1 (.slice pc nc cc) nc (ivals .i64 l.is)
  ab : ∀ g, (Value.slice pa na ca).ownBlock = some g → (Value.slice pb nb cb).ownBlock ≠ some g
  ac : ∀ g, (Value.slice pa na ca).ownBlock = some g → (Value.slice pc nc cc).ownBlock ≠ some g
  bc : ∀ g, (Value.slice pb nb cb).ownBlock = some g → (Value.slice pc nc cc).ownBlock ≠ some g
theorem own_vrow {w : World} {B e s n c : Nat} {p : Option Addr} {vs : List Value} (h : w.ownsRow B e s (.slice p n c) n vs) : VRow w s p n c vs := by
  obtain ⟨p', c', he, hr⟩ := VRow.of_own h
  cases he; exact hr
theorem own_srow {w : World} {B e n c : Nat} {p : Option Addr} {xs : List Int} (h : w.ownsRow B e 1 (.slice p n c) n (ivals .i64 xs)) : SRow w .i64 p n c xs := by
  obtain ⟨p', c', he, hr⟩ := SRow.of_own h
  cases he; exact hr
theorem OwnLoc.row {w : World} {B : Nat} {pa pb pc : Option Addr} {na ca nb cb nc cc : Nat} {l : Loc} (h : OwnLoc w B pa na ca pb nb cb pc nc cc l) : LRow w pa na ca pb nb cb pc nc cc l := ⟨own_vrow h.a, own_vrow h.b, own_srow h.c⟩
theorem OwnLoc.cell {w : World} {B : Nat} {pa pb pc : Option Addr} {na ca nb cb nc cc : Nat} {l : Loc} (h : OwnLoc w B pa na ca pb nb cb pc nc cc l) (a : Addr) (x : Value) (ha : a.block < B) : OwnLoc (w.setCell a x) B pa na ca pb nb cb pc nc cc l := by
  refine ⟨own_cell h.a a x fun e => ?_, own_cell h.b a x fun e => ?_, own_cell h.c a x fun e => ?_, h.ab, h.ac, h.bc⟩
  · have := (h.a.lt _ e).1; omega
  · have := (h.b.lt _ e).1; omega
  · have := (h.c.lt _ e).1; omega
theorem OwnLoc.keep {w w' : World} {B : Nat} {pa pb pc : Option Addr} {na ca nb cb nc cc : Nat} {l : Loc} (h : OwnLoc w B pa na ca pb nb cb pc nc cc l) (hb : Below w.heap.size w w') : OwnLoc w' B pa na ca pb nb cb pc nc cc l :=
  ⟨own_below h.a hb, own_below h.b hb, own_below h.c hb, h.ab, h.ac, h.bc⟩
theorem OwnLoc.mono {w : World} {B B' : Nat} {pa pb pc : Option Addr} {na ca nb cb nc cc : Nat} {l : Loc} (h : OwnLoc w B pa na ca pb nb cb pc nc cc l) (hb : B' ≤ B) : OwnLoc w B' pa na ca pb nb cb pc nc cc l := by
  have m : ∀ {e s n : Nat} {v : Value} {xs : List Value}, w.ownsRow B e s v n xs → w.ownsRow B' e s v n xs := by
    intro e s n v xs h
    refine ⟨h.1, ?_⟩
    rcases h.2 with hn | ⟨g, cap, cur, he, hg, rest⟩
    · exact .inl hn
    · exact .inr ⟨g, cap, cur, he, by omega, rest⟩
  exact ⟨m h.a, m h.b, m h.c, h.ab, h.ac, h.bc⟩
/-- A call returned local handles of its own. -/
def RetOL (B : Nat) (l : Loc) (e : Ending) (w' : World) : Prop := ∃ pa ca pb cb pc cc, e = .returned (.agg #[.slice pa l.sl.length ca, .slice pb l.sc.length cb, .slice pc l.is.length cc]) ∧ OwnLoc w' B pa l.sl.length ca pb l.sc.length cb pc l.is.length cc l
end Go.Proofs.Ytapfbnhcndifhaa
