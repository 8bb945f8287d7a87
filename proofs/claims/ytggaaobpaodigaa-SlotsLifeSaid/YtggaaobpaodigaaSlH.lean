/- Contracts of package slots: Refs, Move. -/
import Derived.Test.YtggaaobpaodigaaSlG
import Derived.Test.YtggaaobpaodigaaSlL
set_option linter.unusedVariables false
set_option linter.unusedSimpArgs false
namespace Go.Proofs.Ytggaaobpaodigaa
open Go.RowKit

theorem MR.run_put {w : World} {B n : Nat} {f : Nat → Option Int} (h : MR w B n f) (hn : n < 1000) {i : Nat} (hi : i ≤ 1000) {r : Int} (hwf : (Lit.int .u64 r).wf = true) :
    ∃ w', (Instr.mapUpdate 45 (.map (some B)) (.int .i64 i) (.int .u64 r)).run Try.prog w = .ok () w' ∧ MR w' B (n + 1) (upd f i (some r)) ∧ w.grownBy w' (some B) := by
  obtain ⟨D, h1, h2⟩ := h
  obtain ⟨w', hrun, r1, r2⟩ := h1.update keyed Try.underlying45 (by unfold maxLen; omega) (key_nat hi) (plainElem_int Try.underlying29 hwf)
  exact ⟨w', hrun, ⟨_, r1, h2.put h1.isMap hi r⟩, r2⟩
theorem SRow.mapG {w w' : World} {kd : IntKind} {p : Option Addr} {n c B m : Nat} {xs : List Int} {f : Nat → Option Int} (h : SRow w kd p n c xs) (hm : MR w B m f) (hg : w.grownBy w' (some B)) : SRow w' kd p n c xs :=
  ⟨h.len, h.le, h.max, fun i x hx => by
    obtain ⟨b, off, hp, hc⟩ := h.row i x hx
    exact ⟨b, off, hp, hg.cell hc (fun e => hm.apart hc (Option.some.inj e).symm)⟩⟩
theorem tf_rf {t : List En} {i : Nat} {e : En} (he : t[i]? = some e) (hl : e.lv = true) : tf t i = some e.rf := by rw [tf_some he]; unfold rfO; rw [if_pos hl]
theorem infoU : (Try.prog.info? 29).map (fun i => (i.zero, i.size, i.bytes)) = some (some (.int .u64 0), 1, 8) := by kernel_rfl

end Go.Proofs.Ytggaaobpaodigaa
