/- Two pairs of ints compared. -/
import Derived.Test.YtapfbnhcndifhaaScPt
import Derived.ChangeKeysEq
set_option linter.unusedVariables false
namespace Go.Proofs.Ytapfbnhcndifhaa
open Go.RowKit
set_option maxRecDepth 20000 in
theorem eq_pair (w : World) (a b c d : Int) : (Op.equalIn 10000 42 (.agg #[.int .i64 a, .int .i64 b]) (.agg #[.int .i64 c, .int .i64 d])).run Try.prog w = .ok (a == c && b == d) w := by
  have hu : Try.prog.underlying 42 = some (.array 2 3) := by kernel_rfl
  have hi : Try.prog.underlying 3 = some (.int .i64) := by kernel_rfl
  have hc : Try.prog.cellsOf 3 = 1 := by kernel_rfl
  have e : ∀ x y : Int, (Op.equalIn 9999 3 (.int .i64 x) (.int .i64 y)).run Try.prog w = .ok (x == y) w := fun x y => run_equalIn_int (P := Try.prog) w 9998 3 .i64 .i64 x y hi
  obtain ⟨i, hin⟩ : ∃ i, Try.prog.info? 3 = some i := by
    cases h : Try.prog.info? 3 with
    | none => have := infoInt; rw [h] at this; cases this
    | some i => exact ⟨i, rfl⟩
  have h := run_equalIn_array (P := Try.prog) w 9999 #[.int .i64 a, .int .i64 b] #[.int .i64 c, .int .i64 d] hu hin
  refine h.trans ?_
  rw [hc, show List.range 2 = [0, 1] from rfl]
  generalize hD : (9999 : Nat) = D at e ⊢
  clear h hD
  have p0 : ∀ x y : Int, ((Go.part 3 #[.int .i64 x, .int .i64 y] (0 * 1)).run Try.prog w) = .ok (.int .i64 x) w := fun x y => by kernel_rfl
  have p1 : ∀ x y : Int, ((Go.part 3 #[.int .i64 x, .int .i64 y] (1 * 1)).run Try.prog w) = .ok (.int .i64 y) w := fun x y => by kernel_rfl
  simp only [Op.eqItems, Sem.run_bind, p0, e, Result.andThen_ok]
  cases h1 : (a == c)
  · simp
  · simp only [Bool.not_true, Bool.false_eq_true, if_false, Sem.run_bind, p1, e, Result.andThen_ok]
    cases h2 : (b == d) <;> simp
end Go.Proofs.Ytapfbnhcndifhaa
