/-
  Over this program: two sets that are the same compare so, as a whole.
-/
import Derived.Test.YtfpihoghpogblaaArg
import Derived.ChangeKeysEq
namespace Go.Proofs.Ytfpihoghpogblaa.st
open Go.ChangeShapes Go.WideShapes Go.ChangeAt Go.RowKit
set_option linter.unusedVariables false

theorem info22 : (Try.prog.info? 22).map (fun i => (i.zero, i.size, i.bytes)) = some (some (.int .u64 0), 1, 8) := by kernel_rfl

theorem eq23 (a b c d : Int) (W : World) : (Op.equalIn 9999 23 (.agg #[.int .u64 a, .int .u64 b, .int .u64 c, .int .u64 d]) (.agg #[.int .u64 a, .int .u64 b, .int .u64 c, .int .u64 d])).run Try.prog W = .ok true W := by
  obtain ⟨i, hi, _, _, _⟩ := info_parts info22
  have c22 : Try.prog.cellsOf 22 = 1 := by kernel_rfl
  have r4 : List.range 4 = [0, 1, 2, 3] := rfl
  have he : ∀ x : Int, (Op.equalIn 9998 22 (.int .u64 x) (.int .u64 x)).run Try.prog W = .ok true W := fun x => by
    rw [run_equalIn_int W 9997 22 .u64 .u64 x x Try.underlying22]
    simp
  rw [run_equalIn_array W 9998 _ _ Try.underlying23 hi, c22, r4]
  simp [Op.eqItems, part, Try.isAgg22, he]
end Go.Proofs.Ytfpihoghpogblaa.st
