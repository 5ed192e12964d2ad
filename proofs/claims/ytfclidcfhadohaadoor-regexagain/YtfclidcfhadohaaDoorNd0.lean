/-
  Contracts over this program: whether one node may be (regex.rightNode): what its parts say.
-/
import Derived.Test.YtfclidcfhadohaaDoorRt
namespace Go.Proofs.YtfclidcfhadohaaDoor.st
open Go.ChangeShapes Go.WideShapes Go.ChangeAt Go.RowKit
set_option linter.unusedVariables false

theorem heq_of (q : Q4) (W : World) : (Op.equalIn 9999 23 (.agg #[.int .u64 q.a, .int .u64 q.b, .int .u64 q.c, .int .u64 q.d]) (.agg #[.int .u64 0, .int .u64 0, .int .u64 0, .int .u64 0])).run Tryd.prog W = .ok (noSet q) W := by rw [eq23, noSet_is]
theorem beq0 (n : Nat) : ((n : Int) == 0) = decide (n = 0) := by
  by_cases h : n = 0
  · subst h; rfl
  · rw [decide_eq_false h, beq_eq_false_iff_ne]; omega
theorem beq1 (n : Nat) : ((n : Int) == 1) = decide (n = 1) := by
  by_cases h : n = 1
  · subst h; rfl
  · rw [decide_eq_false h, beq_eq_false_iff_ne]; omega
theorem leq2 (n : Nat) : decide (2 ≤ (n : Int)) = decide (2 ≤ n) := by
  by_cases h : 2 ≤ n
  · rw [decide_eq_true h, decide_eq_true (by omega)]
  · rw [decide_eq_false h, decide_eq_false (by omega)]
def EqS (q : Q4) (ns : Bool) : Prop := ∀ W, (Op.equalIn 9999 23 (.agg #[.int .u64 q.a, .int .u64 q.b, .int .u64 q.c, .int .u64 q.d]) (.agg #[.int .u64 0, .int .u64 0, .int .u64 0, .int .u64 0])).run Tryd.prog W = .ok ns W
def HasAt (w : World) (v : Value) (k : Int) (r : Bool) : Prop := ∀ o, Calls Tryd.prog 50 #[v, .int .i64 k] (w.alloc o) fun e w' => e = .returned (.bool r) ∧ Below w.heap.size w w'
theorem beqf {a b : Int} (h : ¬ a = b) : (a == b) = false := by rw [beq_eq_false_iff_ne]; exact h
def NodeAt (w : World) (k : Int) (q : Q4) (mn mx : Int) (o : Option Addr) (n cap : Nat) (r : Bool) : Prop :=
  Calls Tryd.prog 33 #[.agg #[.int .i64 k, .int .u64 q.a, .int .u64 q.b, .int .u64 q.c, .int .u64 q.d, .int .i64 mn, .int .i64 mx, .slice o n cap]] w fun e w' => e = .returned (.bool r) ∧ Below w.heap.size w w'
end Go.Proofs.YtfclidcfhadohaaDoor.st
