/-
  Texts put together: Contracts over this program: whether one node may be (regex.rightNode): what its parts say. Contracts over this program: whether one node may be (regex.rightNode): a set. Contracts over this program: whether one node may be (regex.rightNode): one behind the other. Contracts over this program: whether one node may be (regex.rightNode): one of them.
-/
import Derived.Test.YtfilndgbgdnpiaaM11
namespace Go.Proofs.Ytfilndgbgdnpiaa.st
open Go.ChangeShapes Go.WideShapes Go.ChangeAt Go.RowKit
set_option linter.unusedVariables false

theorem heq_of (q : Q4) (W : World) : (Op.equalIn 9999 23 (.agg #[.int .u64 q.a, .int .u64 q.b, .int .u64 q.c, .int .u64 q.d]) (.agg #[.int .u64 0, .int .u64 0, .int .u64 0, .int .u64 0])).run Try.prog W = .ok (noSet q) W := by rw [eq23, noSet_is]
theorem beq0 (n : Nat) : ((n : Int) == 0) = decide (n = 0) := by
  by_cases h : n = 0
  · subst h; rfl
  · rw [decide_eq_false h, beq_eq_false_iff_ne]; omega
theorem beq1 (n : Nat) : ((n : Int) == 1) = decide (n = 1) := by
  by_cases h : n = 1
  · subst h; rfl
  · rw [decide_eq_false h, beq_eq_false_iff_ne]; omega
theorem leq2 (n : Nat) : decide (2 ≤ (n : Int)) = decide (2 ≤ n) := by
  by_cases h : 2 ≤ n
  · rw [decide_eq_true h, decide_eq_true (by omega)]
  · rw [decide_eq_false h, decide_eq_false (by omega)]
def EqS (q : Q4) (ns : Bool) : Prop := ∀ W, (Op.equalIn 9999 23 (.agg #[.int .u64 q.a, .int .u64 q.b, .int .u64 q.c, .int .u64 q.d]) (.agg #[.int .u64 0, .int .u64 0, .int .u64 0, .int .u64 0])).run Try.prog W = .ok ns W
def HasAt (w : World) (v : Value) (k : Int) (r : Bool) : Prop := ∀ o, Calls Try.prog 89 #[v, .int .i64 k] (w.alloc o) fun e w' => e = .returned (.bool r) ∧ Below w.heap.size w w'
theorem beqf {a b : Int} (h : ¬ a = b) : (a == b) = false := by rw [beq_eq_false_iff_ne]; exact h
def NodeAt (w : World) (k : Int) (q : Q4) (mn mx : Int) (o : Option Addr) (n cap : Nat) (r : Bool) : Prop :=
  Calls Try.prog 73 #[.agg #[.int .i64 k, .int .u64 q.a, .int .u64 q.b, .int .u64 q.c, .int .u64 q.d, .int .i64 mn, .int .i64 mx, .slice o n cap]] w fun e w' => e = .returned (.bool r) ∧ Below w.heap.size w w'
end Go.Proofs.Ytfilndgbgdnpiaa.st

namespace Go.Proofs.Ytfilndgbgdnpiaa.st
open Go.ChangeShapes Go.WideShapes Go.ChangeAt Go.RowKit
set_option linter.unusedVariables false

set_option maxHeartbeats 2000000 in
set_option maxRecDepth 100000 in
theorem node1 (w : World) (q : Q4) (mn mx : Int) (o : Option Addr) (n cap : Nat) (ns r : Bool) (hn : n ≤ 9223372036854775807) (heq : EqS q ns) (hr : r = (decide (mn = 0) && decide (mx = 0) && decide (n = 0))) : NodeAt w 1 q mn mx o n cap r := by
  have HR : Hid (r = (decide (mn = 0) && decide (mx = 0) && decide (n = 0))) := hr
  unfold EqS at heq
  unfold NodeAt
  clear hr
  by_cases hmn : mn = 0
  · subst hmn
    by_cases hmx : mx = 0
    · subst hmx
      cases ns
      all_goals
        go_enter Try.func73, Try.ntmps73
        go_wp2_with (fail)
        go_ret
        exact ⟨by rw [HR.out, ← beq0]; rfl, below_alloc _ _⟩
    · have hmx2 := beqf hmx
      have HX : Hid (r = false) := by show _ = _; rw [HR.out]; simp [hmx]
      clear hmx
      cases ns
      all_goals
        go_enter Try.func73, Try.ntmps73
        go_wp2_with (fail)
        go_ret
        exact ⟨by rw [HX.out]; rfl, below_alloc _ _⟩
  · have hmn2 := beqf hmn
    have HX : Hid (r = false) := by show _ = _; rw [HR.out]; simp [hmn]
    clear hmn
    cases ns
    all_goals
      go_enter Try.func73, Try.ntmps73
      go_wp2_with (fail)
      go_ret
      exact ⟨by rw [HX.out]; rfl, below_alloc _ _⟩

set_option maxHeartbeats 2000000 in
set_option maxRecDepth 100000 in
theorem node5 (w : World) (k : Int) (q : Q4) (mn mx : Int) (o : Option Addr) (n cap : Nat) (ns : Bool) (heq : EqS q ns) (k1 : (k == 1) = false) (k2 : (k == 2) = false) (k3 : (k == 3) = false) (k4 : (k == 4) = false) : NodeAt w k q mn mx o n cap false := by
  unfold EqS at heq
  unfold NodeAt
  have h3 : (mn == 0) = false ∨ (mn = 0 ∧ mx = 0) ∨ (mn = 0 ∧ (mx == 0) = false) := by
    by_cases h : mn = 0
    · by_cases h' : mx = 0
      · exact .inr (.inl ⟨h, h'⟩)
      · exact .inr (.inr ⟨h, beqf h'⟩)
    · exact .inl (beqf h)
  cases ns
  all_goals rcases h3 with h3 | ⟨rfl, rfl⟩ | ⟨rfl, h3⟩
  all_goals
    go_enter Try.func73, Try.ntmps73
    go_wp2_with (fail)
    go_ret
    exact ⟨rfl, below_alloc _ _⟩
end Go.Proofs.Ytfilndgbgdnpiaa.st

namespace Go.Proofs.Ytfilndgbgdnpiaa.st
open Go.ChangeShapes Go.WideShapes Go.ChangeAt Go.RowKit
set_option linter.unusedVariables false

set_option maxHeartbeats 2000000 in
set_option maxRecDepth 100000 in
theorem node2 (w : World) (q : Q4) (mn mx : Int) (o : Option Addr) (n cap : Nat) (ns bk r : Bool) (hn : n ≤ 9223372036854775807) (heq : EqS q ns) (hh : HasAt w (.slice o n cap) 2 bk) (hr : r = (ns && decide (mn = 0) && decide (mx = 0) && !decide (n = 1) && !bk)) : NodeAt w 2 q mn mx o n cap r := by
  have HR : Hid (r = (ns && decide (mn = 0) && decide (mx = 0) && !decide (n = 1) && !bk)) := hr
  unfold EqS at heq
  unfold NodeAt
  unfold HasAt at hh
  clear hr
  by_cases hmn : mn = 0
  · subst hmn
    by_cases hmx : mx = 0
    · subst hmx
      cases ns
      · have HX : Hid (r = false) := by show _ = _; rw [HR.out]; rfl
        go_enter Try.func73, Try.ntmps73
        go_wp2_with (fail)
        go_ret
        exact ⟨by rw [HX.out]; rfl, below_alloc _ _⟩
      · by_cases hc : ¬ n = 1
        · have HX : Hid (r = !bk) := by show _ = _; rw [HR.out]; simp [hc]
          have hc2 : ((n : Int) != 1) = true := by rw [bne_iff_ne]; omega
          clear hc
          go_enter Try.func73, Try.ntmps73
          go_wp2_with (go_at_call 89; refine (hh _).mono ?_; rintro e w1 ⟨rfl, b1⟩)
          go_ret
          exact ⟨by rw [HX.out]; rfl, b1⟩
        · have HX : Hid (r = false) := by show _ = _; rw [HR.out]; simp [hc]
          have hc2 : n = 1 := by omega
          subst hc2
          clear hc
          go_enter Try.func73, Try.ntmps73
          go_wp2_with (fail)
          go_ret
          exact ⟨by rw [HX.out]; rfl, below_alloc _ _⟩
    · have hmx2 := beqf hmx
      have HX : Hid (r = false) := by show _ = _; rw [HR.out]; simp [hmx]
      clear hmx
      cases ns
      all_goals
        go_enter Try.func73, Try.ntmps73
        go_wp2_with (fail)
        go_ret
        exact ⟨by rw [HX.out]; rfl, below_alloc _ _⟩
  · have hmn2 := beqf hmn
    have HX : Hid (r = false) := by show _ = _; rw [HR.out]; simp [hmn]
    clear hmn
    cases ns
    all_goals
      go_enter Try.func73, Try.ntmps73
      go_wp2_with (fail)
      go_ret
      exact ⟨by rw [HX.out]; rfl, below_alloc _ _⟩
end Go.Proofs.Ytfilndgbgdnpiaa.st

namespace Go.Proofs.Ytfilndgbgdnpiaa.st
open Go.ChangeShapes Go.WideShapes Go.ChangeAt Go.RowKit
set_option linter.unusedVariables false

set_option maxHeartbeats 2000000 in
set_option maxRecDepth 100000 in
theorem node3 (w : World) (q : Q4) (mn mx : Int) (o : Option Addr) (n cap : Nat) (ns bk r : Bool) (hn : n ≤ 9223372036854775807) (heq : EqS q ns) (hh : HasAt w (.slice o n cap) 3 bk) (hr : r = (ns && decide (mn = 0) && decide (mx = 0) && decide (2 ≤ n) && !bk)) : NodeAt w 3 q mn mx o n cap r := by
  have HR : Hid (r = (ns && decide (mn = 0) && decide (mx = 0) && decide (2 ≤ n) && !bk)) := hr
  unfold EqS at heq
  unfold NodeAt
  unfold HasAt at hh
  clear hr
  by_cases hmn : mn = 0
  · subst hmn
    by_cases hmx : mx = 0
    · subst hmx
      cases ns
      · have HX : Hid (r = false) := by show _ = _; rw [HR.out]; rfl
        go_enter Try.func73, Try.ntmps73
        go_wp2_with (fail)
        go_ret
        exact ⟨by rw [HX.out]; rfl, below_alloc _ _⟩
      · by_cases hc : 2 ≤ n
        · have HX : Hid (r = !bk) := by show _ = _; rw [HR.out]; simp [hc]
          skip
          go_enter Try.func73, Try.ntmps73
          go_wp2_with (go_at_call 89; refine (hh _).mono ?_; rintro e w1 ⟨rfl, b1⟩)
          go_ret
          exact ⟨by rw [HX.out]; rfl, b1⟩
        · have HX : Hid (r = false) := by show _ = _; rw [HR.out]; simp [hc]
          skip
          go_enter Try.func73, Try.ntmps73
          go_wp2_with (fail)
          go_ret
          exact ⟨by rw [HX.out]; rfl, below_alloc _ _⟩
    · have hmx2 := beqf hmx
      have HX : Hid (r = false) := by show _ = _; rw [HR.out]; simp [hmx]
      clear hmx
      cases ns
      all_goals
        go_enter Try.func73, Try.ntmps73
        go_wp2_with (fail)
        go_ret
        exact ⟨by rw [HX.out]; rfl, below_alloc _ _⟩
  · have hmn2 := beqf hmn
    have HX : Hid (r = false) := by show _ = _; rw [HR.out]; simp [hmn]
    clear hmn
    cases ns
    all_goals
      go_enter Try.func73, Try.ntmps73
      go_wp2_with (fail)
      go_ret
      exact ⟨by rw [HX.out]; rfl, below_alloc _ _⟩
end Go.Proofs.Ytfilndgbgdnpiaa.st
