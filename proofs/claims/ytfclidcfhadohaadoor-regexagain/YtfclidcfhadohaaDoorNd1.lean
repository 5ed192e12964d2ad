/-
  Contracts over this program: whether one node may be (regex.rightNode): a set.
-/
import Derived.Test.YtfclidcfhadohaaDoorNd0
namespace Go.Proofs.YtfclidcfhadohaaDoor.st
open Go.ChangeShapes Go.WideShapes Go.ChangeAt Go.RowKit
set_option linter.unusedVariables false

set_option maxHeartbeats 2000000 in
set_option maxRecDepth 100000 in
theorem node1 (w : World) (q : Q4) (mn mx : Int) (o : Option Addr) (n cap : Nat) (ns r : Bool) (hn : n ≤ 9223372036854775807) (heq : EqS q ns) (hr : r = (decide (mn = 0) && decide (mx = 0) && decide (n = 0))) : NodeAt w 1 q mn mx o n cap r := by
  have HR : Hid (r = (decide (mn = 0) && decide (mx = 0) && decide (n = 0))) := hr
  unfold EqS at heq
  unfold NodeAt
  clear hr
  by_cases hmn : mn = 0
  · subst hmn
    by_cases hmx : mx = 0
    · subst hmx
      cases ns
      all_goals
        go_enter Tryd.func33, Tryd.ntmps33
        go_wp2_with (fail)
        go_ret
        exact ⟨by rw [HR.out, ← beq0]; rfl, below_alloc _ _⟩
    · have hmx2 := beqf hmx
      have HX : Hid (r = false) := by show _ = _; rw [HR.out]; simp [hmx]
      clear hmx
      cases ns
      all_goals
        go_enter Tryd.func33, Tryd.ntmps33
        go_wp2_with (fail)
        go_ret
        exact ⟨by rw [HX.out]; rfl, below_alloc _ _⟩
  · have hmn2 := beqf hmn
    have HX : Hid (r = false) := by show _ = _; rw [HR.out]; simp [hmn]
    clear hmn
    cases ns
    all_goals
      go_enter Tryd.func33, Tryd.ntmps33
      go_wp2_with (fail)
      go_ret
      exact ⟨by rw [HX.out]; rfl, below_alloc _ _⟩

set_option maxHeartbeats 2000000 in
set_option maxRecDepth 100000 in
theorem node5 (w : World) (k : Int) (q : Q4) (mn mx : Int) (o : Option Addr) (n cap : Nat) (ns : Bool) (heq : EqS q ns) (k1 : (k == 1) = false) (k2 : (k == 2) = false) (k3 : (k == 3) = false) (k4 : (k == 4) = false) : NodeAt w k q mn mx o n cap false := by
  unfold EqS at heq
  unfold NodeAt
  have h3 : (mn == 0) = false ∨ (mn = 0 ∧ mx = 0) ∨ (mn = 0 ∧ (mx == 0) = false) := by
    by_cases h : mn = 0
    · by_cases h' : mx = 0
      · exact .inr (.inl ⟨h, h'⟩)
      · exact .inr (.inr ⟨h, beqf h'⟩)
    · exact .inl (beqf h)
  cases ns
  all_goals rcases h3 with h3 | ⟨rfl, rfl⟩ | ⟨rfl, h3⟩
  all_goals
    go_enter Tryd.func33, Tryd.ntmps33
    go_wp2_with (fail)
    go_ret
    exact ⟨rfl, below_alloc _ _⟩
end Go.Proofs.YtfclidcfhadohaaDoor.st
