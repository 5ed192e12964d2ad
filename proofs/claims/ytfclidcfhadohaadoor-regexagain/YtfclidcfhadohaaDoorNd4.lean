/-
  Contracts over this program: whether one node may be (regex.rightNode): again and again.
-/
import Derived.Test.YtfclidcfhadohaaDoorNd0
namespace Go.Proofs.YtfclidcfhadohaaDoor.st
open Go.ChangeShapes Go.WideShapes Go.ChangeAt Go.RowKit
set_option linter.unusedVariables false

set_option maxHeartbeats 2000000 in
set_option maxRecDepth 100000 in
theorem node4 (w : World) (q : Q4) (mn mx : Int) (o : Option Addr) (n cap : Nat) (ns tm r : Bool) (hn : n ≤ 9223372036854775807) (heq : EqS q ns) (hh : TimesIs mn mx tm) (hr : r = (ns && tm && decide (n = 1))) : NodeAt w 4 q mn mx o n cap r := by
  have HR : Hid (r = (ns && tm && decide (n = 1))) := hr
  unfold EqS at heq
  unfold NodeAt
  clear hr
  have h3 : (mn == 0) = false ∨ (mn = 0 ∧ mx = 0) ∨ (mn = 0 ∧ (mx == 0) = false) := by
    by_cases h : mn = 0
    · by_cases h' : mx = 0
      · exact .inr (.inl ⟨h, h'⟩)
      · exact .inr (.inr ⟨h, beqf h'⟩)
    · exact .inl (beqf h)
  cases ns
  · have HX : Hid (r = false) := by show _ = _; rw [HR.out]; rfl
    rcases h3 with h3 | ⟨rfl, rfl⟩ | ⟨rfl, h3⟩
    all_goals
      go_enter Tryd.func33, Tryd.ntmps33
      go_wp2_with (fail)
      go_ret
      exact ⟨by rw [HX.out]; rfl, below_alloc _ _⟩
  · cases tm
    · have HX : Hid (r = false) := by show _ = _; rw [HR.out]; rfl
      rcases h3 with h3 | ⟨rfl, rfl⟩ | ⟨rfl, h3⟩
      all_goals
        go_enter Tryd.func33, Tryd.ntmps33
        go_wp2_with (go_at_call 51; refine (hh _).mono ?_; rintro e w1 ⟨rfl, h⟩; obtain rfl := h.symm)
        go_ret
        exact ⟨by rw [HX.out]; rfl, below_alloc _ _⟩
    · have HX : Hid (r = ((n : Int) == 1)) := by show _ = _; rw [HR.out, beq1]; rfl
      rcases h3 with h3 | ⟨rfl, rfl⟩ | ⟨rfl, h3⟩
      all_goals
        go_enter Tryd.func33, Tryd.ntmps33
        go_wp2_with (go_at_call 51; refine (hh _).mono ?_; rintro e w1 ⟨rfl, h⟩; obtain rfl := h.symm)
        go_ret
        exact ⟨by rw [HX.out]; rfl, below_alloc _ _⟩
end Go.Proofs.YtfclidcfhadohaaDoor.st
