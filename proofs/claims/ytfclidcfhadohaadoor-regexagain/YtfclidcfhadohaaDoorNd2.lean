/-
  Contracts over this program: whether one node may be (regex.rightNode): one behind the other.
-/
import Derived.Test.YtfclidcfhadohaaDoorNd0
namespace Go.Proofs.YtfclidcfhadohaaDoor.st
open Go.ChangeShapes Go.WideShapes Go.ChangeAt Go.RowKit
set_option linter.unusedVariables false

set_option maxHeartbeats 2000000 in
set_option maxRecDepth 100000 in
theorem node2 (w : World) (q : Q4) (mn mx : Int) (o : Option Addr) (n cap : Nat) (ns bk r : Bool) (hn : n ≤ 9223372036854775807) (heq : EqS q ns) (hh : HasAt w (.slice o n cap) 2 bk) (hr : r = (ns && decide (mn = 0) && decide (mx = 0) && !decide (n = 1) && !bk)) : NodeAt w 2 q mn mx o n cap r := by
  have HR : Hid (r = (ns && decide (mn = 0) && decide (mx = 0) && !decide (n = 1) && !bk)) := hr
  unfold EqS at heq
  unfold NodeAt
  unfold HasAt at hh
  clear hr
  by_cases hmn : mn = 0
  · subst hmn
    by_cases hmx : mx = 0
    · subst hmx
      cases ns
      · have HX : Hid (r = false) := by show _ = _; rw [HR.out]; rfl
        go_enter Tryd.func33, Tryd.ntmps33
        go_wp2_with (fail)
        go_ret
        exact ⟨by rw [HX.out]; rfl, below_alloc _ _⟩
      · by_cases hc : ¬ n = 1
        · have HX : Hid (r = !bk) := by show _ = _; rw [HR.out]; simp [hc]
          have hc2 : ((n : Int) != 1) = true := by rw [bne_iff_ne]; omega
          clear hc
          go_enter Tryd.func33, Tryd.ntmps33
          go_wp2_with (go_at_call 50; refine (hh _).mono ?_; rintro e w1 ⟨rfl, b1⟩)
          go_ret
          exact ⟨by rw [HX.out]; rfl, b1⟩
        · have HX : Hid (r = false) := by show _ = _; rw [HR.out]; simp [hc]
          have hc2 : n = 1 := by omega
          subst hc2
          clear hc
          go_enter Tryd.func33, Tryd.ntmps33
          go_wp2_with (fail)
          go_ret
          exact ⟨by rw [HX.out]; rfl, below_alloc _ _⟩
    · have hmx2 := beqf hmx
      have HX : Hid (r = false) := by show _ = _; rw [HR.out]; simp [hmx]
      clear hmx
      cases ns
      all_goals
        go_enter Tryd.func33, Tryd.ntmps33
        go_wp2_with (fail)
        go_ret
        exact ⟨by rw [HX.out]; rfl, below_alloc _ _⟩
  · have hmn2 := beqf hmn
    have HX : Hid (r = false) := by show _ = _; rw [HR.out]; simp [hmn]
    clear hmn
    cases ns
    all_goals
      go_enter Tryd.func33, Tryd.ntmps33
      go_wp2_with (fail)
      go_ret
      exact ⟨by rw [HX.out]; rfl, below_alloc _ _⟩
end Go.Proofs.YtfclidcfhadohaaDoor.st
