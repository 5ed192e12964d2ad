/-
  Contracts over this program: whether one node may be (the document's one): a set, again and again.
-/
import Derived.Test.YtfclidcfhadohaaDoorNd0
namespace Go.Proofs.YtfclidcfhadohaaDoor.st
open Go.ChangeShapes Go.WideShapes Go.ChangeAt Go.RowKit
set_option linter.unusedVariables false

def OneAt (w : World) (k : Int) (q : Q4) (mn mx : Int) (o : Option Addr) (n cap : Nat) (r : Bool) : Prop :=
  Calls Tryd.prog 41 #[.agg #[.int .i64 k, .int .u64 q.a, .int .u64 q.b, .int .u64 q.c, .int .u64 q.d, .int .i64 mn, .int .i64 mx, .slice o n cap]] w fun e w' => e = .returned (.bool r) ∧ Below w.heap.size w w'
theorem bnet {a b : Int} (h : ¬ a = b) : (a != b) = true := by rw [bne_iff_ne]; exact h

set_option maxHeartbeats 2000000 in
set_option maxRecDepth 100000 in
theorem one1 (w : World) (q : Q4) (mn mx : Int) (o : Option Addr) (n cap : Nat) (r : Bool) (hn : n ≤ 9223372036854775807) (hr : r = (decide (mn = 0) && decide (mx = 0) && decide (n = 0))) : OneAt w 1 q mn mx o n cap r := by
  have HR : Hid (r = (decide (mn = 0) && decide (mx = 0) && decide (n = 0))) := hr
  unfold OneAt
  clear hr
  by_cases hmn : mn = 0
  · subst hmn
    by_cases hmx : mx = 0
    · subst hmx
      have HX : Hid (r = ((n : Int) == 0)) := by show _ = _; rw [HR.out, ← beq0]; rfl
      go_enter Tryd.func41, Tryd.ntmps41
      go_wp2_with (fail)
      go_ret
      exact ⟨by rw [HX.out]; rfl, below_alloc _ _⟩
    · have hmx2 := beqf hmx
      have HX : Hid (r = false) := by show _ = _; rw [HR.out]; simp [hmx]
      clear hmx
      go_enter Tryd.func41, Tryd.ntmps41
      go_wp2_with (fail)
      go_ret
      exact ⟨by rw [HX.out]; rfl, below_alloc _ _⟩
  · have hmn2 := beqf hmn
    have HX : Hid (r = false) := by show _ = _; rw [HR.out]; simp [hmn]
    clear hmn
    go_enter Tryd.func41, Tryd.ntmps41
    go_wp2_with (fail)
    go_ret
    exact ⟨by rw [HX.out]; rfl, below_alloc _ _⟩

set_option maxHeartbeats 2000000 in
set_option maxRecDepth 100000 in
theorem one5 (w : World) (k : Int) (q : Q4) (mn mx : Int) (o : Option Addr) (n cap : Nat) (k1 : (k == 1) = false) (k2 : (k == 2) = false) (k3 : (k == 3) = false) (k4 : (k == 4) = false) : OneAt w k q mn mx o n cap false := by
  unfold OneAt
  go_enter Tryd.func41, Tryd.ntmps41
  go_wp2_with (fail)
  go_ret
  exact ⟨rfl, below_alloc _ _⟩

set_option maxHeartbeats 2000000 in
set_option maxRecDepth 100000 in
theorem one4 (w : World) (q : Q4) (mn mx : Int) (o : Option Addr) (n cap : Nat) (ns r : Bool) (hn : n ≤ 9223372036854775807) (heq : EqS q ns) (hr : r = (ns && timesOk mn mx && decide (n = 1))) : OneAt w 4 q mn mx o n cap r := by
  have HR : Hid (r = (ns && timesOk mn mx && decide (n = 1))) := hr
  unfold EqS at heq
  unfold OneAt
  clear hr
  cases ns
  · have HX : Hid (r = false) := by show _ = _; rw [HR.out]; rfl
    go_enter Tryd.func41, Tryd.ntmps41
    go_wp2_with (fail)
    go_ret
    exact ⟨by rw [HX.out]; rfl, below_alloc _ _⟩
  by_cases h1 : n = 1
  case neg =>
    have hc : ((n : Int) != 1) = true := by rw [bne_iff_ne]; omega
    have HX : Hid (r = false) := by show _ = _; rw [HR.out]; simp [h1]
    clear h1
    go_enter Tryd.func41, Tryd.ntmps41
    go_wp2_with (fail)
    go_ret
    exact ⟨by rw [HX.out]; rfl, below_alloc _ _⟩
  subst h1
  by_cases h2 : mn < 0
  · have HX : Hid (r = false) := by show _ = _; rw [HR.out]; unfold timesOk; rw [decide_eq_false (by omega : ¬ 0 ≤ mn)]; rfl
    go_enter Tryd.func41, Tryd.ntmps41
    go_wp2_with (fail)
    go_ret
    exact ⟨by rw [HX.out]; rfl, below_alloc _ _⟩
  by_cases h3 : 20 < mn
  · have HX : Hid (r = false) := by show _ = _; rw [HR.out]; unfold timesOk; rw [decide_eq_false (by omega : ¬ mn ≤ 20)]; simp
    go_enter Tryd.func41, Tryd.ntmps41
    go_wp2_with (fail)
    go_ret
    exact ⟨by rw [HX.out]; rfl, below_alloc _ _⟩
  have HS : Hid (r = (decide (mx = -1) || (decide (mn ≤ mx) && decide (mx ≤ 20) && !(decide (mn = 1) && decide (mx = 1))))) := by
    show _ = _
    rw [HR.out]; unfold timesOk; rw [decide_eq_true (by omega : mn ≤ 20), decide_eq_true (by omega : 0 ≤ mn)]; simp
  clear HR
  by_cases h4 : mx = -1
  · subst h4
    have HX : Hid (r = true) := by show _ = _; rw [HS.out]; rfl
    go_enter Tryd.func41, Tryd.ntmps41
    go_wp2_with (fail)
    go_ret
    exact ⟨by rw [HX.out]; rfl, below_alloc _ _⟩
  have h4b := beqf h4
  by_cases h5 : mn ≤ mx
  case neg =>
    have HX : Hid (r = false) := by show _ = _; rw [HS.out, decide_eq_false h4, decide_eq_false h5]; rfl
    clear h4
    go_enter Tryd.func41, Tryd.ntmps41
    go_wp2_with (fail)
    go_ret
    exact ⟨by rw [HX.out]; rfl, below_alloc _ _⟩
  by_cases h6 : mx ≤ 20
  case neg =>
    have HX : Hid (r = false) := by show _ = _; rw [HS.out, decide_eq_false h4, decide_eq_false h6]; simp
    clear h4
    go_enter Tryd.func41, Tryd.ntmps41
    go_wp2_with (fail)
    go_ret
    exact ⟨by rw [HX.out]; rfl, below_alloc _ _⟩
  by_cases h7 : mn = 1
  · subst h7
    by_cases h8 : mx = 1
    · subst h8
      have HX : Hid (r = false) := by show _ = _; rw [HS.out]; rfl
      clear h4
      go_enter Tryd.func41, Tryd.ntmps41
      go_wp2_with (fail)
      go_ret
      exact ⟨by rw [HX.out]; rfl, below_alloc _ _⟩
    · have h8b := bnet h8
      have HX : Hid (r = true) := by show _ = _; rw [HS.out, decide_eq_true h5, decide_eq_true h6, decide_eq_false h8]; simp
      clear h4 h8
      go_enter Tryd.func41, Tryd.ntmps41
      go_wp2_with (fail)
      go_ret
      exact ⟨by rw [HX.out]; rfl, below_alloc _ _⟩
  · have h7b := bnet h7
    have HX : Hid (r = true) := by show _ = _; rw [HS.out, decide_eq_true h5, decide_eq_true h6, decide_eq_false h7]; simp
    clear h4 h7
    go_enter Tryd.func41, Tryd.ntmps41
    go_wp2_with (fail)
    go_ret
    exact ⟨by rw [HX.out]; rfl, below_alloc _ _⟩
end Go.Proofs.YtfclidcfhadohaaDoor.st
