/-
  Contracts over this program: an instruction's word and its letters' signs (Word, sign), and a line of it (Line), as the document says.
-/
import Derived.Test.YtdekkjnlmlkbdaaDoorHe
import Derived.Test.YtdekkjnlmlkbdaaDoorHd
namespace Go.Proofs.YtdekkjnlmlkbdaaDoor.is
open Go.Proofs.YtdekkjnlmlkbdaaDoor.num
open Go.ChangeShapes Go.WideShapes Go.ChangeAt Go.RowKit
set_option linter.unusedVariables false

def RWordIs (o : Nat) : Prop := ∀ w, Calls Tryd.prog 42 #[.int .i64 o] w fun e w' => e = .returned (.string (ba (wrd o))) ∧ Below w.heap.size w w'
set_option maxHeartbeats 2000000 in
set_option maxRecDepth 100000 in
theorem rword_any (o : Nat) (h1 : 1 ≤ o) (h2 : o ≤ 17) : RWordIs o := by
  intro w
  rcases ops17 o h1 h2 with rfl | rfl | rfl | rfl | rfl | rfl | rfl | rfl | rfl | rfl | rfl | rfl | rfl | rfl | rfl | rfl | rfl <;>
  (clear h1 h2
   go_enter Tryd.func42, Tryd.ntmps42
   go_wp2
   go_ret
   exact ⟨rfl, (Below.refl _ _).alloc (Nat.le_refl _) _⟩)

def signC (c : Nat) : List UInt8 := if c = 97 ∨ c = 98 then [114] else if c = 107 then [109] else if c = 112 then [64] else if c = 116 then [116] else []
theorem signC_sgn (op : Nat) (h : op < 18) : ∀ c ∈ lets op, signC c = sgn (kd op (fldC c)) := by
  have : ∀ x : Fin 18, ∀ c ∈ lets x, signC c = sgn (kd x (fldC c)) := by decide
  exact this ⟨op, h⟩
theorem signC_le (c : Nat) : (signC c).length ≤ 1 := by unfold signC; split <;> (try split) <;> (try split) <;> (try split) <;> simp
def RSignIs (c : Nat) : Prop := ∀ w, Calls Tryd.prog 43 #[.int .u8 c] w fun e w' => e = .returned (.string (ba (signC c))) ∧ w' = w
set_option maxHeartbeats 2000000 in
set_option maxRecDepth 100000 in
theorem rsign_any (c : Nat) : RSignIs c := by
  intro w
  by_cases h0 : c = 97
  · subst h0
    go_enter Tryd.func43, Tryd.ntmps43
    go_wp2
    go_ret
    exact ⟨rfl, rfl⟩
  by_cases h1 : c = 98
  · subst h1
    go_enter Tryd.func43, Tryd.ntmps43
    go_wp2
    go_ret
    exact ⟨rfl, rfl⟩
  by_cases h2 : c = 107
  · subst h2
    go_enter Tryd.func43, Tryd.ntmps43
    go_wp2
    go_ret
    exact ⟨rfl, rfl⟩
  by_cases h3 : c = 112
  · subst h3
    go_enter Tryd.func43, Tryd.ntmps43
    go_wp2
    go_ret
    exact ⟨rfl, rfl⟩
  by_cases h4 : c = 116
  · subst h4
    go_enter Tryd.func43, Tryd.ntmps43
    go_wp2
    go_ret
    exact ⟨rfl, rfl⟩
  have HV : Hid (signC c = []) := by show _ = _; simp [signC, h0, h1, h2, h3, h4]
  have e0 : ((c : Int) == 97) = false := eq_no h0
  have e1 : ((c : Int) == 98) = false := eq_no h1
  have e2 : ((c : Int) == 107) = false := eq_no h2
  have e3 : ((c : Int) == 112) = false := eq_no h3
  have e4 : ((c : Int) == 116) = false := eq_no h4
  clear h0 h1 h2 h3 h4
  go_enter Tryd.func43, Tryd.ntmps43
  go_wp2
  go_ret
  exact ⟨by rw [HV.out]; rfl, rfl⟩

end Go.Proofs.YtdekkjnlmlkbdaaDoor.is
