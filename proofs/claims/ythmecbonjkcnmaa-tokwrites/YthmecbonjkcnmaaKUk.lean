/-
  Regions that read rules, by hand.
-/
import Derived.Test.YthmecbonjkcnmaaKRg
import Derived.Test.YthmecbonjkcnmaaKUj
namespace Go.Proofs.Ythmecbonjkcnmaa.ru
open Go.ChangeShapes Go.WideShapes Go.ChangeAt Go.RowKit
set_option linter.unusedVariables false

def Kept (w1 : World) (W : World) : Prop := Below w1.heap.size w1 W
theorem Kept.drew {w1 W : World} (h : Kept w1 W) : Kept w1 W.drew := Below.drew h
theorem Rus.at {w : World} {v : Value} {l : List Ru} (h : Rus w v l) {i : Nat} (hi : i < l.length) : ∃ b off cap, v = .slice (some ⟨b, off, none⟩) l.length cap ∧ l.length ≤ cap ∧ cap ≤ 9223372036854775807 ∧ b < w.heap.size ∧ w.cell? ⟨b, off + i * 2, none⟩ = some (.string (nth l i).fr) ∧ w.cell? ⟨b, off + i * 2 + 1, none⟩ = some (.string (nth l i).to) := by
  rcases h with ⟨rfl, _⟩ | ⟨b, off, cap, hv, hl, hm, hlt, hc⟩
  · simp at hi
  · exact ⟨b, off, cap, hv, hl, hm, hlt, (hc i hi).1, (hc i hi).2⟩
section
variable {op : Oper} {a : Act} {w : World}
theorem x_load9 {x : Operand} {p : Addr} {v : Value} (h : op.op = .load 9 x) (hx : a.eval x = .pointer (some p)) (hc : w.cell? p = some v) : (execOp a.eval op).run Try.prog w = .ok (.value v) w := by
  unfold execOp; rw [h]; simp only [hx]; go_simp
end
end Go.Proofs.Ythmecbonjkcnmaa.ru
