/-
  Contracts over this program: a row of numbers in a block of its own; partOf.
-/
import Derived.Test.YtkdkibnjfgcppaaKMe
namespace Go.Proofs.Ytkdkibnjfgcppaa.mi
open Go.ChangeShapes Go.WideShapes Go.ChangeAt Go.RowKit Go.Shelf Go.Maps
set_option linter.unusedVariables false

def ncs (l : List Nat) : Array Value := (l.map fun x : Nat => Value.int .i64 (x : Int)).toArray
/-- a row of numbers in a block of its own -/
def NRow (w : World) (g : Nat) (l : List Nat) : Prop := w.heap[g]? = some (.cells (ncs l) 3 (0, 0))
section
variable {w w' : World} {g : Nat} {l : List Nat}
theorem NRow.lt (h : NRow w g l) : g < w.heap.size := (Array.getElem?_eq_some_iff.1 h).1
theorem NRow.keep (h : NRow w g l) (e : w'.heap[g]? = w.heap[g]?) : NRow w' g l := e.trans h
theorem NRow.later (h : NRow w g l) (b : Below w.heap.size w w') : NRow w' g l := h.keep (b.block g h.lt)
theorem NRow.cell (h : NRow w g l) {i x : Nat} (hx : l[i]? = some x) : w.cell? ⟨g, i, none⟩ = some (.int .i64 (x : Int)) := by
  rw [Lib.cell_of_heap h]
  simp [ncs, hx]
end
/-- the part of a state (at its number and one), or of none (at nought) -/
theorem partOf_any {w : World} {g cap : Nat} {l : List Nat} (h : NRow w g l) (hc : l.length ≤ cap) (i : Nat) (hi : i < l.length) (hb : l.length ≤ 1000000) (x : Nat) (hx : l[i]? = some x) :
    Calls Try.prog 62 #[.slice (some ⟨g, 0, none⟩) l.length cap, .int .i64 ((i : Int) - 1)] w (fun e w' => e = .returned (.int .i64 (x : Int)) ∧ w' = w) := by
  have hcell := h.cell hx
  have e1 : (1 : Int) + ((i : Int) - 1) = (i : Int) := by omega
  have hw : IntKind.i64.wrap ((1 : Int) + ((i : Int) - 1)) = (i : Int) := by
    rw [e1]
    exact IntWalk.i64_in _ (by omega)
  clear h hx
  go_enter Try.func62, Try.ntmps62
  go_wp2_with (fail)
  go_ret
  exact ⟨rfl, rfl⟩
end Go.Proofs.Ytkdkibnjfgcppaa.mi
