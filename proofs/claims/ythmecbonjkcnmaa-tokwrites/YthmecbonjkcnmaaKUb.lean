/-
  Contracts over this program: a list of rules that is read; rule.misfit.
-/
import Derived.Test.YthmecbonjkcnmaaKUa
import Derived.Test.YthmecbonjkcnmaaRows
import Derived.Deep.QuietTactic
import Derived.Deep.RegionHeld3
import Derived.WalkSmall
import Derived.BigQuiet
import Derived.WalkKit
import Derived.ProofKit
import Derived.SizedLaws
import Derived.OpenShut
import Derived.ShutString
import Derived.ChangeOld
import Derived.Below
import Derived.Deep.SlicePairs
namespace Go.Proofs.Ythmecbonjkcnmaa.ru
open Go.ChangeShapes Go.WideShapes Go.ChangeAt Go.RowKit
set_option linter.unusedVariables false

instance : Inhabited Ru := ⟨⟨⟨#[]⟩, ⟨#[]⟩⟩⟩
def nth (l : List Ru) (i : Nat) : Ru := l.getD i ⟨⟨#[]⟩, ⟨#[]⟩⟩

/-- a value that reads, in a world, as a list of rules -/
def Rus (w : World) (v : Value) (l : List Ru) : Prop :=
  (l = [] ∧ ∃ a cap, v = .slice a 0 cap) ∨
  (∃ b off cap, v = .slice (some ⟨b, off, none⟩) l.length cap ∧ l.length ≤ cap ∧ cap ≤ 9223372036854775807 ∧ b < w.heap.size ∧ ∀ i, i < l.length → w.cell? ⟨b, off + i * 2, none⟩ = some (.string (nth l i).fr) ∧ w.cell? ⟨b, off + i * 2 + 1, none⟩ = some (.string (nth l i).to))

theorem Rus.below {w w' : World} {v : Value} {l : List Ru} (h : Rus w v l) (hb : Below w.heap.size w w') : Rus w' v l := by
  rcases h with h | ⟨b, off, cap, hv, hl, hm, hlt, hc⟩
  · exact .inl h
  · exact .inr ⟨b, off, cap, hv, hl, hm, Nat.lt_of_lt_of_le hlt hb.size, fun i hi => ⟨by rw [hb.cell hlt]; exact (hc i hi).1, by rw [hb.cell hlt]; exact (hc i hi).2⟩⟩

theorem drop_nth (l : List Ru) (i : Nat) (h : i < l.length) : l.drop i = nth l i :: l.drop (i + 1) := by
  rw [List.drop_eq_getElem_cons h]
  congr 1
  unfold nth
  rw [List.getD_eq_getElem?_getD, List.getElem?_eq_getElem h]
  rfl
theorem nth_mem (l : List Ru) (i : Nat) (h : i < l.length) : nth l i ∈ l := by
  unfold nth
  rw [List.getD_eq_getElem?_getD, List.getElem?_eq_getElem h]
  exact List.getElem_mem h
theorem take_nth (l : List Ru) (i : Nat) (h : i < l.length) : l.take (i + 1) = l.take i ++ [nth l i] := by
  rw [List.take_add_one, List.getElem?_eq_getElem h]
  unfold nth
  rw [List.getD_eq_getElem?_getD, List.getElem?_eq_getElem h]
  rfl
theorem chain {a b c : World} (h : Below a.heap.size a b) (k : Below b.heap.size b c) : Below a.heap.size a c := ⟨k.os.trans h.os, k.tape.trans h.tape, k.output.trans h.output, Nat.le_trans h.size k.size, fun i hi => (k.block i (Nat.lt_of_lt_of_le hi h.size)).trans (h.block i hi)⟩

theorem empty_eq (b : ByteArray) : b.toList.isEmpty = (b.size == 0) := by
  rw [ByteArray.toList_eq]
  cases b with
  | mk a =>
    cases a with
    | mk l => cases l <;> rfl
theorem toList_nil {b : ByteArray} (h : b.toList = []) : b.size = 0 := by
  have := empty_eq b
  rw [h] at this
  simpa using this.symm
theorem bad_eq (r : Ru) : bad r = (r.fr.toList.isEmpty || decide (16 < (r.fr.size : Int)) || decide (32 < (r.to.size : Int))) := by
  unfold bad
  rw [empty_eq]
  congr 1
  · congr 1
    exact decide_eq_decide.2 (by omega)
  · exact decide_eq_decide.2 (by omega)

def BadIs (r : Ru) (x : Bool) : Prop := ∀ w, Calls Try.prog 51 #[.agg #[.string r.fr, .string r.to]] w fun e w' => e = .returned (.bool x) ∧ Below w.heap.size w w'

set_option maxHeartbeats 1000000 in
set_option maxRecDepth 100000 in
theorem bad_any (r : Ru) (x : Bool) (hx : x = bad r) : BadIs r x := by
  intro w
  have HX : Hid (x = bad r) := hx
  clear hx
  go_enter Try.func51, Try.ntmps51
  go_wp2
  · rename_i h
    go_ret
    refine ⟨?_, (Below.refl _ _).alloc (Nat.le_refl _) _⟩
    rw [HX.out]
    unfold bad
    rw [toList_nil h]
    rfl
  · go_ret
    refine ⟨?_, (Below.refl _ _).alloc (Nat.le_refl _) _⟩
    rw [HX.out, bad_eq]
    rfl
  · rename_i h
    go_ret
    refine ⟨?_, (Below.refl _ _).alloc (Nat.le_refl _) _⟩
    rw [HX.out, bad_eq, decide_eq_true h]
    simp
end Go.Proofs.Ythmecbonjkcnmaa.ru
