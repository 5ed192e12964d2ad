/-
  A tree in memory: a value of the type of trees that reads, in a world, as a tree; what carries it on.
-/
import Derived.Test.YtfclidcfhadohaaDoorTree
import Derived.Test.YtfclidcfhadohaaDoorRows
import Derived.WalkKit
import Derived.ChangeAt
import Derived.ChangeShapes
import Derived.WalkLawsBesides
import Derived.Laws.IdiomArrays
import Derived.Deep.Slices
import Derived.SizedLaws
import Derived.ChangeOld
import Derived.Below
import Derived.Lib.OthersKept
namespace Go.Proofs.YtfclidcfhadohaaDoor.st
open Go.ChangeShapes Go.WideShapes Go.ChangeAt Go.RowKit
set_option linter.unusedVariables false

def Cells (w : World) (b o : Nat) (t : Tr) (v : Value) : Prop :=
  w.cell? ⟨b, o, none⟩ = some (.int .i64 t.kind) ∧ w.cell? ⟨b, o + 1, none⟩ = some (.int .u64 t.set.a) ∧ w.cell? ⟨b, o + 2, none⟩ = some (.int .u64 t.set.b) ∧ w.cell? ⟨b, o + 3, none⟩ = some (.int .u64 t.set.c) ∧
  w.cell? ⟨b, o + 4, none⟩ = some (.int .u64 t.set.d) ∧ w.cell? ⟨b, o + 5, none⟩ = some (.int .i64 t.min) ∧ w.cell? ⟨b, o + 6, none⟩ = some (.int .i64 t.max) ∧ w.cell? ⟨b, o + 7, none⟩ = some v

inductive Is (w : World) (P : Nat → Prop) : Tr → Value → Prop
  | leaf (k : Int) (q : Q4) (mn mx : Int) (a : Option Addr) (cap : Nat) : Is w P (.node k q mn mx []) (.slice a 0 cap)
  | node (k : Int) (q : Q4) (mn mx : Int) (l : List Tr) (b off cap : Nat) (vs : Nat → Value) (hl : l.length ≤ cap) (hc : cap ≤ 9223372036854775807) (hb : b < w.heap.size) (hP : P b)
      (cells : ∀ i, i < l.length → Cells w b (off + i * 8) (nthT l i) (vs i)) (kids : ∀ i, i < l.length → Is w P (nthT l i) (vs i)) :
      Is w P (.node k q mn mx l) (.slice (some ⟨b, off, none⟩) l.length cap)

theorem cell_same {w w' : World} {b : Nat} (h : w'.heap[b]? = w.heap[b]?) (o : Nat) : w'.cell? ⟨b, o, none⟩ = w.cell? ⟨b, o, none⟩ := by
  unfold World.cell?
  simp only [h]

theorem Cells.same {w w' : World} {b o : Nat} {t : Tr} {v : Value} (h : Cells w b o t v) (e : w'.heap[b]? = w.heap[b]?) : Cells w' b o t v := by
  unfold Cells at h ⊢
  simp only [cell_same e]
  exact h

theorem Is.carry {w w' : World} {P P' : Nat → Prop} {t : Tr} {v : Value} (h : Is w P t v) (hs : w.heap.size ≤ w'.heap.size) (hP : ∀ b, P b → b < w.heap.size → P' b) (e : ∀ b, P b → b < w.heap.size → w'.heap[b]? = w.heap[b]?) : Is w' P' t v := by
  induction h with
  | leaf k q mn mx a cap => exact .leaf k q mn mx a cap
  | node k q mn mx l b off cap vs hl hc hb hPb cells kids ih =>
    exact .node k q mn mx l b off cap vs hl hc (Nat.lt_of_lt_of_le hb hs) (hP b hPb hb) (fun i hi => (cells i hi).same (e b hPb hb)) (fun i hi => ih i hi)

theorem Is.later {w w' : World} {P : Nat → Prop} {t : Tr} {v : Value} (h : Is w P t v) (hb : Below w.heap.size w w') : Is w' P t v :=
  h.carry hb.size (fun _ p _ => p) (fun b _ hlt => hb.block b hlt)
theorem Is.grown {w w' : World} {g : Nat} {t : Tr} {v : Value} (h : Is w (· ≠ g) t v) (hb : w.grownBy w' (some g)) : Is w' (· ≠ g) t v :=
  h.carry hb.size (fun _ p _ => p) (fun b p hlt => hb.block b hlt (fun e => p (Option.some.inj e)))

theorem touch_refl (w : World) (row : Option Nat) : w.grownBy w row := ⟨rfl, rfl, rfl, Nat.le_refl _, fun _ _ _ => rfl⟩
theorem touch_trans {w w1 w2 : World} {row : Option Nat} (h1 : w.grownBy w1 row) (h2 : w1.grownBy w2 row) : w.grownBy w2 row :=
  ⟨h2.os.trans h1.os, h2.tape.trans h1.tape, h2.output.trans h1.output, Nat.le_trans h1.size h2.size, fun k hk hne => (h2.block k (Nat.lt_of_lt_of_le hk h1.size) hne).trans (h1.block k hk hne)⟩
theorem touch_below {w w1 : World} (row : Option Nat) (h : Below w.heap.size w w1) : w.grownBy w1 row := ⟨h.os, h.tape, h.output, h.size, fun k hk _ => h.block k hk⟩
theorem touch_cell (w : World) (g i : Nat) (x : Value) : w.grownBy (w.setCell ⟨g, i, none⟩ x) (some g) :=
  ⟨rfl, rfl, rfl, by simp, fun k _ hne => Below.heap_setCell _ _ _ _ (fun e => hne (congrArg some e))⟩
theorem touch_drewT {w w1 : World} {row : Option Nat} (h : w.grownBy w1 row) : w.grownBy w1.drew row := ⟨h.os, h.tape, h.output, h.size, h.block⟩
theorem touch_alloc {w w1 : World} {row : Option Nat} (h : w.grownBy w1 row) (o : Obj) : w.grownBy (w1.alloc o) row :=
  touch_trans h (touch_below _ ((Below.refl _ _).alloc (Nat.le_refl _) o))
theorem set_heap1 (w : World) (g : Nat) (cs : Array Value) (T : TypeId) (i : Nat) (x : Value) (h : w.heap[g]? = some (.cells cs T (0, 0))) : (w.setCell ⟨g, i, none⟩ x).heap[g]? = some (.cells (cs.setIfInBounds i x) T (0, 0)) := by
  show (w.heap.modify g _)[g]? = _
  rw [Array.getElem?_modify, if_pos rfl, h]
  rfl

/-- one form for an empty list of kids and any other -/
theorem Is.form {w : World} {P : Nat → Prop} {t : Tr} {v : Value} (h : Is w P t v) : ∃ (o : Option Addr) (cap b off : Nat) (vs : Nat → Value), v = .slice o t.kids.length cap ∧ t.kids.length ≤ cap ∧ 
    ∀ i, i < t.kids.length → o = some ⟨b, off, none⟩ ∧ cap ≤ 9223372036854775807 ∧ b < w.heap.size ∧ P b ∧ Cells w b (off + i * 8) (nthT t.kids i) (vs i) ∧ Is w P (nthT t.kids i) (vs i) := by
  cases h with
  | leaf k q mn mx a cap => exact ⟨a, cap, 0, 0, fun _ => .nilIface, rfl, Nat.zero_le _, fun i hi => absurd hi (Nat.not_lt_zero _)⟩
  | node k q mn mx l b off cap vs hl hc hb hP cells kids => exact ⟨_, cap, b, off, vs, rfl, hl, fun i hi => ⟨rfl, hc, hb, hP, cells i hi, kids i hi⟩⟩

theorem Is.shape {w : World} {P : Nat → Prop} {t : Tr} {v : Value} (h : Is w P t v) : ∃ (o : Option Addr) (n cap : Nat), v = .slice o n cap := by
  cases h with
  | leaf k q mn mx a cap => exact ⟨_, _, _, rfl⟩
  | node k q mn mx l b off cap vs hl hc hb hP cells kids => exact ⟨_, _, _, rfl⟩

/-- a block of one number -/
def One (w : World) (g : Nat) (n : Int) : Prop := w.heap[g]? = some (.cells #[.int .i64 n] 3 (0, 0))
theorem One.lt {w : World} {g : Nat} {n : Int} (h : One w g n) : g < w.heap.size := (Array.getElem?_eq_some_iff.1 h).1
theorem One.c {w : World} {g : Nat} {n : Int} (h : One w g n) : w.cell? ⟨g, 0, none⟩ = some (.int .i64 n) := by rw [Lib.cell_of_heap h]; rfl
theorem One.fz {w : World} {g : Nat} {n : Int} (h : One w g n) : w.frozen? ⟨g, 0, none⟩ = false := Lib.frozen_of_heap h 0
theorem One.below {w w' : World} {g : Nat} {n : Int} (h : One w g n) (b : Below w.heap.size w w') : One w' g n := by unfold One; rw [b.block g h.lt]; exact h
theorem One.set {w : World} {g : Nat} {n : Int} (h : One w g n) (m : Int) : One (w.setCell ⟨g, 0, none⟩ (.int .i64 m)) g m := set_heap1 w g _ _ 0 _ h
end Go.Proofs.YtfclidcfhadohaaDoor.st
