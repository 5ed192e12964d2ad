/-
  Texts put together: A tree in memory: a value of the type of trees that reads, in a world, as a tree; what carries it on. Contracts over this program: the nfa's builder: full, state, free, over. Contracts over this program: the nfa's builder: over. Contracts over this program: whether a tree has at most so many levels and nodes (regex.fits). Contracts over this program: how deep a tree is, how many nodes it has, whether it is an expression's (the document's Deep, Nodes, one, every, Right; regex.rightNode, right, Right).
-/
import Derived.Test.YtfilndgbgdnpiaaM04
import Derived.Test.YtfilndgbgdnpiaaRows
import Derived.WalkKit
import Derived.ChangeAt
import Derived.ChangeShapes
import Derived.WalkLawsBesides
import Derived.Laws.IdiomArrays
import Derived.Deep.Slices
import Derived.SizedLaws
import Derived.ChangeOld
import Derived.Below
import Derived.Lib.OthersKept
import Derived.Test.YtfilndgbgdnpiaaKAp
import Derived.Deep.RegionLaw
import Derived.ChangeKeysEq
import Derived.Deep.RegionHeld3
import Derived.Deep.QuietTactic
namespace Go.Proofs.Ytfilndgbgdnpiaa.st
open Go.ChangeShapes Go.WideShapes Go.ChangeAt Go.RowKit
set_option linter.unusedVariables false

def Cells (w : World) (b o : Nat) (t : Tr) (v : Value) : Prop :=
  w.cell? ⟨b, o, none⟩ = some (.int .i64 t.kind) ∧ w.cell? ⟨b, o + 1, none⟩ = some (.int .u64 t.set.a) ∧ w.cell? ⟨b, o + 2, none⟩ = some (.int .u64 t.set.b) ∧ w.cell? ⟨b, o + 3, none⟩ = some (.int .u64 t.set.c) ∧
  w.cell? ⟨b, o + 4, none⟩ = some (.int .u64 t.set.d) ∧ w.cell? ⟨b, o + 5, none⟩ = some (.int .i64 t.min) ∧ w.cell? ⟨b, o + 6, none⟩ = some (.int .i64 t.max) ∧ w.cell? ⟨b, o + 7, none⟩ = some v

inductive Is (w : World) (P : Nat → Prop) : Tr → Value → Prop
  | leaf (k : Int) (q : Q4) (mn mx : Int) (a : Option Addr) (cap : Nat) : Is w P (.node k q mn mx []) (.slice a 0 cap)
  | node (k : Int) (q : Q4) (mn mx : Int) (l : List Tr) (b off cap : Nat) (vs : Nat → Value) (hl : l.length ≤ cap) (hc : cap ≤ 9223372036854775807) (hb : b < w.heap.size) (hP : P b)
      (cells : ∀ i, i < l.length → Cells w b (off + i * 8) (nthT l i) (vs i)) (kids : ∀ i, i < l.length → Is w P (nthT l i) (vs i)) :
      Is w P (.node k q mn mx l) (.slice (some ⟨b, off, none⟩) l.length cap)

theorem cell_same {w w' : World} {b : Nat} (h : w'.heap[b]? = w.heap[b]?) (o : Nat) : w'.cell? ⟨b, o, none⟩ = w.cell? ⟨b, o, none⟩ := by
  unfold World.cell?
  simp only [h]

theorem Cells.same {w w' : World} {b o : Nat} {t : Tr} {v : Value} (h : Cells w b o t v) (e : w'.heap[b]? = w.heap[b]?) : Cells w' b o t v := by
  unfold Cells at h ⊢
  simp only [cell_same e]
  exact h

theorem Is.carry {w w' : World} {P P' : Nat → Prop} {t : Tr} {v : Value} (h : Is w P t v) (hs : w.heap.size ≤ w'.heap.size) (hP : ∀ b, P b → b < w.heap.size → P' b) (e : ∀ b, P b → b < w.heap.size → w'.heap[b]? = w.heap[b]?) : Is w' P' t v := by
  induction h with
  | leaf k q mn mx a cap => exact .leaf k q mn mx a cap
  | node k q mn mx l b off cap vs hl hc hb hPb cells kids ih =>
    exact .node k q mn mx l b off cap vs hl hc (Nat.lt_of_lt_of_le hb hs) (hP b hPb hb) (fun i hi => (cells i hi).same (e b hPb hb)) (fun i hi => ih i hi)

theorem Is.later {w w' : World} {P : Nat → Prop} {t : Tr} {v : Value} (h : Is w P t v) (hb : Below w.heap.size w w') : Is w' P t v :=
  h.carry hb.size (fun _ p _ => p) (fun b _ hlt => hb.block b hlt)
theorem Is.grown {w w' : World} {g : Nat} {t : Tr} {v : Value} (h : Is w (· ≠ g) t v) (hb : w.grownBy w' (some g)) : Is w' (· ≠ g) t v :=
  h.carry hb.size (fun _ p _ => p) (fun b p hlt => hb.block b hlt (fun e => p (Option.some.inj e)))

theorem touch_refl (w : World) (row : Option Nat) : w.grownBy w row := ⟨rfl, rfl, rfl, Nat.le_refl _, fun _ _ _ => rfl⟩
theorem touch_trans {w w1 w2 : World} {row : Option Nat} (h1 : w.grownBy w1 row) (h2 : w1.grownBy w2 row) : w.grownBy w2 row :=
  ⟨h2.os.trans h1.os, h2.tape.trans h1.tape, h2.output.trans h1.output, Nat.le_trans h1.size h2.size, fun k hk hne => (h2.block k (Nat.lt_of_lt_of_le hk h1.size) hne).trans (h1.block k hk hne)⟩
theorem touch_below {w w1 : World} (row : Option Nat) (h : Below w.heap.size w w1) : w.grownBy w1 row := ⟨h.os, h.tape, h.output, h.size, fun k hk _ => h.block k hk⟩
theorem touch_cell (w : World) (g i : Nat) (x : Value) : w.grownBy (w.setCell ⟨g, i, none⟩ x) (some g) :=
  ⟨rfl, rfl, rfl, by simp, fun k _ hne => Below.heap_setCell _ _ _ _ (fun e => hne (congrArg some e))⟩
theorem touch_drewT {w w1 : World} {row : Option Nat} (h : w.grownBy w1 row) : w.grownBy w1.drew row := ⟨h.os, h.tape, h.output, h.size, h.block⟩
theorem touch_alloc {w w1 : World} {row : Option Nat} (h : w.grownBy w1 row) (o : Obj) : w.grownBy (w1.alloc o) row :=
  touch_trans h (touch_below _ ((Below.refl _ _).alloc (Nat.le_refl _) o))
theorem set_heap1 (w : World) (g : Nat) (cs : Array Value) (T : TypeId) (i : Nat) (x : Value) (h : w.heap[g]? = some (.cells cs T (0, 0))) : (w.setCell ⟨g, i, none⟩ x).heap[g]? = some (.cells (cs.setIfInBounds i x) T (0, 0)) := by
  show (w.heap.modify g _)[g]? = _
  rw [Array.getElem?_modify, if_pos rfl, h]
  rfl

/-- one form for an empty list of kids and any other -/
theorem Is.form {w : World} {P : Nat → Prop} {t : Tr} {v : Value} (h : Is w P t v) : ∃ (o : Option Addr) (cap b off : Nat) (vs : Nat → Value), v = .slice o t.kids.length cap ∧ t.kids.length ≤ cap ∧ 
    ∀ i, i < t.kids.length → o = some ⟨b, off, none⟩ ∧ cap ≤ 9223372036854775807 ∧ b < w.heap.size ∧ P b ∧ Cells w b (off + i * 8) (nthT t.kids i) (vs i) ∧ Is w P (nthT t.kids i) (vs i) := by
  cases h with
  | leaf k q mn mx a cap => exact ⟨a, cap, 0, 0, fun _ => .nilIface, rfl, Nat.zero_le _, fun i hi => absurd hi (Nat.not_lt_zero _)⟩
  | node k q mn mx l b off cap vs hl hc hb hP cells kids => exact ⟨_, cap, b, off, vs, rfl, hl, fun i hi => ⟨rfl, hc, hb, hP, cells i hi, kids i hi⟩⟩

theorem Is.shape {w : World} {P : Nat → Prop} {t : Tr} {v : Value} (h : Is w P t v) : ∃ (o : Option Addr) (n cap : Nat), v = .slice o n cap := by
  cases h with
  | leaf k q mn mx a cap => exact ⟨_, _, _, rfl⟩
  | node k q mn mx l b off cap vs hl hc hb hP cells kids => exact ⟨_, _, _, rfl⟩

/-- a block of one number -/
def One (w : World) (g : Nat) (n : Int) : Prop := w.heap[g]? = some (.cells #[.int .i64 n] 3 (0, 0))
theorem One.lt {w : World} {g : Nat} {n : Int} (h : One w g n) : g < w.heap.size := (Array.getElem?_eq_some_iff.1 h).1
theorem One.c {w : World} {g : Nat} {n : Int} (h : One w g n) : w.cell? ⟨g, 0, none⟩ = some (.int .i64 n) := by rw [Lib.cell_of_heap h]; rfl
theorem One.fz {w : World} {g : Nat} {n : Int} (h : One w g n) : w.frozen? ⟨g, 0, none⟩ = false := Lib.frozen_of_heap h 0
theorem One.below {w w' : World} {g : Nat} {n : Int} (h : One w g n) (b : Below w.heap.size w w') : One w' g n := by unfold One; rw [b.block g h.lt]; exact h
theorem One.set {w : World} {g : Nat} {n : Int} (h : One w g n) (m : Int) : One (w.setCell ⟨g, 0, none⟩ (.int .i64 m)) g m := set_heap1 w g _ _ 0 _ h
end Go.Proofs.Ytfilndgbgdnpiaa.st

namespace Go.Proofs.Ytfilndgbgdnpiaa.nb
open Go.ChangeShapes Go.WideShapes Go.ChangeAt Go.RowKit
open st (Tr Q4 nodesOf goods okNode Is)
open nf (Ed)
set_option linter.unusedVariables false
set_option maxRecDepth 100000

def edC (e : Ed) : List Value := [.int .i64 e.fr, .int .i64 e.to, .bool e.free, .int .u64 (e.a : Int), .int .u64 (e.b : Int), .int .u64 (e.c : Int), .int .u64 (e.d : Int)]
def edsC (l : List Ed) : List Value := l.flatMap edC
theorem edsC_snoc (l : List Ed) (e : Ed) : edsC (l ++ [e]) = edsC l ++ edC e := by simp [edsC]
/-- the builder's cell, and the edges that it owns -/
structure Bx (w : World) (B g : Nat) (x : St) (v : Value) : Prop where
  bg : B ≤ g
  blk : w.heap[g]? = some (.cells #[.int .i64 (x.n : Int), .int .i64 0, .int .i64 1, v] 63 (0, 0))
  own : w.ownsRow B 68 7 v x.es.length (edsC x.es)
/-- what laying changes: the builder's cell and its row -/
structure Mv (g : Nat) (v v' : Value) (W W' : World) : Prop where
  os : W'.os = W.os
  tape : W'.tape = W.tape
  output : W'.output = W.output
  size : W.heap.size ≤ W'.heap.size
  block : ∀ j, j < W.heap.size → j ≠ g → some j ≠ v.ownBlock → W'.heap[j]? = W.heap[j]?
  own : ∀ k, v'.ownBlock = some k → v.ownBlock = some k ∨ W.heap.size ≤ k
theorem Mv.refl (g : Nat) (v : Value) (W : World) : Mv g v v W W := ⟨rfl, rfl, rfl, Nat.le_refl _, fun _ _ _ _ => rfl, fun k h => .inl h⟩
theorem Mv.trans {g : Nat} {u v x : Value} {A B C : World} (h : Mv g u v A B) (k : Mv g v x B C) : Mv g u x A C :=
  ⟨k.os.trans h.os, k.tape.trans h.tape, k.output.trans h.output, Nat.le_trans h.size k.size, fun j h1 h2 h3 => by
    rw [← h.block j h1 h2 h3]
    refine k.block j (Nat.lt_of_lt_of_le h1 h.size) h2 fun e => ?_
    rcases h.own j e.symm with e2 | e2
    · exact h3 e2.symm
    · omega, fun j e => by
    rcases k.own j e with e2 | e2
    · exact h.own j e2
    · exact .inr (Nat.le_trans h.size e2)⟩
theorem Mv.of {g : Nat} {v : Value} {W W' : World} (b : Below W.heap.size W W') : Mv g v v W W' := ⟨b.os, b.tape, b.output, b.size, fun j h _ _ => b.block j h, fun k h => .inl h⟩
section
variable {w w' : World} {B g : Nat} {x : St} {v : Value}
theorem Bx.lt (h : Bx w B g x v) : g < w.heap.size := (Array.getElem?_eq_some_iff.1 h.blk).1
theorem Bx.c0 (h : Bx w B g x v) : w.cell? ⟨g, 0, none⟩ = some (.int .i64 (x.n : Int)) := by rw [Lib.cell_of_heap h.blk]; rfl
theorem Bx.c3 (h : Bx w B g x v) : w.cell? ⟨g, 3, none⟩ = some v := by rw [Lib.cell_of_heap h.blk]; rfl
theorem Bx.fz (h : Bx w B g x v) (i : Nat) : w.frozen? ⟨g, i, none⟩ = false := Lib.frozen_of_heap h.blk i
theorem Bx.ne (h : Bx w B g x v) : some g ≠ v.ownBlock := ow.type h.own h.blk (by decide)
theorem Bx.later (h : Bx w B g x v) (b : Below w.heap.size w w') : Bx w' B g x v := ⟨h.bg, (b.block g h.lt).trans h.blk, ow.later h.own b⟩
theorem Bx.form (h : Bx w B g x v) : ∃ o cap, v = .slice o x.es.length cap ∧ cap ≤ 9223372036854775807 := by
  obtain ⟨o, cap, e, _, h2⟩ := ow.form h.own
  exact ⟨o, cap, e, h2⟩
end
def FullIs (x : St) : Prop := ∀ B g v w, Bx w B g x v → Calls Try.prog 28 #[.pointer (some ⟨g, 0, none⟩)] w fun e w' => e = .returned (.bool x.full) ∧ w' = w
theorem full_any (x : St) (hn : x.n ≤ 1000000) (he : x.es.length ≤ 1000000) : FullIs x := by
  intro B g v w h
  have c0 := h.c0
  have c3 := h.c3
  obtain ⟨o, cap, rfl, _⟩ := h.form
  obtain ⟨n, es⟩ := x
  simp only at c0 c3 hn he
  have HE := (show Hid (St.full ⟨n, es⟩ = (decide (2000 < n) || decide (16000 < es.length))) from rfl)
  clear h
  generalize es.length = m at *
  by_cases h1 : 2000 < n
  · have HF := (show Hid (St.full ⟨n, es⟩ = true) from by show _ = _; rw [HE.out]; simp [h1])
    clear HE
    go_enter Try.func28, Try.ntmps28
    go_wp2
    go_ret
    exact ⟨by rw [HF.out]; rfl, rfl⟩
  · have HF := (show Hid (St.full ⟨n, es⟩ = (decide ((2000 : Int) < (n : Int)) || decide ((16000 : Int) < (m : Int)))) from by show _ = _; rw [HE.out]; congr 1 <;> (apply decide_eq_decide.2; omega))
    clear HE
    go_enter Try.func28, Try.ntmps28
    go_wp2
    go_ret
    exact ⟨by rw [HF.out]; rfl, rfl⟩
def StateIs (x : St) : Prop := ∀ B g v w, Bx w B g x v → Calls Try.prog 75 #[.pointer (some ⟨g, 0, none⟩)] w fun e w' => e = .returned (.int .i64 (x.n : Int)) ∧ Bx w' B g x.new v ∧ Mv g v v w w'
theorem state_any (x : St) (hn : x.n ≤ 1000000) : StateIs x := by
  intro B g v w h
  have c0 := h.c0
  have f0 := h.fz 0
  have c1 : (w.setCell ⟨g, 0, none⟩ (.int .i64 ((x.n : Int) + 1))).cell? ⟨g, 0, none⟩ = some (.int .i64 ((x.n : Int) + 1)) := by
    rw [Lib.cell_of_heap (st.set_heap1 w g _ _ 0 _ h.blk)]; rfl
  have HX := (show Hid (Bx (w.setCell ⟨g, 0, none⟩ (.int .i64 ((x.n : Int) + 1))) B g x.new v) from ⟨h.bg, by rw [st.set_heap1 w g _ _ 0 _ h.blk]; rfl, ow.keep h.own fun k hk => Below.heap_setCell _ _ _ k (fun e => h.ne (by have e' : k = g := e; rw [← e']; exact hk.symm))⟩)
  have HM := (show Hid (Mv g v v w (w.setCell ⟨g, 0, none⟩ (.int .i64 ((x.n : Int) + 1)))) from ⟨rfl, rfl, rfl, by simp, fun j _ h2 _ => Below.heap_setCell _ _ _ j (fun e => h2 e), fun k h => .inl h⟩)
  clear h
  go_enter Try.func75, Try.ntmps75
  go_wp2
  go_ret
  exact ⟨by go_num, HX.out, HM.out⟩
theorem info68 : (Try.prog.info? 68).map (fun i => (i.zero, i.size, i.bytes)) = some (some (.agg #[.int .i64 0, .int .i64 0, .bool false, .int .u64 0, .int .u64 0, .int .u64 0, .int .u64 0]), 7, 56) := by kernel_rfl
theorem new7 (W : World) (e : Ed) : ∀ j u, (edC e)[j]? = some u → (W.alloc (.cells (edC e).toArray 68)).cell? ((⟨W.heap.size, 0, none⟩ : Addr).add j) = some u := fun j u hu => by
  have : ((⟨W.heap.size, 0, none⟩ : Addr).add j) = ⟨W.heap.size, 0 + j, none⟩ := by simp [Addr.add]; omega
  rw [this, Nat.zero_add, Lib.cell_of_heap (World.alloc_heap_new W _)]
  simpa using hu
theorem one7 (e : Ed) : ∀ u ∈ edC e, u.oneCell' = true := fun u hu => by
  simp [edC] at hu
  rcases hu with rfl | rfl | rfl | rfl | rfl | rfl | rfl <;> rfl
/-- an edge more -/
theorem Bx.put {w w2 w3 : World} {B g : Nat} {x : St} {v : Value} (h : Bx w B g x v) (c : Below w.heap.size w w2) (e : Ed) {g' cap' : Nat} (ho : w3.ownsRow B 68 7 (.slice (some ⟨g', 0, none⟩) (x.es.length + 1) cap') (x.es.length + 1) (edsC x.es ++ edC e)) (hg : w2.grownBy w3 v.ownBlock) (hw : some g' = v.ownBlock ∨ w2.heap.size ≤ g') :
    (w3.cell? ⟨g, 3, none⟩ = some v ∧ w3.frozen? ⟨g, 3, none⟩ = false) ∧ Bx (w3.setCell ⟨g, 3, none⟩ (.slice (some ⟨g', 0, none⟩) (x.es.length + 1) cap')) B g ⟨x.n, x.es ++ [e]⟩ (.slice (some ⟨g', 0, none⟩) (x.es.length + 1) cap') ∧ Mv g v (.slice (some ⟨g', 0, none⟩) (x.es.length + 1) cap') w (w3.setCell ⟨g, 3, none⟩ (.slice (some ⟨g', 0, none⟩) (x.es.length + 1) cap')) := by
  have b3 : w3.heap[g]? = some (.cells #[.int .i64 (x.n : Int), .int .i64 0, .int .i64 1, v] 63 (0, 0)) := (hg.block g (Nat.lt_of_lt_of_le h.lt c.size) h.ne).trans ((c.block g h.lt).trans h.blk)
  have nb : some g ≠ (Value.slice (some ⟨g', 0, none⟩) (x.es.length + 1) cap').ownBlock := ow.type ho b3 (by decide)
  refine ⟨⟨by rw [Lib.cell_of_heap b3]; rfl, Lib.frozen_of_heap b3 3⟩, ⟨h.bg, by rw [st.set_heap1 w3 g _ _ 3 _ b3]; rfl, ?_⟩, ⟨hg.os.trans c.os, hg.tape.trans c.tape, hg.output.trans c.output, by have := c.size; have := hg.size; simp; omega, fun j h1 h2 h3 => ?_, fun k e2 => ?_⟩⟩
  · rw [edsC_snoc, List.length_append]
    exact ow.keep ho fun k hk => Below.heap_setCell _ _ _ k (fun e2 => nb (by have e' : k = g := e2; rw [← e']; exact hk.symm))
  · rw [Below.heap_setCell _ _ _ j (fun e2 => h2 e2), hg.block j (Nat.lt_of_lt_of_le h1 c.size) h3, c.block j h1]
  · have e3 : g' = k := by simpa [Value.ownBlock] using e2
    subst e3
    rcases hw with e4 | e4
    · exact .inl e4.symm
    · exact .inr (Nat.le_trans c.size e4)
def FreeIs (x : St) (f t : Nat) : Prop := ∀ B g v w, Bx w B g x v → B ≤ w.heap.size → Calls Try.prog 49 #[.pointer (some ⟨g, 0, none⟩), .int .i64 (f : Int), .int .i64 (t : Int)] w fun e w' => e = .returned (.tuple #[]) ∧ ∃ v', Bx w' B g (x.free f t) v' ∧ Mv g v v' w w'
theorem free_any (x : St) (f t : Nat) (he : x.es.length ≤ 1000000) : FreeIs x f t := by
  intro B g v w h hB
  have c3 := h.c3
  go_enter Try.func49, Try.ntmps49
  go_wp2_with (at_builtin; refine ow.wpList_append rfl _ _ 29 rfl 68 _ 7 56 Try.underlying29 info68 rfl (by decide) (by decide) B v x.es.length (edsC x.es) w.heap.size (edC ⟨f, t, true, 0, 0, 0, 0⟩) rfl rfl (ow.later h.own ((Below.refl _ _).alloc (Nat.le_refl _) _)) rfl (new7 w _) (one7 _) he (by simp; omega) ?_; intro g' cap' w3 ho hg hw; obtain ⟨⟨k1, k2⟩, k3, k4⟩ := h.put ((Below.refl _ _).alloc (Nat.le_refl _) _) ⟨f, t, true, 0, 0, 0, 0⟩ ho hg hw)
  go_end0
  exact ⟨rfl, _, k3, k4⟩
end Go.Proofs.Ytfilndgbgdnpiaa.nb

namespace Go.Proofs.Ytfilndgbgdnpiaa.nb
open Go.ChangeShapes Go.WideShapes Go.ChangeAt Go.RowKit
open st (Tr Q4 nodesOf goods okNode Is)
open nf (Ed)
set_option linter.unusedVariables false
set_option maxRecDepth 100000

def OverIs (x : St) (q : Q4) (f t : Nat) : Prop := ∀ B g v w, Bx w B g x v → B ≤ w.heap.size → Calls Try.prog 48 #[.pointer (some ⟨g, 0, none⟩), .agg #[.int .u64 (q.a : Int), .int .u64 (q.b : Int), .int .u64 (q.c : Int), .int .u64 (q.d : Int)], .int .i64 (f : Int), .int .i64 (t : Int)] w fun e w' => e = .returned (.tuple #[]) ∧ ∃ v', Bx w' B g (x.over q f t) v' ∧ Mv g v v' w w'
set_option maxHeartbeats 1000000 in
theorem over_any (x : St) (q : Q4) (f t : Nat) (he : x.es.length ≤ 1000000) : OverIs x q f t := by
  intro B g v w h hB
  obtain ⟨w1, hw1⟩ : ∃ w1, w1 = w.alloc (.cells #[.int .u64 (q.a : Int), .int .u64 (q.b : Int), .int .u64 (q.c : Int), .int .u64 (q.d : Int)] 25) := ⟨_, rfl⟩
  have hb1 : Below w.heap.size w w1 := by rw [hw1]; exact (Below.refl _ _).alloc (Nat.le_refl _) _
  have HX := (show Hid (Bx w1 B g x v) from h.later hb1)
  have c3 := HX.out.c3
  have hB1 : B ≤ w1.heap.size := Nat.le_trans hB hb1.size
  have b5 : w1.heap[w.heap.size]? = some (.cells #[.int .u64 (q.a : Int), .int .u64 (q.b : Int), .int .u64 (q.c : Int), .int .u64 (q.d : Int)] 25 (0, 0)) := by rw [hw1]; exact heap_alloc_new w _
  have d0 : w1.cell? ⟨w.heap.size, 0, none⟩ = some (.int .u64 (q.a : Int)) := by rw [Lib.cell_of_heap b5]; rfl
  have d1 : w1.cell? ⟨w.heap.size, 1, none⟩ = some (.int .u64 (q.b : Int)) := by rw [Lib.cell_of_heap b5]; rfl
  have d2 : w1.cell? ⟨w.heap.size, 2, none⟩ = some (.int .u64 (q.c : Int)) := by rw [Lib.cell_of_heap b5]; rfl
  have d3 : w1.cell? ⟨w.heap.size, 3, none⟩ = some (.int .u64 (q.d : Int)) := by rw [Lib.cell_of_heap b5]; rfl
  have HM := (show Hid (Mv g v v w w1) from Mv.of hb1)
  clear h hb1 b5
  go_enter Try.func48, Try.ntmps48
  go_wp2_with (fail)
  rw [← hw1]
  clear hw1
  have c3' := (HX.out.later ((Below.refl _ _).alloc (Nat.le_refl _) (.cells #[.int .i64 (f : Int), .int .i64 (t : Int), .bool false, .int .u64 (q.a : Int), .int .u64 (q.b : Int), .int .u64 (q.c : Int), .int .u64 (q.d : Int)] 68))).c3
  go_region_law (first | (refine ow.step_append (by rfl) (.tmp 13) (.tmp 18) 29 (by rfl) 68 _ 7 56 Try.underlying29 info68 rfl (by decide) (by decide) B v x.es.length (edsC x.es) w1.heap.size (edC ⟨f, t, false, q.a, q.b, q.c, q.d⟩) (by rfl) (by rfl) (ow.later HX.out.own (Below.drew ((Below.refl _ _).alloc (Nat.le_refl _) _))) rfl (new7 w1 _) (one7 _) he (by simp; omega) ?_; intro g' cap' w3 ho hg hw; obtain ⟨⟨k1, k2⟩, k3, k4⟩ := HX.out.put (Below.drew ((Below.refl _ _).alloc (Nat.le_refl _) _)) ⟨f, t, false, q.a, q.b, q.c, q.d⟩ ho hg hw))
  all_goals
    go_end0
    exact ⟨rfl, _, k3, HM.out.trans k4⟩
end Go.Proofs.Ytfilndgbgdnpiaa.nb

namespace Go.Proofs.Ytfilndgbgdnpiaa.st
open Go.ChangeShapes Go.WideShapes Go.ChangeAt Go.RowKit
set_option linter.unusedVariables false

def FitsIs (t : Tr) (lv n : Nat) (r : Bool) (m : Nat) : Prop := ∀ g v w, Is w (· ≠ g) t v → One w g n → Calls Try.prog 46 #[.agg #[.int .i64 t.kind, .int .u64 t.set.a, .int .u64 t.set.b, .int .u64 t.set.c, .int .u64 t.set.d, .int .i64 t.min, .int .i64 t.max, v], .int .i64 lv, .pointer (some ⟨g, 0, none⟩)] w fun e w' =>
  e = .returned (.bool r) ∧ (r = true → One w' g (m : Int)) ∧ w.grownBy w' (some g)

theorem below_alloc (w : World) (o : Obj) : Below w.heap.size w (w.alloc o) := (Below.refl _ _).alloc (Nat.le_refl _) o

theorem fits_none_left (t : Tr) (n m : Nat) : FitsIs t 0 n false m := by
  intro g v w hi ho
  clear hi
  generalize t.kind = k at *
  generalize t.set = q at *
  generalize t.min = mn at *
  generalize t.max = mx at *
  go_enter Try.func46, Try.ntmps46
  go_wp2
  go_ret
  exact ⟨rfl, fun h => (by cases h), touch_alloc (touch_refl _ _) _⟩
theorem fits_no_nodes (t : Tr) (lv m : Nat) (hlv : lv ≠ 0) : FitsIs t lv 0 false m := by
  intro g v w hi ho
  have hne : ((lv : Int) == 0) = false := by rw [beq_eq_false_iff_ne]; omega
  clear hi
  generalize t.kind = k at *
  generalize t.set = q at *
  generalize t.min = mn at *
  generalize t.max = mx at *
  have c0 := ho.c
  have c1 : ∀ o, (w.alloc o).cell? ⟨g, 0, none⟩ = some (.int .i64 0) := fun o => (cell_same ((below_alloc w o).block g ho.lt) 0).trans (by simpa using c0)
  clear c0 ho
  go_enter Try.func46, Try.ntmps46
  go_wp2
  go_ret
  exact ⟨rfl, fun h => (by cases h), touch_alloc (touch_refl _ _) _⟩

set_option maxHeartbeats 1000000 in
set_option maxRecDepth 100000 in
theorem fits_step (d : Nat) (ih : ∀ (t : Tr) (lv n : Nat) (r : Bool) (m : Nat), t.depth ≤ d → lv ≤ 9223372036854775807 → n ≤ 9223372036854775807 → r = (decide (t.depth ≤ lv) && decide (t.nodes ≤ n)) → m = n - t.nodes → FitsIs t lv n r m)
    (t : Tr) (L N lv n : Nat) (r : Bool) (M : Nat) (hd : t.depth ≤ d + 1) (hL : L ≤ 9223372036854775807) (hN : N ≤ 9223372036854775807) (eL : L = lv + 1) (eN : N = n + 1) (hr : r = (decide (t.depth ≤ L) && decide (t.nodes ≤ N))) (hM : M = N - t.nodes) : FitsIs t L N r M := by
  intro g v w hi ho
  obtain ⟨o, cap, b, off, vs, rfl, hcap, hk⟩ := hi.form
  have hDe := t.depth_eq
  have hNe := t.nodes_eq
  have HK : Hid (∀ i, i < t.kids.length → (nthT t.kids i).depth ≤ d) := fun i hi => by have := depth_nth t.kids i hi; omega
  have c0 := ho.c
  have hlt := ho.lt
  have f0 := ho.fz
  have c1 : ∀ o, (w.alloc o).cell? ⟨g, 0, none⟩ = some (.int .i64 N) := fun o => (cell_same ((below_alloc w o).block g hlt) 0).trans c0
  have f1 : ∀ o, (w.alloc o).frozen? ⟨g, 0, none⟩ = false := fun o => (ho.below (below_alloc w o)).fz
  have HR : Hid (r = (decide (depths t.kids ≤ lv) && decide (nodesOf t.kids ≤ n)) ∧ M = n - nodesOf t.kids) := by
    refine ⟨?_, by omega⟩
    rw [hr, hDe, hNe, eL, eN]; simp only [Nat.add_le_add_iff_right]
  have hne1 : ((L : Int) == 0) = false := by rw [beq_eq_false_iff_ne]; omega
  have hne2 : ((N : Int) == 0) = false := by rw [beq_eq_false_iff_ne]; omega
  have hs1 : (N : Int) - 1 = (n : Int) := by omega
  have hs2 : (L : Int) - 1 = (lv : Int) := by omega
  have hlv : lv ≤ 9223372036854775807 := by omega
  have hn : n ≤ 9223372036854775807 := by omega
  have hll : t.kids.length ≤ 9223372036854775807 := by
    by_cases h0 : 0 < t.kids.length
    · have := (hk 0 h0).2.1; omega
    · omega
  clear hDe hNe hd hi eL eN hr hM
  generalize t.kind = k at *
  generalize t.set = q at *
  generalize t.min = mn at *
  generalize t.max = mx at *
  generalize t.kids = l at *
  go_enter Try.func46, Try.ntmps46
  go_wp2
  go_loopw [25] (fun x wr => ∃ (i m : Nat), x = .int .i64 i ∧ i ≤ l.length ∧ One wr g (m : Int) ∧ w.grownBy wr (some g) ∧ w.heap.size + 1 ≤ wr.heap.size ∧ Hid (depths (l.take i) ≤ lv ∧ m + nodesOf (l.take i) = n)) (fun x _ => l.length - (intOf x).toNat)
  case atStart => exact ⟨0, n, rfl, by omega, (ho.set n).below (below_alloc _ _), touch_alloc (touch_cell _ _ _ _) _, by simp, by show _ ∧ _; simp [depths, nodesOf]⟩
  case round =>
    obtain ⟨i, m, rfl, hil, hone, hT, hsz, HI⟩ := hrel
    by_cases hend : i < l.length
    · obtain ⟨rfl, hcm, hb, hne, hcells, hkid⟩ := hk i hend
      have hcells2 := hcells.same (hT.block b hb (fun e => hne (Option.some.inj e)))
      have hkid2 := hkid.grown hT
      obtain ⟨k0, k1, k2, k3, k4, k5, k6, k7⟩ := hcells2
      obtain ⟨o2, n2, cap2, hv2⟩ := hkid2.shape
      rw [hv2] at k7 hkid2
      clear hcells hkid hk hv2
      by_cases hyes : (nthT l i).depth ≤ lv ∧ (nthT l i).nodes ≤ m
      · have hcall := ih (nthT l i) lv m true (m - (nthT l i).nodes) (HK.out i hend) hlv (by have := HI.out.2; omega) (by simp [hyes]) rfl
        have HJ : Hid (depths (l.take (i + 1)) ≤ lv ∧ m - (nthT l i).nodes + nodesOf (l.take (i + 1)) = n) := by
          refine ⟨?_, ?_⟩
          · rw [depths_take l i hend]; have := HI.out.1; omega
          · rw [nodesOf_take l i hend]; have := HI.out.2; omega
        clear hyes
        generalize nthT l i = x at *
        go_wp2_with (go_at_call 46; refine (hcall _ _ _ (hkid2.later (below_alloc _ _)) (hone.below (below_alloc _ _))).mono ?_; rintro e w1 ⟨rfl, h1, t1⟩)
        go_roundw
        case rel => exact ⟨i + 1, _, by go_num, by omega, h1 trivial, touch_trans (touch_alloc hT _) t1, by have := t1.size; simp at this; omega, HJ⟩
        case measure => simp [intOf]; omega
      · have hcall := ih (nthT l i) lv m false (m - (nthT l i).nodes) (HK.out i hend) hlv (by have := HI.out.2; omega) (by symm; simp; omega) rfl
        have HF : Hid (r = false) := by
          have h1 := depth_nth l i hend
          have h2 := nodes_nth l i hend
          have h3 := HI.out.2
          show _ = _
          rw [HR.out.1]; simp; omega
        clear hyes
        generalize nthT l i = x at *
        go_wp2_with (go_at_call 46; refine (hcall _ _ _ (hkid2.later (below_alloc _ _)) (hone.below (below_alloc _ _))).mono ?_; rintro e w1 ⟨rfl, h1, t1⟩)
        go_ret
        exact ⟨by rw [HF.out]; rfl, fun h => absurd h (by rw [HF.out]; decide), touch_trans (touch_alloc hT _) t1⟩
    · have HF : Hid (r = true ∧ M = m) := by
        have h := HI.out
        rw [List.take_of_length_le (by omega)] at h
        refine ⟨?_, ?_⟩
        · rw [HR.out.1]; simp; omega
        · rw [HR.out.2]; omega
      go_wp2
      go_ret
      exact ⟨by rw [HF.out.1]; rfl, fun _ => by rw [HF.out.2]; exact hone, hT⟩

theorem fits_any (d : Nat) : ∀ (t : Tr) (lv n : Nat) (r : Bool) (m : Nat), t.depth ≤ d → lv ≤ 9223372036854775807 → n ≤ 9223372036854775807 → r = (decide (t.depth ≤ lv) && decide (t.nodes ≤ n)) → m = n - t.nodes → FitsIs t lv n r m := by
  induction d with
  | zero => intro t lv n r m hd; have := t.depth_eq; omega
  | succ d ih =>
    intro t lv n r m hd hlv hn hr hm
    have hDe := t.depth_eq
    have hNe := t.nodes_eq
    match lv, n, hr with
    | 0, n, hr =>
      have e : r = false := by rw [hr]; simp; omega
      rw [e]; exact fits_none_left t n m
    | lv + 1, 0, hr =>
      have e : r = false := by rw [hr]; simp; omega
      rw [e]; exact fits_no_nodes t (lv + 1) m (by omega)
    | lv + 1, n + 1, hr => exact fits_step d ih t _ _ lv n r m hd hlv hn rfl rfl hr hm
end Go.Proofs.Ytfilndgbgdnpiaa.st

namespace Go.Proofs.Ytfilndgbgdnpiaa.st
open Go.ChangeShapes Go.WideShapes Go.ChangeAt Go.RowKit
set_option linter.unusedVariables false

theorem info22 : (Try.prog.info? 22).map (fun i => (i.zero, i.size, i.bytes)) = some (some (.int .u64 0), 1, 8) := by kernel_rfl
theorem eq23 (a b c d a' b' c' d' : Int) (W : World) : (Op.equalIn 9999 23 (.agg #[.int .u64 a, .int .u64 b, .int .u64 c, .int .u64 d]) (.agg #[.int .u64 a', .int .u64 b', .int .u64 c', .int .u64 d'])).run Try.prog W = .ok (a == a' && (b == b' && (c == c' && d == d'))) W := by
  obtain ⟨i, hi, _, _, _⟩ := info_parts info22
  have c22 : Try.prog.cellsOf 22 = 1 := by kernel_rfl
  have r4 : List.range 4 = [0, 1, 2, 3] := rfl
  have he : ∀ x y : Int, (Op.equalIn 9998 22 (.int .u64 x) (.int .u64 y)).run Try.prog W = .ok (x == y) W := fun x y => by
    rw [run_equalIn_int W 9997 22 .u64 .u64 x y Try.underlying22]
  rw [run_equalIn_array W 9998 _ _ Try.underlying23 hi, c22, r4]
  simp only [Op.eqItems, part]
  cases h1 : (a == a') <;> cases h2 : (b == b') <;> cases h3 : (c == c') <;> cases h4 : (d == d') <;> simp [he, h1, h2, h3, h4]
theorem noSet_is (q : Q4) : ((q.a : Int) == 0 && ((q.b : Int) == 0 && ((q.c : Int) == 0 && (q.d : Int) == 0))) = noSet q := by
  unfold noSet
  have h : ∀ x : Nat, ((x : Int) == 0) = decide (x = 0) := fun x => by
    by_cases hx : x = 0
    · subst hx; rfl
    · rw [decide_eq_false hx, beq_eq_false_iff_ne]; omega
  rw [h, h, h, h, Bool.and_assoc, Bool.and_assoc]

def OnceIs (a b : Int) (r : Bool) : Prop := ∀ w, Calls Try.prog 94 #[.int .i64 a, .int .i64 b] w fun e w' => e = .returned (.bool r) ∧ w' = w
theorem once_any (a b : Int) (r : Bool) (hr : r = (decide (a = 1) && decide (b = 1))) : OnceIs a b r := by
  intro w
  have HR : Hid (r = (decide (a = 1) && decide (b = 1))) := hr
  clear hr
  by_cases h1 : a = 1 <;> by_cases h2 : b = 1
  all_goals
    go_enter Try.func94, Try.ntmps94
    go_wp2
    go_ret
    refine ⟨?_, rfl⟩
    rw [HR.out]
    simp [*]

def TimesIs (a b : Int) (r : Bool) : Prop := ∀ w, Calls Try.prog 90 #[.int .i64 a, .int .i64 b] w fun e w' => e = .returned (.bool r) ∧ w' = w
theorem times_any (a b : Int) (r : Bool) (hr : r = timesOk a b) : TimesIs a b r := by
  intro w
  have HR : Hid (r = timesOk a b) := hr
  have ho := once_any a b _ rfl
  clear hr
  by_cases h0 : a < 0
  · go_enter Try.func90, Try.ntmps90
    go_wp2_with (fail)
    go_ret
    exact ⟨by rw [HR.out]; simp [timesOk]; omega, rfl⟩
  by_cases h20 : 20 < a
  · go_enter Try.func90, Try.ntmps90
    go_wp2_with (fail)
    go_ret
    exact ⟨by rw [HR.out]; simp [timesOk]; omega, rfl⟩
  by_cases h1 : a = 1 ∧ b = 1
  · obtain ⟨rfl, rfl⟩ := h1
    go_enter Try.func90, Try.ntmps90
    go_wp2_with (go_at_call 94; refine (ho _).mono ?_; rintro e w1 ⟨rfl, rfl⟩)
    go_ret
    exact ⟨by rw [HR.out]; rfl, rfl⟩
  · have ho2 : OnceIs a b false := by
      have e : (decide (a = 1) && decide (b = 1)) = false := by simp; omega
      rw [e] at ho; exact ho
    have HO : Hid (timesOk a b = (decide (b = -1) || (decide (a ≤ b) && decide (b ≤ 20)))) := by
      show _ = _
      unfold timesOk
      have e : (decide (a = 1) && decide (b = 1)) = false := by simp; omega
      rw [e, decide_eq_true (by omega : 0 ≤ a), decide_eq_true (by omega : a ≤ 20)]
      simp
    clear ho h1
    by_cases h2 : b = -1
    · subst h2
      go_enter Try.func90, Try.ntmps90
      go_wp2_with (go_at_call 94; refine (ho2 _).mono ?_; rintro e w1 ⟨rfl, rfl⟩)
      go_ret
      exact ⟨by rw [HR.out, HO.out]; rfl, rfl⟩
    · by_cases h3 : a ≤ b
      · by_cases h4 : b ≤ 20
        · go_enter Try.func90, Try.ntmps90
          go_wp2_with (go_at_call 94; refine (ho2 _).mono ?_; rintro e w1 ⟨rfl, rfl⟩)
          go_ret
          exact ⟨by rw [HR.out, HO.out]; simp [*], rfl⟩
        · go_enter Try.func90, Try.ntmps90
          go_wp2_with (go_at_call 94; refine (ho2 _).mono ?_; rintro e w1 ⟨rfl, rfl⟩)
          go_ret
          exact ⟨by rw [HR.out, HO.out]; simp [*], rfl⟩
      · go_enter Try.func90, Try.ntmps90
        go_wp2_with (go_at_call 94; refine (ho2 _).mono ?_; rintro e w1 ⟨rfl, rfl⟩)
        go_ret
        exact ⟨by rw [HR.out, HO.out, decide_eq_false (by omega : ¬ a ≤ b), decide_eq_false h2]; simp [h2], rfl⟩

theorem any_take_le (k : Int) (l : List Tr) (i : Nat) (h : l.length ≤ i) : anyKind k (l.take i) = anyKind k l := by rw [List.take_of_length_le h]

/-- a list of kids -/
def KidsIs (w : World) (P : Nat → Prop) (l : List Tr) (v : Value) : Prop := Is w P (.node 0 none4 0 0 l) v
theorem Is.toKids {w : World} {P : Nat → Prop} {t : Tr} {v : Value} (h : Is w P t v) : KidsIs w P t.kids v := by
  cases h with
  | leaf k q mn mx a cap => exact .leaf _ _ _ _ a cap
  | node k q mn mx l b off cap vs hl hc hb hP cells kids => exact .node _ _ _ _ l b off cap vs hl hc hb hP cells kids
theorem KidsIs.toTree {w : World} {P : Nat → Prop} {l : List Tr} {v : Value} (h : KidsIs w P l v) (k : Int) (q : Q4) (mn mx : Int) : Is w P (.node k q mn mx l) v := by
  unfold KidsIs at h
  cases h with
  | leaf _ _ _ _ a cap => exact .leaf _ _ _ _ a cap
  | node _ _ _ _ l b off cap vs hl hc hb hP cells kids => exact .node _ _ _ _ l b off cap vs hl hc hb hP cells kids

def HasTIs (l : List Tr) (k : Int) (r : Bool) : Prop := ∀ v w P, KidsIs w P l v → Calls Try.prog 89 #[v, .int .i64 k] w fun e w' => e = .returned (.bool r) ∧ Below w.heap.size w w'
set_option maxHeartbeats 1000000 in
set_option maxRecDepth 100000 in
theorem hasT_any (l : List Tr) (k : Int) (r : Bool) (hr : r = anyKind k l) : HasTIs l k r := by
  intro v w P hi
  have HR : Hid (r = anyKind k l) := hr
  obtain ⟨o, cap, b, off, vs, rfl, hcap, hk⟩ := hi.form
  simp only [Tr.kids] at hcap hk ⊢
  have hll : l.length ≤ 9223372036854775807 := by
    by_cases h0 : 0 < l.length
    · have := (hk 0 h0).2.1; omega
    · omega
  clear hr hi
  go_enter Try.func89, Try.ntmps89
  go_wp2
  go_loopw [9] (fun x wr => ∃ (i : Nat), x = .int .i64 i ∧ i ≤ l.length ∧ Below w.heap.size w wr ∧ Hid (anyKind k (l.take i) = false)) (fun x _ => l.length - (intOf x).toNat)
  case atStart => exact ⟨0, rfl, by omega, Below.refl _ _, rfl⟩
  case round =>
    obtain ⟨i, rfl, hil, hB, HI⟩ := hrel
    by_cases hend : i < l.length
    · obtain ⟨rfl, hcm, hb, hne, hcells, hkid⟩ := hk i hend
      have hcells2 := hcells.same (hB.block b hb)
      obtain ⟨o2, n2, cap2, hv2⟩ := hkid.shape
      rw [hv2] at hcells2
      obtain ⟨k0, k1, k2, k3, k4, k5, k6, k7⟩ := hcells2
      clear hcells hkid hk hv2
      by_cases hyes : (nthT l i).kind = k
      · have HF : Hid (r = true) := HR.out.trans (any_true k l i hend hyes)
        generalize nthT l i = x at *
        go_wp2
        go_ret
        exact ⟨by rw [HF.out]; rfl, hB.alloc hB.size _⟩
      · have HJ : Hid (anyKind k (l.take (i + 1)) = false) := by
          show _ = _
          rw [any_take k l i hend, HI.out, decide_eq_false hyes]; rfl
        generalize nthT l i = x at *
        go_wp2
        go_roundw
        case rel => exact ⟨i + 1, by go_num, by omega, hB.alloc hB.size _, HJ⟩
        case measure => simp [intOf]; omega
    · have HF : Hid (r = false) := by
        show _ = _
        rw [HR.out, ← HI.out, any_take_le k l i (by omega)]
      go_wp2
      go_ret
      exact ⟨by rw [HF.out]; rfl, hB⟩

def okB (k : Int) (ns : Bool) (mn mx : Int) (n : Nat) (h2 h3 tm : Bool) : Bool :=
  if k = 1 then decide (mn = 0) && decide (mx = 0) && decide (n = 0)
  else if k = 2 then ns && decide (mn = 0) && decide (mx = 0) && !decide (n = 1) && !h2
  else if k = 3 then ns && decide (mn = 0) && decide (mx = 0) && decide (2 ≤ n) && !h3
  else if k = 4 then ns && tm && decide (n = 1)
  else false
theorem okB_is (t : Tr) : okNode t = okB t.kind (noSet t.set) t.min t.max t.kids.length (anyKind 2 t.kids) (anyKind 3 t.kids) (timesOk t.min t.max) := rfl

def NodeIs (f : Nat) (t : Tr) (r : Bool) : Prop := ∀ v w P, Is w P t v → Calls Try.prog f #[.agg #[.int .i64 t.kind, .int .u64 t.set.a, .int .u64 t.set.b, .int .u64 t.set.c, .int .u64 t.set.d, .int .i64 t.min, .int .i64 t.max, v]] w fun e w' => e = .returned (.bool r) ∧ Below w.heap.size w w'

end Go.Proofs.Ytfilndgbgdnpiaa.st
