/-
  Texts put together: Plain mathematics, no program: a tree of an expression; how deep it is, how many nodes it has, whether it is an expression's. A tree in memory: a value of the type of trees that reads, in a world, as a tree; what carries it on. Contracts over this program: whether a tree has at most so many levels and nodes (regex.fits). Contracts over this program: how deep a tree is, how many nodes it has, whether it is an expression's (the document's Deep, Nodes, one, every, Right; regex.rightNode, right, Right).
-/
import Derived.Test.YtfilndgbgdnpiaaKSets
import Derived.Test.YtfilndgbgdnpiaaRows
import Derived.WalkKit
import Derived.ChangeAt
import Derived.ChangeShapes
import Derived.WalkLawsBesides
import Derived.Laws.IdiomArrays
import Derived.Deep.Slices
import Derived.SizedLaws
import Derived.ChangeOld
import Derived.Below
import Derived.Lib.OthersKept
import Derived.ChangeKeysEq
import Derived.Deep.RegionHeld3
import Derived.Deep.QuietTactic
namespace Go.Proofs.Ytfilndgbgdnpiaa.st
set_option linter.unusedVariables false

inductive Tr where
  | node (k : Int) (q : Q4) (mn mx : Int) (kids : List Tr)

def Tr.kind : Tr → Int | .node k _ _ _ _ => k
def Tr.set : Tr → Q4 | .node _ q _ _ _ => q
def Tr.min : Tr → Int | .node _ _ m _ _ => m
def Tr.max : Tr → Int | .node _ _ _ m _ => m
def Tr.kids : Tr → List Tr | .node _ _ _ _ l => l
def Tr.zero : Tr := .node 0 ⟨0, 0, 0, 0⟩ 0 0 []
instance : Inhabited Tr := ⟨Tr.zero⟩
theorem Tr.eta (t : Tr) : t = .node t.kind t.set t.min t.max t.kids := by cases t; rfl
def nthT (l : List Tr) (i : Nat) : Tr := l.getD i Tr.zero
theorem nthT_lt (l : List Tr) (i : Nat) (h : i < l.length) : nthT l i = l[i] := by
  unfold nthT
  rw [List.getD_eq_getElem?_getD, List.getElem?_eq_getElem h]
  rfl
theorem nthT_mem (l : List Tr) (i : Nat) (h : i < l.length) : nthT l i ∈ l := by
  rw [nthT_lt l i h]
  exact List.getElem_mem h
theorem take_nthT (l : List Tr) (i : Nat) (h : i < l.length) : l.take (i + 1) = l.take i ++ [nthT l i] := by
  rw [List.take_succ_eq_append_getElem h, nthT_lt l i h]
theorem drop_nthT (l : List Tr) (i : Nat) (h : i < l.length) : l.drop i = nthT l i :: l.drop (i + 1) := by
  rw [List.drop_eq_getElem_cons h, nthT_lt l i h]

mutual
def Tr.depth : Tr → Nat
  | .node _ _ _ _ l => depths l + 1
def depths : List Tr → Nat
  | [] => 0
  | t :: l => Max.max t.depth (depths l)
end
mutual
def Tr.nodes : Tr → Nat
  | .node _ _ _ _ l => nodesOf l + 1
def nodesOf : List Tr → Nat
  | [] => 0
  | t :: l => t.nodes + nodesOf l
end

theorem depths_append (a b : List Tr) : depths (a ++ b) = Max.max (depths a) (depths b) := by
  induction a with
  | nil => simp [depths]
  | cons t a ih => simp only [List.cons_append, depths, ih]; omega
theorem nodesOf_append (a b : List Tr) : nodesOf (a ++ b) = nodesOf a + nodesOf b := by
  induction a with
  | nil => simp [nodesOf]
  | cons t a ih => simp only [List.cons_append, nodesOf, ih]; omega
theorem depths_take (l : List Tr) (i : Nat) (h : i < l.length) : depths (l.take (i + 1)) = Max.max (depths (l.take i)) (nthT l i).depth := by
  rw [take_nthT l i h, depths_append]
  simp [depths]
theorem nodesOf_take (l : List Tr) (i : Nat) (h : i < l.length) : nodesOf (l.take (i + 1)) = nodesOf (l.take i) + (nthT l i).nodes := by
  rw [take_nthT l i h, nodesOf_append]
  simp [nodesOf]
theorem depths_le (l : List Tr) (i : Nat) : depths (l.take i) ≤ depths l := by
  have := depths_append (l.take i) (l.drop i)
  rw [List.take_append_drop] at this
  omega
theorem nodesOf_le (l : List Tr) (i : Nat) : nodesOf (l.take i) ≤ nodesOf l := by
  have := nodesOf_append (l.take i) (l.drop i)
  rw [List.take_append_drop] at this
  omega
theorem depth_nth (l : List Tr) (i : Nat) (h : i < l.length) : (nthT l i).depth ≤ depths l := by
  have := depths_le l (i + 1)
  rw [depths_take l i h] at this
  omega
theorem nodes_nth (l : List Tr) (i : Nat) (h : i < l.length) : nodesOf (l.take i) + (nthT l i).nodes ≤ nodesOf l := by
  have := nodesOf_le l (i + 1)
  rw [nodesOf_take l i h] at this
  omega
theorem Tr.depth_eq (t : Tr) : t.depth = depths t.kids + 1 := by cases t; rfl
theorem Tr.nodes_eq (t : Tr) : t.nodes = nodesOf t.kids + 1 := by cases t; rfl

def noSet (q : Q4) : Bool := decide (q.a = 0) && decide (q.b = 0) && decide (q.c = 0) && decide (q.d = 0)
def anyKind (k : Int) (l : List Tr) : Bool := l.any fun t => decide (t.kind = k)
def timesOk (mn mx : Int) : Bool := decide (0 ≤ mn) && decide (mn ≤ 20) && (decide (mx = -1) || (decide (mn ≤ mx) && decide (mx ≤ 20) && !(decide (mn = 1) && decide (mx = 1))))
/-- one node that may be -/
def okNode (t : Tr) : Bool :=
  if t.kind = 1 then decide (t.min = 0) && decide (t.max = 0) && decide (t.kids.length = 0)
  else if t.kind = 2 then noSet t.set && decide (t.min = 0) && decide (t.max = 0) && !decide (t.kids.length = 1) && !anyKind 2 t.kids
  else if t.kind = 3 then noSet t.set && decide (t.min = 0) && decide (t.max = 0) && decide (2 ≤ t.kids.length) && !anyKind 3 t.kids
  else if t.kind = 4 then noSet t.set && timesOk t.min t.max && decide (t.kids.length = 1)
  else false
mutual
def Tr.good : Tr → Bool
  | .node k q mn mx l => okNode (.node k q mn mx l) && goods l
def goods : List Tr → Bool
  | [] => true
  | t :: l => t.good && goods l
end
theorem goods_append (a b : List Tr) : goods (a ++ b) = (goods a && goods b) := by
  induction a with
  | nil => simp [goods]
  | cons t a ih => simp only [List.cons_append, goods, ih, Bool.and_assoc]
theorem goods_take (l : List Tr) (i : Nat) (h : i < l.length) : goods (l.take (i + 1)) = (goods (l.take i) && (nthT l i).good) := by
  rw [take_nthT l i h, goods_append]
  simp [goods]
theorem goods_false (l : List Tr) (i : Nat) (h : i < l.length) (hg : (nthT l i).good = false) : goods l = false := by
  have := goods_append (l.take (i + 1)) (l.drop (i + 1))
  rw [List.take_append_drop, goods_take l i h, hg] at this
  simpa using this
theorem Tr.good_eq (t : Tr) : t.good = (okNode t && goods t.kids) := by cases t; rfl
theorem any_take (k : Int) (l : List Tr) (i : Nat) (h : i < l.length) : anyKind k (l.take (i + 1)) = (anyKind k (l.take i) || decide ((nthT l i).kind = k)) := by
  unfold anyKind
  rw [take_nthT l i h, List.any_append]
  simp
theorem any_true (k : Int) (l : List Tr) (i : Nat) (h : i < l.length) (hg : (nthT l i).kind = k) : anyKind k l = true := by
  unfold anyKind
  rw [List.any_eq_true]
  exact ⟨_, nthT_mem l i h, by simpa using hg⟩

/-- Right's answer -/
def rightOf (t : Tr) : Int := if t.depth ≤ 30 ∧ t.nodes ≤ 512 then (if t.good then 0 else 61) else 2
end Go.Proofs.Ytfilndgbgdnpiaa.st

namespace Go.Proofs.Ytfilndgbgdnpiaa.st
open Go.ChangeShapes Go.WideShapes Go.ChangeAt Go.RowKit
set_option linter.unusedVariables false

def Cells (w : World) (b o : Nat) (t : Tr) (v : Value) : Prop :=
  w.cell? ⟨b, o, none⟩ = some (.int .i64 t.kind) ∧ w.cell? ⟨b, o + 1, none⟩ = some (.int .u64 t.set.a) ∧ w.cell? ⟨b, o + 2, none⟩ = some (.int .u64 t.set.b) ∧ w.cell? ⟨b, o + 3, none⟩ = some (.int .u64 t.set.c) ∧
  w.cell? ⟨b, o + 4, none⟩ = some (.int .u64 t.set.d) ∧ w.cell? ⟨b, o + 5, none⟩ = some (.int .i64 t.min) ∧ w.cell? ⟨b, o + 6, none⟩ = some (.int .i64 t.max) ∧ w.cell? ⟨b, o + 7, none⟩ = some v

inductive Is (w : World) (P : Nat → Prop) : Tr → Value → Prop
  | leaf (k : Int) (q : Q4) (mn mx : Int) (a : Option Addr) (cap : Nat) : Is w P (.node k q mn mx []) (.slice a 0 cap)
  | node (k : Int) (q : Q4) (mn mx : Int) (l : List Tr) (b off cap : Nat) (vs : Nat → Value) (hl : l.length ≤ cap) (hc : cap ≤ 9223372036854775807) (hb : b < w.heap.size) (hP : P b)
      (cells : ∀ i, i < l.length → Cells w b (off + i * 8) (nthT l i) (vs i)) (kids : ∀ i, i < l.length → Is w P (nthT l i) (vs i)) :
      Is w P (.node k q mn mx l) (.slice (some ⟨b, off, none⟩) l.length cap)

theorem cell_same {w w' : World} {b : Nat} (h : w'.heap[b]? = w.heap[b]?) (o : Nat) : w'.cell? ⟨b, o, none⟩ = w.cell? ⟨b, o, none⟩ := by
  unfold World.cell?
  simp only [h]

theorem Cells.same {w w' : World} {b o : Nat} {t : Tr} {v : Value} (h : Cells w b o t v) (e : w'.heap[b]? = w.heap[b]?) : Cells w' b o t v := by
  unfold Cells at h ⊢
  simp only [cell_same e]
  exact h

theorem Is.carry {w w' : World} {P P' : Nat → Prop} {t : Tr} {v : Value} (h : Is w P t v) (hs : w.heap.size ≤ w'.heap.size) (hP : ∀ b, P b → b < w.heap.size → P' b) (e : ∀ b, P b → b < w.heap.size → w'.heap[b]? = w.heap[b]?) : Is w' P' t v := by
  induction h with
  | leaf k q mn mx a cap => exact .leaf k q mn mx a cap
  | node k q mn mx l b off cap vs hl hc hb hPb cells kids ih =>
    exact .node k q mn mx l b off cap vs hl hc (Nat.lt_of_lt_of_le hb hs) (hP b hPb hb) (fun i hi => (cells i hi).same (e b hPb hb)) (fun i hi => ih i hi)

theorem Is.later {w w' : World} {P : Nat → Prop} {t : Tr} {v : Value} (h : Is w P t v) (hb : Below w.heap.size w w') : Is w' P t v :=
  h.carry hb.size (fun _ p _ => p) (fun b _ hlt => hb.block b hlt)
theorem Is.grown {w w' : World} {g : Nat} {t : Tr} {v : Value} (h : Is w (· ≠ g) t v) (hb : w.grownBy w' (some g)) : Is w' (· ≠ g) t v :=
  h.carry hb.size (fun _ p _ => p) (fun b p hlt => hb.block b hlt (fun e => p (Option.some.inj e)))

theorem touch_refl (w : World) (row : Option Nat) : w.grownBy w row := ⟨rfl, rfl, rfl, Nat.le_refl _, fun _ _ _ => rfl⟩
theorem touch_trans {w w1 w2 : World} {row : Option Nat} (h1 : w.grownBy w1 row) (h2 : w1.grownBy w2 row) : w.grownBy w2 row :=
  ⟨h2.os.trans h1.os, h2.tape.trans h1.tape, h2.output.trans h1.output, Nat.le_trans h1.size h2.size, fun k hk hne => (h2.block k (Nat.lt_of_lt_of_le hk h1.size) hne).trans (h1.block k hk hne)⟩
theorem touch_below {w w1 : World} (row : Option Nat) (h : Below w.heap.size w w1) : w.grownBy w1 row := ⟨h.os, h.tape, h.output, h.size, fun k hk _ => h.block k hk⟩
theorem touch_cell (w : World) (g i : Nat) (x : Value) : w.grownBy (w.setCell ⟨g, i, none⟩ x) (some g) :=
  ⟨rfl, rfl, rfl, by simp, fun k _ hne => Below.heap_setCell _ _ _ _ (fun e => hne (congrArg some e))⟩
theorem touch_drewT {w w1 : World} {row : Option Nat} (h : w.grownBy w1 row) : w.grownBy w1.drew row := ⟨h.os, h.tape, h.output, h.size, h.block⟩
theorem touch_alloc {w w1 : World} {row : Option Nat} (h : w.grownBy w1 row) (o : Obj) : w.grownBy (w1.alloc o) row :=
  touch_trans h (touch_below _ ((Below.refl _ _).alloc (Nat.le_refl _) o))
theorem set_heap1 (w : World) (g : Nat) (cs : Array Value) (T : TypeId) (i : Nat) (x : Value) (h : w.heap[g]? = some (.cells cs T (0, 0))) : (w.setCell ⟨g, i, none⟩ x).heap[g]? = some (.cells (cs.setIfInBounds i x) T (0, 0)) := by
  show (w.heap.modify g _)[g]? = _
  rw [Array.getElem?_modify, if_pos rfl, h]
  rfl

/-- one form for an empty list of kids and any other -/
theorem Is.form {w : World} {P : Nat → Prop} {t : Tr} {v : Value} (h : Is w P t v) : ∃ (o : Option Addr) (cap b off : Nat) (vs : Nat → Value), v = .slice o t.kids.length cap ∧ t.kids.length ≤ cap ∧ 
    ∀ i, i < t.kids.length → o = some ⟨b, off, none⟩ ∧ cap ≤ 9223372036854775807 ∧ b < w.heap.size ∧ P b ∧ Cells w b (off + i * 8) (nthT t.kids i) (vs i) ∧ Is w P (nthT t.kids i) (vs i) := by
  cases h with
  | leaf k q mn mx a cap => exact ⟨a, cap, 0, 0, fun _ => .nilIface, rfl, Nat.zero_le _, fun i hi => absurd hi (Nat.not_lt_zero _)⟩
  | node k q mn mx l b off cap vs hl hc hb hP cells kids => exact ⟨_, cap, b, off, vs, rfl, hl, fun i hi => ⟨rfl, hc, hb, hP, cells i hi, kids i hi⟩⟩

theorem Is.shape {w : World} {P : Nat → Prop} {t : Tr} {v : Value} (h : Is w P t v) : ∃ (o : Option Addr) (n cap : Nat), v = .slice o n cap := by
  cases h with
  | leaf k q mn mx a cap => exact ⟨_, _, _, rfl⟩
  | node k q mn mx l b off cap vs hl hc hb hP cells kids => exact ⟨_, _, _, rfl⟩

/-- a block of one number -/
def One (w : World) (g : Nat) (n : Int) : Prop := w.heap[g]? = some (.cells #[.int .i64 n] 3 (0, 0))
theorem One.lt {w : World} {g : Nat} {n : Int} (h : One w g n) : g < w.heap.size := (Array.getElem?_eq_some_iff.1 h).1
theorem One.c {w : World} {g : Nat} {n : Int} (h : One w g n) : w.cell? ⟨g, 0, none⟩ = some (.int .i64 n) := by rw [Lib.cell_of_heap h]; rfl
theorem One.fz {w : World} {g : Nat} {n : Int} (h : One w g n) : w.frozen? ⟨g, 0, none⟩ = false := Lib.frozen_of_heap h 0
theorem One.below {w w' : World} {g : Nat} {n : Int} (h : One w g n) (b : Below w.heap.size w w') : One w' g n := by unfold One; rw [b.block g h.lt]; exact h
theorem One.set {w : World} {g : Nat} {n : Int} (h : One w g n) (m : Int) : One (w.setCell ⟨g, 0, none⟩ (.int .i64 m)) g m := set_heap1 w g _ _ 0 _ h
end Go.Proofs.Ytfilndgbgdnpiaa.st

namespace Go.Proofs.Ytfilndgbgdnpiaa.st
open Go.ChangeShapes Go.WideShapes Go.ChangeAt Go.RowKit
set_option linter.unusedVariables false

def FitsIs (t : Tr) (lv n : Nat) (r : Bool) (m : Nat) : Prop := ∀ g v w, Is w (· ≠ g) t v → One w g n → Calls Try.prog 46 #[.agg #[.int .i64 t.kind, .int .u64 t.set.a, .int .u64 t.set.b, .int .u64 t.set.c, .int .u64 t.set.d, .int .i64 t.min, .int .i64 t.max, v], .int .i64 lv, .pointer (some ⟨g, 0, none⟩)] w fun e w' =>
  e = .returned (.bool r) ∧ (r = true → One w' g (m : Int)) ∧ w.grownBy w' (some g)

theorem below_alloc (w : World) (o : Obj) : Below w.heap.size w (w.alloc o) := (Below.refl _ _).alloc (Nat.le_refl _) o

theorem fits_none_left (t : Tr) (n m : Nat) : FitsIs t 0 n false m := by
  intro g v w hi ho
  clear hi
  generalize t.kind = k at *
  generalize t.set = q at *
  generalize t.min = mn at *
  generalize t.max = mx at *
  go_enter Try.func46, Try.ntmps46
  go_wp2
  go_ret
  exact ⟨rfl, fun h => (by cases h), touch_alloc (touch_refl _ _) _⟩
theorem fits_no_nodes (t : Tr) (lv m : Nat) (hlv : lv ≠ 0) : FitsIs t lv 0 false m := by
  intro g v w hi ho
  have hne : ((lv : Int) == 0) = false := by rw [beq_eq_false_iff_ne]; omega
  clear hi
  generalize t.kind = k at *
  generalize t.set = q at *
  generalize t.min = mn at *
  generalize t.max = mx at *
  have c0 := ho.c
  have c1 : ∀ o, (w.alloc o).cell? ⟨g, 0, none⟩ = some (.int .i64 0) := fun o => (cell_same ((below_alloc w o).block g ho.lt) 0).trans (by simpa using c0)
  clear c0 ho
  go_enter Try.func46, Try.ntmps46
  go_wp2
  go_ret
  exact ⟨rfl, fun h => (by cases h), touch_alloc (touch_refl _ _) _⟩

set_option maxHeartbeats 1000000 in
set_option maxRecDepth 100000 in
theorem fits_step (d : Nat) (ih : ∀ (t : Tr) (lv n : Nat) (r : Bool) (m : Nat), t.depth ≤ d → lv ≤ 9223372036854775807 → n ≤ 9223372036854775807 → r = (decide (t.depth ≤ lv) && decide (t.nodes ≤ n)) → m = n - t.nodes → FitsIs t lv n r m)
    (t : Tr) (L N lv n : Nat) (r : Bool) (M : Nat) (hd : t.depth ≤ d + 1) (hL : L ≤ 9223372036854775807) (hN : N ≤ 9223372036854775807) (eL : L = lv + 1) (eN : N = n + 1) (hr : r = (decide (t.depth ≤ L) && decide (t.nodes ≤ N))) (hM : M = N - t.nodes) : FitsIs t L N r M := by
  intro g v w hi ho
  obtain ⟨o, cap, b, off, vs, rfl, hcap, hk⟩ := hi.form
  have hDe := t.depth_eq
  have hNe := t.nodes_eq
  have HK : Hid (∀ i, i < t.kids.length → (nthT t.kids i).depth ≤ d) := fun i hi => by have := depth_nth t.kids i hi; omega
  have c0 := ho.c
  have hlt := ho.lt
  have f0 := ho.fz
  have c1 : ∀ o, (w.alloc o).cell? ⟨g, 0, none⟩ = some (.int .i64 N) := fun o => (cell_same ((below_alloc w o).block g hlt) 0).trans c0
  have f1 : ∀ o, (w.alloc o).frozen? ⟨g, 0, none⟩ = false := fun o => (ho.below (below_alloc w o)).fz
  have HR : Hid (r = (decide (depths t.kids ≤ lv) && decide (nodesOf t.kids ≤ n)) ∧ M = n - nodesOf t.kids) := by
    refine ⟨?_, by omega⟩
    rw [hr, hDe, hNe, eL, eN]; simp only [Nat.add_le_add_iff_right]
  have hne1 : ((L : Int) == 0) = false := by rw [beq_eq_false_iff_ne]; omega
  have hne2 : ((N : Int) == 0) = false := by rw [beq_eq_false_iff_ne]; omega
  have hs1 : (N : Int) - 1 = (n : Int) := by omega
  have hs2 : (L : Int) - 1 = (lv : Int) := by omega
  have hlv : lv ≤ 9223372036854775807 := by omega
  have hn : n ≤ 9223372036854775807 := by omega
  have hll : t.kids.length ≤ 9223372036854775807 := by
    by_cases h0 : 0 < t.kids.length
    · have := (hk 0 h0).2.1; omega
    · omega
  clear hDe hNe hd hi eL eN hr hM
  generalize t.kind = k at *
  generalize t.set = q at *
  generalize t.min = mn at *
  generalize t.max = mx at *
  generalize t.kids = l at *
  go_enter Try.func46, Try.ntmps46
  go_wp2
  go_loopw [25] (fun x wr => ∃ (i m : Nat), x = .int .i64 i ∧ i ≤ l.length ∧ One wr g (m : Int) ∧ w.grownBy wr (some g) ∧ w.heap.size + 1 ≤ wr.heap.size ∧ Hid (depths (l.take i) ≤ lv ∧ m + nodesOf (l.take i) = n)) (fun x _ => l.length - (intOf x).toNat)
  case atStart => exact ⟨0, n, rfl, by omega, (ho.set n).below (below_alloc _ _), touch_alloc (touch_cell _ _ _ _) _, by simp, by show _ ∧ _; simp [depths, nodesOf]⟩
  case round =>
    obtain ⟨i, m, rfl, hil, hone, hT, hsz, HI⟩ := hrel
    by_cases hend : i < l.length
    · obtain ⟨rfl, hcm, hb, hne, hcells, hkid⟩ := hk i hend
      have hcells2 := hcells.same (hT.block b hb (fun e => hne (Option.some.inj e)))
      have hkid2 := hkid.grown hT
      obtain ⟨k0, k1, k2, k3, k4, k5, k6, k7⟩ := hcells2
      obtain ⟨o2, n2, cap2, hv2⟩ := hkid2.shape
      rw [hv2] at k7 hkid2
      clear hcells hkid hk hv2
      by_cases hyes : (nthT l i).depth ≤ lv ∧ (nthT l i).nodes ≤ m
      · have hcall := ih (nthT l i) lv m true (m - (nthT l i).nodes) (HK.out i hend) hlv (by have := HI.out.2; omega) (by simp [hyes]) rfl
        have HJ : Hid (depths (l.take (i + 1)) ≤ lv ∧ m - (nthT l i).nodes + nodesOf (l.take (i + 1)) = n) := by
          refine ⟨?_, ?_⟩
          · rw [depths_take l i hend]; have := HI.out.1; omega
          · rw [nodesOf_take l i hend]; have := HI.out.2; omega
        clear hyes
        generalize nthT l i = x at *
        go_wp2_with (go_at_call 46; refine (hcall _ _ _ (hkid2.later (below_alloc _ _)) (hone.below (below_alloc _ _))).mono ?_; rintro e w1 ⟨rfl, h1, t1⟩)
        go_roundw
        case rel => exact ⟨i + 1, _, by go_num, by omega, h1 trivial, touch_trans (touch_alloc hT _) t1, by have := t1.size; simp at this; omega, HJ⟩
        case measure => simp [intOf]; omega
      · have hcall := ih (nthT l i) lv m false (m - (nthT l i).nodes) (HK.out i hend) hlv (by have := HI.out.2; omega) (by symm; simp; omega) rfl
        have HF : Hid (r = false) := by
          have h1 := depth_nth l i hend
          have h2 := nodes_nth l i hend
          have h3 := HI.out.2
          show _ = _
          rw [HR.out.1]; simp; omega
        clear hyes
        generalize nthT l i = x at *
        go_wp2_with (go_at_call 46; refine (hcall _ _ _ (hkid2.later (below_alloc _ _)) (hone.below (below_alloc _ _))).mono ?_; rintro e w1 ⟨rfl, h1, t1⟩)
        go_ret
        exact ⟨by rw [HF.out]; rfl, fun h => absurd h (by rw [HF.out]; decide), touch_trans (touch_alloc hT _) t1⟩
    · have HF : Hid (r = true ∧ M = m) := by
        have h := HI.out
        rw [List.take_of_length_le (by omega)] at h
        refine ⟨?_, ?_⟩
        · rw [HR.out.1]; simp; omega
        · rw [HR.out.2]; omega
      go_wp2
      go_ret
      exact ⟨by rw [HF.out.1]; rfl, fun _ => by rw [HF.out.2]; exact hone, hT⟩

theorem fits_any (d : Nat) : ∀ (t : Tr) (lv n : Nat) (r : Bool) (m : Nat), t.depth ≤ d → lv ≤ 9223372036854775807 → n ≤ 9223372036854775807 → r = (decide (t.depth ≤ lv) && decide (t.nodes ≤ n)) → m = n - t.nodes → FitsIs t lv n r m := by
  induction d with
  | zero => intro t lv n r m hd; have := t.depth_eq; omega
  | succ d ih =>
    intro t lv n r m hd hlv hn hr hm
    have hDe := t.depth_eq
    have hNe := t.nodes_eq
    match lv, n, hr with
    | 0, n, hr =>
      have e : r = false := by rw [hr]; simp; omega
      rw [e]; exact fits_none_left t n m
    | lv + 1, 0, hr =>
      have e : r = false := by rw [hr]; simp; omega
      rw [e]; exact fits_no_nodes t (lv + 1) m (by omega)
    | lv + 1, n + 1, hr => exact fits_step d ih t _ _ lv n r m hd hlv hn rfl rfl hr hm
end Go.Proofs.Ytfilndgbgdnpiaa.st

namespace Go.Proofs.Ytfilndgbgdnpiaa.st
open Go.ChangeShapes Go.WideShapes Go.ChangeAt Go.RowKit
set_option linter.unusedVariables false

theorem info22 : (Try.prog.info? 22).map (fun i => (i.zero, i.size, i.bytes)) = some (some (.int .u64 0), 1, 8) := by kernel_rfl
theorem eq23 (a b c d a' b' c' d' : Int) (W : World) : (Op.equalIn 9999 23 (.agg #[.int .u64 a, .int .u64 b, .int .u64 c, .int .u64 d]) (.agg #[.int .u64 a', .int .u64 b', .int .u64 c', .int .u64 d'])).run Try.prog W = .ok (a == a' && (b == b' && (c == c' && d == d'))) W := by
  obtain ⟨i, hi, _, _, _⟩ := info_parts info22
  have c22 : Try.prog.cellsOf 22 = 1 := by kernel_rfl
  have r4 : List.range 4 = [0, 1, 2, 3] := rfl
  have he : ∀ x y : Int, (Op.equalIn 9998 22 (.int .u64 x) (.int .u64 y)).run Try.prog W = .ok (x == y) W := fun x y => by
    rw [run_equalIn_int W 9997 22 .u64 .u64 x y Try.underlying22]
  rw [run_equalIn_array W 9998 _ _ Try.underlying23 hi, c22, r4]
  simp only [Op.eqItems, part]
  cases h1 : (a == a') <;> cases h2 : (b == b') <;> cases h3 : (c == c') <;> cases h4 : (d == d') <;> simp [he, h1, h2, h3, h4]
theorem noSet_is (q : Q4) : ((q.a : Int) == 0 && ((q.b : Int) == 0 && ((q.c : Int) == 0 && (q.d : Int) == 0))) = noSet q := by
  unfold noSet
  have h : ∀ x : Nat, ((x : Int) == 0) = decide (x = 0) := fun x => by
    by_cases hx : x = 0
    · subst hx; rfl
    · rw [decide_eq_false hx, beq_eq_false_iff_ne]; omega
  rw [h, h, h, h, Bool.and_assoc, Bool.and_assoc]

def OnceIs (a b : Int) (r : Bool) : Prop := ∀ w, Calls Try.prog 94 #[.int .i64 a, .int .i64 b] w fun e w' => e = .returned (.bool r) ∧ w' = w
theorem once_any (a b : Int) (r : Bool) (hr : r = (decide (a = 1) && decide (b = 1))) : OnceIs a b r := by
  intro w
  have HR : Hid (r = (decide (a = 1) && decide (b = 1))) := hr
  clear hr
  by_cases h1 : a = 1 <;> by_cases h2 : b = 1
  all_goals
    go_enter Try.func94, Try.ntmps94
    go_wp2
    go_ret
    refine ⟨?_, rfl⟩
    rw [HR.out]
    simp [*]

def TimesIs (a b : Int) (r : Bool) : Prop := ∀ w, Calls Try.prog 90 #[.int .i64 a, .int .i64 b] w fun e w' => e = .returned (.bool r) ∧ w' = w
theorem times_any (a b : Int) (r : Bool) (hr : r = timesOk a b) : TimesIs a b r := by
  intro w
  have HR : Hid (r = timesOk a b) := hr
  have ho := once_any a b _ rfl
  clear hr
  by_cases h0 : a < 0
  · go_enter Try.func90, Try.ntmps90
    go_wp2_with (fail)
    go_ret
    exact ⟨by rw [HR.out]; simp [timesOk]; omega, rfl⟩
  by_cases h20 : 20 < a
  · go_enter Try.func90, Try.ntmps90
    go_wp2_with (fail)
    go_ret
    exact ⟨by rw [HR.out]; simp [timesOk]; omega, rfl⟩
  by_cases h1 : a = 1 ∧ b = 1
  · obtain ⟨rfl, rfl⟩ := h1
    go_enter Try.func90, Try.ntmps90
    go_wp2_with (go_at_call 94; refine (ho _).mono ?_; rintro e w1 ⟨rfl, rfl⟩)
    go_ret
    exact ⟨by rw [HR.out]; rfl, rfl⟩
  · have ho2 : OnceIs a b false := by
      have e : (decide (a = 1) && decide (b = 1)) = false := by simp; omega
      rw [e] at ho; exact ho
    have HO : Hid (timesOk a b = (decide (b = -1) || (decide (a ≤ b) && decide (b ≤ 20)))) := by
      show _ = _
      unfold timesOk
      have e : (decide (a = 1) && decide (b = 1)) = false := by simp; omega
      rw [e, decide_eq_true (by omega : 0 ≤ a), decide_eq_true (by omega : a ≤ 20)]
      simp
    clear ho h1
    by_cases h2 : b = -1
    · subst h2
      go_enter Try.func90, Try.ntmps90
      go_wp2_with (go_at_call 94; refine (ho2 _).mono ?_; rintro e w1 ⟨rfl, rfl⟩)
      go_ret
      exact ⟨by rw [HR.out, HO.out]; rfl, rfl⟩
    · by_cases h3 : a ≤ b
      · by_cases h4 : b ≤ 20
        · go_enter Try.func90, Try.ntmps90
          go_wp2_with (go_at_call 94; refine (ho2 _).mono ?_; rintro e w1 ⟨rfl, rfl⟩)
          go_ret
          exact ⟨by rw [HR.out, HO.out]; simp [*], rfl⟩
        · go_enter Try.func90, Try.ntmps90
          go_wp2_with (go_at_call 94; refine (ho2 _).mono ?_; rintro e w1 ⟨rfl, rfl⟩)
          go_ret
          exact ⟨by rw [HR.out, HO.out]; simp [*], rfl⟩
      · go_enter Try.func90, Try.ntmps90
        go_wp2_with (go_at_call 94; refine (ho2 _).mono ?_; rintro e w1 ⟨rfl, rfl⟩)
        go_ret
        exact ⟨by rw [HR.out, HO.out, decide_eq_false (by omega : ¬ a ≤ b), decide_eq_false h2]; simp [h2], rfl⟩

theorem any_take_le (k : Int) (l : List Tr) (i : Nat) (h : l.length ≤ i) : anyKind k (l.take i) = anyKind k l := by rw [List.take_of_length_le h]

/-- a list of kids -/
def KidsIs (w : World) (P : Nat → Prop) (l : List Tr) (v : Value) : Prop := Is w P (.node 0 none4 0 0 l) v
theorem Is.toKids {w : World} {P : Nat → Prop} {t : Tr} {v : Value} (h : Is w P t v) : KidsIs w P t.kids v := by
  cases h with
  | leaf k q mn mx a cap => exact .leaf _ _ _ _ a cap
  | node k q mn mx l b off cap vs hl hc hb hP cells kids => exact .node _ _ _ _ l b off cap vs hl hc hb hP cells kids
theorem KidsIs.toTree {w : World} {P : Nat → Prop} {l : List Tr} {v : Value} (h : KidsIs w P l v) (k : Int) (q : Q4) (mn mx : Int) : Is w P (.node k q mn mx l) v := by
  unfold KidsIs at h
  cases h with
  | leaf _ _ _ _ a cap => exact .leaf _ _ _ _ a cap
  | node _ _ _ _ l b off cap vs hl hc hb hP cells kids => exact .node _ _ _ _ l b off cap vs hl hc hb hP cells kids

def HasTIs (l : List Tr) (k : Int) (r : Bool) : Prop := ∀ v w P, KidsIs w P l v → Calls Try.prog 89 #[v, .int .i64 k] w fun e w' => e = .returned (.bool r) ∧ Below w.heap.size w w'
set_option maxHeartbeats 1000000 in
set_option maxRecDepth 100000 in
theorem hasT_any (l : List Tr) (k : Int) (r : Bool) (hr : r = anyKind k l) : HasTIs l k r := by
  intro v w P hi
  have HR : Hid (r = anyKind k l) := hr
  obtain ⟨o, cap, b, off, vs, rfl, hcap, hk⟩ := hi.form
  simp only [Tr.kids] at hcap hk ⊢
  have hll : l.length ≤ 9223372036854775807 := by
    by_cases h0 : 0 < l.length
    · have := (hk 0 h0).2.1; omega
    · omega
  clear hr hi
  go_enter Try.func89, Try.ntmps89
  go_wp2
  go_loopw [9] (fun x wr => ∃ (i : Nat), x = .int .i64 i ∧ i ≤ l.length ∧ Below w.heap.size w wr ∧ Hid (anyKind k (l.take i) = false)) (fun x _ => l.length - (intOf x).toNat)
  case atStart => exact ⟨0, rfl, by omega, Below.refl _ _, rfl⟩
  case round =>
    obtain ⟨i, rfl, hil, hB, HI⟩ := hrel
    by_cases hend : i < l.length
    · obtain ⟨rfl, hcm, hb, hne, hcells, hkid⟩ := hk i hend
      have hcells2 := hcells.same (hB.block b hb)
      obtain ⟨o2, n2, cap2, hv2⟩ := hkid.shape
      rw [hv2] at hcells2
      obtain ⟨k0, k1, k2, k3, k4, k5, k6, k7⟩ := hcells2
      clear hcells hkid hk hv2
      by_cases hyes : (nthT l i).kind = k
      · have HF : Hid (r = true) := HR.out.trans (any_true k l i hend hyes)
        generalize nthT l i = x at *
        go_wp2
        go_ret
        exact ⟨by rw [HF.out]; rfl, hB.alloc hB.size _⟩
      · have HJ : Hid (anyKind k (l.take (i + 1)) = false) := by
          show _ = _
          rw [any_take k l i hend, HI.out, decide_eq_false hyes]; rfl
        generalize nthT l i = x at *
        go_wp2
        go_roundw
        case rel => exact ⟨i + 1, by go_num, by omega, hB.alloc hB.size _, HJ⟩
        case measure => simp [intOf]; omega
    · have HF : Hid (r = false) := by
        show _ = _
        rw [HR.out, ← HI.out, any_take_le k l i (by omega)]
      go_wp2
      go_ret
      exact ⟨by rw [HF.out]; rfl, hB⟩

def okB (k : Int) (ns : Bool) (mn mx : Int) (n : Nat) (h2 h3 tm : Bool) : Bool :=
  if k = 1 then decide (mn = 0) && decide (mx = 0) && decide (n = 0)
  else if k = 2 then ns && decide (mn = 0) && decide (mx = 0) && !decide (n = 1) && !h2
  else if k = 3 then ns && decide (mn = 0) && decide (mx = 0) && decide (2 ≤ n) && !h3
  else if k = 4 then ns && tm && decide (n = 1)
  else false
theorem okB_is (t : Tr) : okNode t = okB t.kind (noSet t.set) t.min t.max t.kids.length (anyKind 2 t.kids) (anyKind 3 t.kids) (timesOk t.min t.max) := rfl

def NodeIs (f : Nat) (t : Tr) (r : Bool) : Prop := ∀ v w P, Is w P t v → Calls Try.prog f #[.agg #[.int .i64 t.kind, .int .u64 t.set.a, .int .u64 t.set.b, .int .u64 t.set.c, .int .u64 t.set.d, .int .i64 t.min, .int .i64 t.max, v]] w fun e w' => e = .returned (.bool r) ∧ Below w.heap.size w w'

end Go.Proofs.Ytfilndgbgdnpiaa.st
