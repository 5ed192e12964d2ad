/-
  Plain mathematics, no program: a tree of an expression; how deep it is, how many nodes it has, whether it is an expression's.
-/
import Derived.Test.YtfclidcfhadohaaDoorSets
namespace Go.Proofs.YtfclidcfhadohaaDoor.st
set_option linter.unusedVariables false

inductive Tr where
  | node (k : Int) (q : Q4) (mn mx : Int) (kids : List Tr)

def Tr.kind : Tr → Int | .node k _ _ _ _ => k
def Tr.set : Tr → Q4 | .node _ q _ _ _ => q
def Tr.min : Tr → Int | .node _ _ m _ _ => m
def Tr.max : Tr → Int | .node _ _ _ m _ => m
def Tr.kids : Tr → List Tr | .node _ _ _ _ l => l
def Tr.zero : Tr := .node 0 ⟨0, 0, 0, 0⟩ 0 0 []
instance : Inhabited Tr := ⟨Tr.zero⟩
theorem Tr.eta (t : Tr) : t = .node t.kind t.set t.min t.max t.kids := by cases t; rfl
def nthT (l : List Tr) (i : Nat) : Tr := l.getD i Tr.zero
theorem nthT_lt (l : List Tr) (i : Nat) (h : i < l.length) : nthT l i = l[i] := by
  unfold nthT
  rw [List.getD_eq_getElem?_getD, List.getElem?_eq_getElem h]
  rfl
theorem nthT_mem (l : List Tr) (i : Nat) (h : i < l.length) : nthT l i ∈ l := by
  rw [nthT_lt l i h]
  exact List.getElem_mem h
theorem take_nthT (l : List Tr) (i : Nat) (h : i < l.length) : l.take (i + 1) = l.take i ++ [nthT l i] := by
  rw [List.take_succ_eq_append_getElem h, nthT_lt l i h]
theorem drop_nthT (l : List Tr) (i : Nat) (h : i < l.length) : l.drop i = nthT l i :: l.drop (i + 1) := by
  rw [List.drop_eq_getElem_cons h, nthT_lt l i h]

mutual
def Tr.depth : Tr → Nat
  | .node _ _ _ _ l => depths l + 1
def depths : List Tr → Nat
  | [] => 0
  | t :: l => Max.max t.depth (depths l)
end
mutual
def Tr.nodes : Tr → Nat
  | .node _ _ _ _ l => nodesOf l + 1
def nodesOf : List Tr → Nat
  | [] => 0
  | t :: l => t.nodes + nodesOf l
end

theorem depths_append (a b : List Tr) : depths (a ++ b) = Max.max (depths a) (depths b) := by
  induction a with
  | nil => simp [depths]
  | cons t a ih => simp only [List.cons_append, depths, ih]; omega
theorem nodesOf_append (a b : List Tr) : nodesOf (a ++ b) = nodesOf a + nodesOf b := by
  induction a with
  | nil => simp [nodesOf]
  | cons t a ih => simp only [List.cons_append, nodesOf, ih]; omega
theorem depths_take (l : List Tr) (i : Nat) (h : i < l.length) : depths (l.take (i + 1)) = Max.max (depths (l.take i)) (nthT l i).depth := by
  rw [take_nthT l i h, depths_append]
  simp [depths]
theorem nodesOf_take (l : List Tr) (i : Nat) (h : i < l.length) : nodesOf (l.take (i + 1)) = nodesOf (l.take i) + (nthT l i).nodes := by
  rw [take_nthT l i h, nodesOf_append]
  simp [nodesOf]
theorem depths_le (l : List Tr) (i : Nat) : depths (l.take i) ≤ depths l := by
  have := depths_append (l.take i) (l.drop i)
  rw [List.take_append_drop] at this
  omega
theorem nodesOf_le (l : List Tr) (i : Nat) : nodesOf (l.take i) ≤ nodesOf l := by
  have := nodesOf_append (l.take i) (l.drop i)
  rw [List.take_append_drop] at this
  omega
theorem depth_nth (l : List Tr) (i : Nat) (h : i < l.length) : (nthT l i).depth ≤ depths l := by
  have := depths_le l (i + 1)
  rw [depths_take l i h] at this
  omega
theorem nodes_nth (l : List Tr) (i : Nat) (h : i < l.length) : nodesOf (l.take i) + (nthT l i).nodes ≤ nodesOf l := by
  have := nodesOf_le l (i + 1)
  rw [nodesOf_take l i h] at this
  omega
theorem Tr.depth_eq (t : Tr) : t.depth = depths t.kids + 1 := by cases t; rfl
theorem Tr.nodes_eq (t : Tr) : t.nodes = nodesOf t.kids + 1 := by cases t; rfl

def noSet (q : Q4) : Bool := decide (q.a = 0) && decide (q.b = 0) && decide (q.c = 0) && decide (q.d = 0)
def anyKind (k : Int) (l : List Tr) : Bool := l.any fun t => decide (t.kind = k)
def timesOk (mn mx : Int) : Bool := decide (0 ≤ mn) && decide (mn ≤ 20) && (decide (mx = -1) || (decide (mn ≤ mx) && decide (mx ≤ 20) && !(decide (mn = 1) && decide (mx = 1))))
/-- one node that may be -/
def okNode (t : Tr) : Bool :=
  if t.kind = 1 then decide (t.min = 0) && decide (t.max = 0) && decide (t.kids.length = 0)
  else if t.kind = 2 then noSet t.set && decide (t.min = 0) && decide (t.max = 0) && !decide (t.kids.length = 1) && !anyKind 2 t.kids
  else if t.kind = 3 then noSet t.set && decide (t.min = 0) && decide (t.max = 0) && decide (2 ≤ t.kids.length) && !anyKind 3 t.kids
  else if t.kind = 4 then noSet t.set && timesOk t.min t.max && decide (t.kids.length = 1)
  else false
mutual
def Tr.good : Tr → Bool
  | .node k q mn mx l => okNode (.node k q mn mx l) && goods l
def goods : List Tr → Bool
  | [] => true
  | t :: l => t.good && goods l
end
theorem goods_append (a b : List Tr) : goods (a ++ b) = (goods a && goods b) := by
  induction a with
  | nil => simp [goods]
  | cons t a ih => simp only [List.cons_append, goods, ih, Bool.and_assoc]
theorem goods_take (l : List Tr) (i : Nat) (h : i < l.length) : goods (l.take (i + 1)) = (goods (l.take i) && (nthT l i).good) := by
  rw [take_nthT l i h, goods_append]
  simp [goods]
theorem goods_false (l : List Tr) (i : Nat) (h : i < l.length) (hg : (nthT l i).good = false) : goods l = false := by
  have := goods_append (l.take (i + 1)) (l.drop (i + 1))
  rw [List.take_append_drop, goods_take l i h, hg] at this
  simpa using this
theorem Tr.good_eq (t : Tr) : t.good = (okNode t && goods t.kids) := by cases t; rfl
theorem any_take (k : Int) (l : List Tr) (i : Nat) (h : i < l.length) : anyKind k (l.take (i + 1)) = (anyKind k (l.take i) || decide ((nthT l i).kind = k)) := by
  unfold anyKind
  rw [take_nthT l i h, List.any_append]
  simp
theorem any_true (k : Int) (l : List Tr) (i : Nat) (h : i < l.length) (hg : (nthT l i).kind = k) : anyKind k l = true := by
  unfold anyKind
  rw [List.any_eq_true]
  exact ⟨_, nthT_mem l i h, by simpa using hg⟩

/-- Right's answer -/
def rightOf (t : Tr) : Int := if t.depth ≤ 30 ∧ t.nodes ≤ 512 then (if t.good then 0 else 61) else 2
end Go.Proofs.YtfclidcfhadohaaDoor.st
