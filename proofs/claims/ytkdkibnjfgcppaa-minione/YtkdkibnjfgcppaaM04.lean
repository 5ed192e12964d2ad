/-
  Texts put together: Plain mathematics, no program: a set of bytes as four numbers below 2^64; what is in it, and what sets are made of it. Plain mathematics, no program: a tree of an expression; how deep it is, how many nodes it has, whether it is an expression's. Plain mathematics and memory: an edge, an nfa, and how its edges lie; contracts over this program: which nfa may be (nfa.isState, nfa.Right). Plain mathematics, no program beside the edges' form: the nfa that is laid for an expression, as the builder lays it, step by step; how many states and edges it may come to; that every edge goes between states that are. Plain mathematics: every edge of the nfa that is laid goes between states that are; so what Build answers is an nfa that may be. Plain mathematics, no program: steps between states at places of a text; what is done by many edges over states that nothing else touches is done by one edge that takes a whole expression. Plain mathematics: what is reached over Free edges; the edges of a state, one behind the other. Contracts over this program: which nfa may be (nfa.Right). Contracts over this program: which nfa may be, as the document has it (fretsawref07's Right). Rows of ints that a call has made; the web of an nfa's edges (nfa.weave). Over this program: the iterator over a state's edges (nfa.web's from), for every body that keeps its memory. Over this program: a crowd in memory; it is made (nfa.newCrowd), a state is added (crowd.add). Contracts over this program: a crowd is made (nfa.newCrowd), a state is added (crowd.add), it is left (crowd.leave). Over this program: a crowd by its lists alone; states added one behind the other; one taken off the stack; plain: what is gone along is closed. Contracts over this program: a crowd is spread over Free edges (crowd.spread). Contracts over this program: a crowd is made (nfa.newCrowd). Contracts over this program: what is reached over Free edges (nfa.Free). Contracts over this program: a crowd is left (crowd.leave). Nfas that came in as arguments: what their readings say of the memory; few. Contracts over this program: whether a byte is in a set, a set and a byte (set.Has, the document's Has). Contracts over this program: what is reached from a crowd over a byte is added to another one (crowd.step). Contracts over this program: what is reached over Free edges (nfa.Free), the walk. Contracts over this program: two crowds and a row beside one another. Plain mathematics: what the builder lays for an expression does, seen from the states that were there, just what one edge would do that takes the expression. Plain mathematics: what an expression takes, by its tree; the nfa that is laid for it takes just that.
-/
import Derived.WalkKit
import Derived.Test.YtkdkibnjfgcppaaRows
import Derived.ChangeAt
import Derived.Below
import Derived.Lib.OthersKept
import Derived.WalkLawsBesides
import Derived.Deep.RegionHeld3
import Derived.BigQuiet
import Derived.Deep.QuietTactic
import Derived.Deep.RegionLaw
import Derived.Deep.OwnRows
import Derived.Test.YtkdkibnjfgcppaaKDg
import Derived.Test.YtkdkibnjfgcppaaKDj
import Derived.OwnWalk
import Derived.Sort.LoopGhostIn
import Derived.RegionIn
import Derived.Test.YtkdkibnjfgcppaaKDl
import Derived.Laws.BitsAllLaws
import Derived.Laws.Rows
import Derived.Lib.Builder
import Derived.ProofKit
import Derived.OpenShut
namespace Go.Proofs.Ytkdkibnjfgcppaa.st
set_option linter.unusedVariables false

structure Q4 where
  a : Nat
  b : Nat
  c : Nat
  d : Nat

def word (q : Q4) : Nat → Nat
  | 0 => q.a
  | 1 => q.b
  | 2 => q.c
  | 3 => q.d
  | _ => 0
def mk4 (f : Nat → Nat) : Q4 := ⟨f 0, f 1, f 2, f 3⟩
def two64 : Nat := 18446744073709551616
theorem two64_pow : two64 = 2 ^ 64 := by decide
structure Fits (q : Q4) : Prop where
  a : q.a < 18446744073709551616
  b : q.b < 18446744073709551616
  c : q.c < 18446744073709551616
  d : q.d < 18446744073709551616

def has (q : Q4) (n : Nat) : Bool := (word q (n / 64)).testBit (n % 64)

theorem word_mk4 (f : Nat → Nat) (i : Nat) (h : i < 4) : word (mk4 f) i = f i := by
  match i, h with
  | 0, _ => rfl
  | 1, _ => rfl
  | 2, _ => rfl
  | 3, _ => rfl
  | n + 4, h => omega
theorem has_mk4 (f : Nat → Nat) (n : Nat) (h : n < 256) : has (mk4 f) n = (f (n / 64)).testBit (n % 64) := by
  unfold has
  rw [word_mk4 f _ (by omega)]
theorem Fits.word {q : Q4} (h : Fits q) (i : Nat) : word q i < 2 ^ 64 := by
  have := h.a; have := h.b; have := h.c; have := h.d
  match i with
  | 0 => simp only [st.word]; omega
  | 1 => simp only [st.word]; omega
  | 2 => simp only [st.word]; omega
  | 3 => simp only [st.word]; omega
  | n + 4 => simp only [st.word]; omega
theorem fits_mk4 {f : Nat → Nat} (h : ∀ i, f i < 2 ^ 64) : Fits (mk4 f) :=
  ⟨Nat.lt_of_lt_of_le (h 0) (by decide), Nat.lt_of_lt_of_le (h 1) (by decide), Nat.lt_of_lt_of_le (h 2) (by decide), Nat.lt_of_lt_of_le (h 3) (by decide)⟩

theorem word_ext {x y : Nat} (hx : x < 2 ^ 64) (hy : y < 2 ^ 64) (h : ∀ j, j < 64 → x.testBit j = y.testBit j) : x = y := by
  apply Nat.eq_of_testBit_eq
  intro j
  by_cases hj : j < 64
  · exact h j hj
  · rw [Nat.testBit_lt_two_pow (Nat.lt_of_lt_of_le hx (Nat.pow_le_pow_right (by omega) (by omega))), Nat.testBit_lt_two_pow (Nat.lt_of_lt_of_le hy (Nat.pow_le_pow_right (by omega) (by omega)))]

theorem ext {q r : Q4} (hq : Fits q) (hr : Fits r) (h : ∀ n, n < 256 → has q n = has r n) : q = r := by
  have key : ∀ i, i < 4 → word q i = word r i := by
    intro i hi
    refine word_ext (hq.word i) (hr.word i) fun j hj => ?_
    have := h (64 * i + j) (by omega)
    unfold has at this
    rw [show (64 * i + j) / 64 = i from by omega, show (64 * i + j) % 64 = j from by omega] at this
    exact this
  have h0 := key 0 (by omega)
  have h1 := key 1 (by omega)
  have h2 := key 2 (by omega)
  have h3 := key 3 (by omega)
  cases q; cases r
  simp only [word] at h0 h1 h2 h3
  rw [h0, h1, h2, h3]

def none4 : Q4 := ⟨0, 0, 0, 0⟩
theorem fits_none : Fits none4 := ⟨by decide, by decide, by decide, by decide⟩
theorem has_none (n : Nat) : has none4 n = false := by
  unfold has
  have : word none4 (n / 64) = 0 := by
    generalize n / 64 = i
    match i with
    | 0 => rfl
    | 1 => rfl
    | 2 => rfl
    | 3 => rfl
    | n + 4 => rfl
  rw [this, Nat.zero_testBit]

/-- a set, and a byte -/
def wth (q : Q4) (n : Nat) : Q4 := mk4 fun i => if i = n / 64 then word q i ||| 2 ^ (n % 64) else word q i
theorem fits_wth {q : Q4} (h : Fits q) (n : Nat) : Fits (wth q n) := by
  refine fits_mk4 fun i => ?_
  split
  · exact Nat.or_lt_two_pow (h.word i) (Nat.pow_lt_pow_right (by omega) (by omega))
  · exact h.word i
theorem has_wth (q : Q4) (n m : Nat) (hm : m < 256) : has (wth q n) m = (decide (m = n) || has q m) := by
  unfold wth
  rw [has_mk4 _ _ hm]
  by_cases h : m / 64 = n / 64
  · rw [if_pos h, Nat.testBit_or, Nat.testBit_two_pow, Bool.or_comm]
    unfold has
    congr 1
    rw [decide_eq_decide]
    omega
  · rw [if_neg h]
    have : decide (m = n) = false := by simp; intro e; exact h (by rw [e])
    rw [this, Bool.false_or]
    rfl

def ofl (l : List Nat) : Q4 := l.foldl wth none4
theorem foldl_fits (l : List Nat) (q : Q4) (h : Fits q) : Fits (l.foldl wth q) := by
  induction l generalizing q with
  | nil => exact h
  | cons x l ih => exact ih _ (fits_wth h x)
theorem foldl_has (l : List Nat) (q : Q4) (m : Nat) (hm : m < 256) : has (l.foldl wth q) m = (decide (m ∈ l) || has q m) := by
  induction l generalizing q with
  | nil => simp
  | cons x l ih =>
    rw [List.foldl_cons, ih, has_wth q x m hm]
    by_cases h1 : m = x <;> by_cases h2 : m ∈ l <;> simp [h1, h2]
theorem fits_ofl (l : List Nat) : Fits (ofl l) := foldl_fits l _ fits_none
theorem has_ofl (l : List Nat) (m : Nat) (hm : m < 256) : has (ofl l) m = decide (m ∈ l) := by
  unfold ofl
  rw [foldl_has l _ m hm, has_none, Bool.or_false]

/-- the bytes of a set, rising -/
def mem (q : Q4) : List Nat := (List.range 256).filter (has q)
theorem ofl_mem {q : Q4} (h : Fits q) : ofl (mem q) = q := by
  refine ext (fits_ofl _) h fun n hn => ?_
  rw [has_ofl _ _ hn]
  unfold mem
  cases hh : has q n <;> simp [hh, hn]
theorem mem_lt {q : Q4} {n : Nat} (h : n ∈ mem q) : n < 256 := by
  unfold mem at h
  simpa using (List.mem_filter.1 h).1

def jn (q r : Q4) : Q4 := mk4 fun i => word q i ||| word r i
def mt (q r : Q4) : Q4 := mk4 fun i => word q i &&& word r i
def nt (q : Q4) : Q4 := mk4 fun i => 2 ^ 64 - (word q i + 1)
theorem fits_jn {q r : Q4} (hq : Fits q) (hr : Fits r) : Fits (jn q r) := fits_mk4 fun i => Nat.or_lt_two_pow (hq.word i) (hr.word i)
theorem fits_mt {q r : Q4} (hq : Fits q) (hr : Fits r) : Fits (mt q r) := fits_mk4 fun i => Nat.and_lt_two_pow _ (hr.word i)
theorem fits_nt (q : Q4) : Fits (nt q) := fits_mk4 fun i => by have : 0 < 2 ^ 64 := by decide
                                                               omega
theorem has_jn (q r : Q4) (n : Nat) (h : n < 256) : has (jn q r) n = (has q n || has r n) := by
  unfold jn
  rw [has_mk4 _ _ h, Nat.testBit_or]
  rfl
theorem has_mt (q r : Q4) (n : Nat) (h : n < 256) : has (mt q r) n = (has q n && has r n) := by
  unfold mt
  rw [has_mk4 _ _ h, Nat.testBit_and]
  rfl
theorem has_nt {q : Q4} (hq : Fits q) (n : Nat) (h : n < 256) : has (nt q) n = !has q n := by
  unfold nt
  rw [has_mk4 _ _ h, Nat.testBit_two_pow_sub_succ (hq.word _)]
  have : decide (n % 64 < 64) = true := by simp; omega
  rw [this, Bool.true_and]
  rfl

/-! ### how many -/
def cnt (q : Q4) : Nat := (mem q).length
def ones (x : Nat) : Nat := (List.range 64).countP (fun j => x.testBit j)
theorem countP_add (p : Nat → Bool) (n m : Nat) : (List.range (n + m)).countP p = (List.range n).countP p + (List.range m).countP (fun j => p (n + j)) := by
  induction m with
  | zero => simp
  | succ m ih => rw [← Nat.add_assoc, List.range_succ, List.range_succ, List.countP_append, List.countP_append, ih]; simp [List.countP_cons]; omega
theorem countP_cong {p r : Nat → Bool} (n : Nat) (h : ∀ j, j < n → p j = r j) : (List.range n).countP p = (List.range n).countP r := by
  induction n with
  | zero => rfl
  | succ n ih =>
    rw [List.range_succ, List.countP_append, List.countP_append, ih (fun j hj => h j (by omega))]
    simp [List.countP_cons, h n (by omega)]
theorem cnt_words (q : Q4) : cnt q = ones q.a + ones q.b + ones q.c + ones q.d := by
  unfold cnt mem
  rw [← List.countP_eq_length_filter, show 256 = 64 + (64 + (64 + 64)) from rfl, countP_add, countP_add, countP_add]
  have e0 : (List.range 64).countP (has q) = ones q.a := countP_cong 64 fun j hj => by
    unfold has
    rw [show j / 64 = 0 from by omega, show j % 64 = j from by omega]; rfl
  have e1 : (List.range 64).countP (fun j => has q (64 + j)) = ones q.b := countP_cong 64 fun j hj => by
    unfold has
    rw [show (64 + j) / 64 = 1 from by omega, show (64 + j) % 64 = j from by omega]; rfl
  have e2 : (List.range 64).countP (fun j => has q (64 + (64 + j))) = ones q.c := countP_cong 64 fun j hj => by
    unfold has
    rw [show (64 + (64 + j)) / 64 = 2 from by omega, show (64 + (64 + j)) % 64 = j from by omega]; rfl
  have e3 : (List.range 64).countP (fun j => has q (64 + (64 + (64 + j)))) = ones q.d := countP_cong 64 fun j hj => by
    unfold has
    rw [show (64 + (64 + (64 + j))) / 64 = 3 from by omega, show (64 + (64 + (64 + j))) % 64 = j from by omega]; rfl
  rw [e0, e1, e2, e3]
  omega
theorem cnt_le (q : Q4) : cnt q ≤ 256 := by
  have := List.length_filter_le (has q) (List.range 256)
  unfold cnt mem
  simpa using this

theorem cnt_two {q r s : Q4} {f : Bool → Bool → Bool} (n : Nat) (p1 p2 p3 p4 : Nat → Bool) (h : ∀ j, j < n → (if p1 j then 1 else 0) + (if p2 j then 1 else 0) = (if p3 j then 1 else 0) + (if p4 j then 1 else 0)) :
    (List.range n).countP p1 + (List.range n).countP p2 = (List.range n).countP p3 + (List.range n).countP p4 := by
  induction n with
  | zero => rfl
  | succ n ih =>
    have h1 := ih (fun j hj => h j (by omega))
    have h2 := h n (by omega)
    rw [List.range_succ, List.countP_append, List.countP_append, List.countP_append, List.countP_append]
    simp only [List.countP_cons, List.countP_nil]
    omega
theorem cnt_nt {q : Q4} (hq : Fits q) : cnt q + cnt (nt q) = 256 := by
  have := cnt_two (q := q) (r := q) (s := q) (f := fun a _ => a) 256 (has q) (has (nt q)) (fun _ => true) (fun _ => false) (by
    intro j hj
    rw [has_nt hq j hj]
    cases has q j <;> rfl)
  unfold cnt mem
  rw [← List.countP_eq_length_filter, ← List.countP_eq_length_filter, this]
  simp
theorem cnt_jn (q r : Q4) : cnt (jn q r) + cnt (mt q r) = cnt q + cnt r := by
  have := cnt_two (q := q) (r := q) (s := q) (f := fun a _ => a) 256 (has (jn q r)) (has (mt q r)) (has q) (has r) (by
    intro j hj
    rw [has_jn q r j hj, has_mt q r j hj]
    cases has q j <;> cases has r j <;> rfl)
  unfold cnt mem
  rw [← List.countP_eq_length_filter, ← List.countP_eq_length_filter, ← List.countP_eq_length_filter, ← List.countP_eq_length_filter, this]

/-! ### the rules of sets -/
theorem rule1 {q r : Q4} (hq : Fits q) (hr : Fits r) : nt (jn q r) = mt (nt q) (nt r) :=
  ext (fits_nt _) (fits_mt (fits_nt _) (fits_nt _)) fun n h => by
    rw [has_nt (fits_jn hq hr) n h, has_jn _ _ n h, has_mt _ _ n h, has_nt hq n h, has_nt hr n h, Bool.not_or]
theorem rule2 {q r : Q4} (hq : Fits q) (hr : Fits r) : jn q (mt q r) = q :=
  ext (fits_jn hq (fits_mt hq hr)) hq fun n h => by
    rw [has_jn _ _ n h, has_mt _ _ n h]
    cases has q n <;> simp
theorem rule3 {q r : Q4} (hq : Fits q) (hr : Fits r) : mt q (jn q r) = q :=
  ext (fits_mt hq (fits_jn hq hr)) hq fun n h => by
    rw [has_mt _ _ n h, has_jn _ _ n h]
    cases has q n <;> simp
theorem rule4 {q r s : Q4} (hq : Fits q) (hr : Fits r) (hs : Fits s) : mt q (jn r s) = jn (mt q r) (mt q s) :=
  ext (fits_mt hq (fits_jn hr hs)) (fits_jn (fits_mt hq hr) (fits_mt hq hs)) fun n h => by
    rw [has_mt _ _ n h, has_jn _ _ n h, has_jn _ _ n h, has_mt _ _ n h, has_mt _ _ n h, Bool.and_or_distrib_left]
theorem rule5 {q : Q4} (hq : Fits q) : nt (nt q) = q :=
  ext (fits_nt _) hq fun n h => by rw [has_nt (fits_nt _) n h, has_nt hq n h, Bool.not_not]
theorem rule6 (q r : Q4) (hq : Fits q) (hr : Fits r) : jn q r = jn r q :=
  ext (fits_jn hq hr) (fits_jn hr hq) fun n h => by rw [has_jn _ _ n h, has_jn _ _ n h, Bool.or_comm]
end Go.Proofs.Ytkdkibnjfgcppaa.st

namespace Go.Proofs.Ytkdkibnjfgcppaa.st
set_option linter.unusedVariables false

inductive Tr where
  | node (k : Int) (q : Q4) (mn mx : Int) (kids : List Tr)

def Tr.kind : Tr → Int | .node k _ _ _ _ => k
def Tr.set : Tr → Q4 | .node _ q _ _ _ => q
def Tr.min : Tr → Int | .node _ _ m _ _ => m
def Tr.max : Tr → Int | .node _ _ _ m _ => m
def Tr.kids : Tr → List Tr | .node _ _ _ _ l => l
def Tr.zero : Tr := .node 0 ⟨0, 0, 0, 0⟩ 0 0 []
instance : Inhabited Tr := ⟨Tr.zero⟩
theorem Tr.eta (t : Tr) : t = .node t.kind t.set t.min t.max t.kids := by cases t; rfl
def nthT (l : List Tr) (i : Nat) : Tr := l.getD i Tr.zero
theorem nthT_lt (l : List Tr) (i : Nat) (h : i < l.length) : nthT l i = l[i] := by
  unfold nthT
  rw [List.getD_eq_getElem?_getD, List.getElem?_eq_getElem h]
  rfl
theorem nthT_mem (l : List Tr) (i : Nat) (h : i < l.length) : nthT l i ∈ l := by
  rw [nthT_lt l i h]
  exact List.getElem_mem h
theorem take_nthT (l : List Tr) (i : Nat) (h : i < l.length) : l.take (i + 1) = l.take i ++ [nthT l i] := by
  rw [List.take_succ_eq_append_getElem h, nthT_lt l i h]
theorem drop_nthT (l : List Tr) (i : Nat) (h : i < l.length) : l.drop i = nthT l i :: l.drop (i + 1) := by
  rw [List.drop_eq_getElem_cons h, nthT_lt l i h]

mutual
def Tr.depth : Tr → Nat
  | .node _ _ _ _ l => depths l + 1
def depths : List Tr → Nat
  | [] => 0
  | t :: l => Max.max t.depth (depths l)
end
mutual
def Tr.nodes : Tr → Nat
  | .node _ _ _ _ l => nodesOf l + 1
def nodesOf : List Tr → Nat
  | [] => 0
  | t :: l => t.nodes + nodesOf l
end

theorem depths_append (a b : List Tr) : depths (a ++ b) = Max.max (depths a) (depths b) := by
  induction a with
  | nil => simp [depths]
  | cons t a ih => simp only [List.cons_append, depths, ih]; omega
theorem nodesOf_append (a b : List Tr) : nodesOf (a ++ b) = nodesOf a + nodesOf b := by
  induction a with
  | nil => simp [nodesOf]
  | cons t a ih => simp only [List.cons_append, nodesOf, ih]; omega
theorem depths_take (l : List Tr) (i : Nat) (h : i < l.length) : depths (l.take (i + 1)) = Max.max (depths (l.take i)) (nthT l i).depth := by
  rw [take_nthT l i h, depths_append]
  simp [depths]
theorem nodesOf_take (l : List Tr) (i : Nat) (h : i < l.length) : nodesOf (l.take (i + 1)) = nodesOf (l.take i) + (nthT l i).nodes := by
  rw [take_nthT l i h, nodesOf_append]
  simp [nodesOf]
theorem depths_le (l : List Tr) (i : Nat) : depths (l.take i) ≤ depths l := by
  have := depths_append (l.take i) (l.drop i)
  rw [List.take_append_drop] at this
  omega
theorem nodesOf_le (l : List Tr) (i : Nat) : nodesOf (l.take i) ≤ nodesOf l := by
  have := nodesOf_append (l.take i) (l.drop i)
  rw [List.take_append_drop] at this
  omega
theorem depth_nth (l : List Tr) (i : Nat) (h : i < l.length) : (nthT l i).depth ≤ depths l := by
  have := depths_le l (i + 1)
  rw [depths_take l i h] at this
  omega
theorem nodes_nth (l : List Tr) (i : Nat) (h : i < l.length) : nodesOf (l.take i) + (nthT l i).nodes ≤ nodesOf l := by
  have := nodesOf_le l (i + 1)
  rw [nodesOf_take l i h] at this
  omega
theorem Tr.depth_eq (t : Tr) : t.depth = depths t.kids + 1 := by cases t; rfl
theorem Tr.nodes_eq (t : Tr) : t.nodes = nodesOf t.kids + 1 := by cases t; rfl

def noSet (q : Q4) : Bool := decide (q.a = 0) && decide (q.b = 0) && decide (q.c = 0) && decide (q.d = 0)
def anyKind (k : Int) (l : List Tr) : Bool := l.any fun t => decide (t.kind = k)
def timesOk (mn mx : Int) : Bool := decide (0 ≤ mn) && decide (mn ≤ 20) && (decide (mx = -1) || (decide (mn ≤ mx) && decide (mx ≤ 20) && !(decide (mn = 1) && decide (mx = 1))))
/-- one node that may be -/
def okNode (t : Tr) : Bool :=
  if t.kind = 1 then decide (t.min = 0) && decide (t.max = 0) && decide (t.kids.length = 0)
  else if t.kind = 2 then noSet t.set && decide (t.min = 0) && decide (t.max = 0) && !decide (t.kids.length = 1) && !anyKind 2 t.kids
  else if t.kind = 3 then noSet t.set && decide (t.min = 0) && decide (t.max = 0) && decide (2 ≤ t.kids.length) && !anyKind 3 t.kids
  else if t.kind = 4 then noSet t.set && timesOk t.min t.max && decide (t.kids.length = 1)
  else false
mutual
def Tr.good : Tr → Bool
  | .node k q mn mx l => okNode (.node k q mn mx l) && goods l
def goods : List Tr → Bool
  | [] => true
  | t :: l => t.good && goods l
end
theorem goods_append (a b : List Tr) : goods (a ++ b) = (goods a && goods b) := by
  induction a with
  | nil => simp [goods]
  | cons t a ih => simp only [List.cons_append, goods, ih, Bool.and_assoc]
theorem goods_take (l : List Tr) (i : Nat) (h : i < l.length) : goods (l.take (i + 1)) = (goods (l.take i) && (nthT l i).good) := by
  rw [take_nthT l i h, goods_append]
  simp [goods]
theorem goods_false (l : List Tr) (i : Nat) (h : i < l.length) (hg : (nthT l i).good = false) : goods l = false := by
  have := goods_append (l.take (i + 1)) (l.drop (i + 1))
  rw [List.take_append_drop, goods_take l i h, hg] at this
  simpa using this
theorem Tr.good_eq (t : Tr) : t.good = (okNode t && goods t.kids) := by cases t; rfl
theorem any_take (k : Int) (l : List Tr) (i : Nat) (h : i < l.length) : anyKind k (l.take (i + 1)) = (anyKind k (l.take i) || decide ((nthT l i).kind = k)) := by
  unfold anyKind
  rw [take_nthT l i h, List.any_append]
  simp
theorem any_true (k : Int) (l : List Tr) (i : Nat) (h : i < l.length) (hg : (nthT l i).kind = k) : anyKind k l = true := by
  unfold anyKind
  rw [List.any_eq_true]
  exact ⟨_, nthT_mem l i h, by simpa using hg⟩

/-- Right's answer -/
def rightOf (t : Tr) : Int := if t.depth ≤ 30 ∧ t.nodes ≤ 512 then (if t.good then 0 else 61) else 2
end Go.Proofs.Ytkdkibnjfgcppaa.st

namespace Go.Proofs.Ytkdkibnjfgcppaa.nf
open Go.ChangeShapes Go.WideShapes Go.ChangeAt Go.RowKit
set_option linter.unusedVariables false

structure Ed where
  fr : Int
  to : Int
  free : Bool
  a : Nat
  b : Nat
  c : Nat
  d : Nat
structure Nfa where
  n : Int
  s : Int
  e : Int
  edges : List Ed

def isSt (n i : Int) : Bool := decide (0 ≤ i) && decide (i < n)
def edOk (n : Int) (x : Ed) : Bool := isSt n x.fr && isSt n x.to
def right (x : Nfa) : Bool := decide (1 ≤ x.n) && decide (x.n ≤ 2000) && decide (x.edges.length ≤ 16000) && isSt x.n x.s && isSt x.n x.e && x.edges.all (edOk x.n)

theorem below_alloc (w : World) (o : Obj) : Below w.heap.size w (w.alloc o) := (Below.refl _ _).alloc (Nat.le_refl _) o
theorem chain {w w1 w2 : World} (h1 : Below w.heap.size w w1) (h2 : Below w1.heap.size w1 w2) : Below w.heap.size w w2 := h1.trans (h2.mono h1.size)

/-- seven cells of an edge -/
structure EdAt (w : World) (b o : Nat) (x : Ed) : Prop where
  c0 : w.cell? ⟨b, o, none⟩ = some (.int .i64 x.fr)
  c1 : w.cell? ⟨b, o + 1, none⟩ = some (.int .i64 x.to)
  c2 : w.cell? ⟨b, o + 2, none⟩ = some (.bool x.free)
  c3 : w.cell? ⟨b, o + 3, none⟩ = some (.int .u64 x.a)
  c4 : w.cell? ⟨b, o + 4, none⟩ = some (.int .u64 x.b)
  c5 : w.cell? ⟨b, o + 5, none⟩ = some (.int .u64 x.c)
  c6 : w.cell? ⟨b, o + 6, none⟩ = some (.int .u64 x.d)
theorem EdAt.same {w w' : World} {b o : Nat} {x : Ed} (h : EdAt w b o x) (e : w'.heap[b]? = w.heap[b]?) : EdAt w' b o x := by
  have hc : ∀ k, w'.cell? ⟨b, k, none⟩ = w.cell? ⟨b, k, none⟩ := fun k => by simp [World.cell?, e]
  exact ⟨by rw [hc]; exact h.c0, by rw [hc]; exact h.c1, by rw [hc]; exact h.c2, by rw [hc]; exact h.c3, by rw [hc]; exact h.c4, by rw [hc]; exact h.c5, by rw [hc]; exact h.c6⟩
/-- a list of edges that came in -/
structure Eds (w : World) (o : Option Addr) (cap : Nat) (l : List Ed) : Prop where
  fit : l.length ≤ cap
  top : cap ≤ 9223372036854775807
  lie : ∀ i (h : i < l.length), ∃ b off, o = some ⟨b, off, none⟩ ∧ b < w.heap.size ∧ EdAt w b (off + i * 7) l[i]
theorem Eds.later {w w' : World} {o : Option Addr} {cap : Nat} {l : List Ed} (h : Eds w o cap l) (b : Below w.heap.size w w') : Eds w' o cap l :=
  ⟨h.fit, h.top, fun i hi => by
    obtain ⟨k, off, h1, h2, h3⟩ := h.lie i hi
    exact ⟨k, off, h1, Nat.lt_of_lt_of_le h2 b.size, h3.same (b.block k h2)⟩⟩

abbrev nfaV (n s e : Int) (o : Option Addr) (m cap : Nat) : Value := .agg #[.int .i64 n, .int .i64 s, .int .i64 e, .slice o m cap]

def StIs (n i : Int) (r : Bool) : Prop := ∀ s e o m cap w, Calls Try.prog 52 #[nfaV n s e o m cap, .int .i64 i] w fun x w' => x = .returned (.bool r) ∧ Below w.heap.size w w'
set_option maxHeartbeats 1000000 in
theorem st_any (n i : Int) (r : Bool) (hr : r = isSt n i) : StIs n i r := by
  intro s e o m cap w
  unfold isSt at hr
  by_cases h1 : 0 ≤ i
  · have f1 : decide (0 ≤ i) = true := decide_eq_true h1
    rw [f1, Bool.true_and] at hr
    clear h1
    go_enter Try.func52, Try.ntmps52
    go_wp2
    go_ret
    exact ⟨by rw [hr]; rfl, below_alloc _ _⟩
  · have f1 : decide (0 ≤ i) = false := decide_eq_false h1
    rw [f1, Bool.false_and] at hr
    subst hr
    clear h1
    go_enter Try.func52, Try.ntmps52
    go_wp2
    go_ret
    exact ⟨rfl, below_alloc _ _⟩
end Go.Proofs.Ytkdkibnjfgcppaa.nf

namespace Go.Proofs.Ytkdkibnjfgcppaa.nb
open st (Tr Q4 nodesOf goods okNode)
open nf (Ed)
set_option linter.unusedVariables false

/-- an nfa that is being made -/
structure St where
  n : Nat
  es : List Ed
def St.full (x : St) : Bool := decide (2000 < x.n) || decide (16000 < x.es.length)
def St.new (x : St) : St := ⟨x.n + 1, x.es⟩
def St.free (x : St) (f t : Nat) : St := ⟨x.n, x.es ++ [⟨f, t, true, 0, 0, 0, 0⟩]⟩
def St.over (x : St) (q : Q4) (f t : Nat) : St := ⟨x.n, x.es ++ [⟨f, t, false, q.a, q.b, q.c, q.d⟩]⟩
/-- what lays an expression between two states -/
abbrev Lay := Nat → Nat → St → St
/-- so many times, one behind the other: the state behind the last, and the nfa -/
def times (L : Lay) : Nat → Nat → St → Nat × St
  | 0, f, x => (f, x)
  | k + 1, f, x => times L k x.n (L f x.n x.new)
def upTo (L : Lay) (least to : Nat) : Nat → Nat → Nat → St → St
  | 0, i, f, x => x.free f to
  | k + 1, i, f, x => let y := if least ≤ i then x.free f to else x; upTo L least to k (i + 1) y.n (L f y.n y.new)
def again (L : Lay) (least f to : Nat) (x : St) : St :=
  let y := times L (least - 1) f x
  let z := y.2.new.free y.1 y.2.n
  if 0 < least then (L y.2.n z.n (z.new.free z.n y.2.n)).free z.n to else (L y.2.n y.2.n z).free y.2.n to
mutual
def layT : Tr → Lay
  | .node k q mn mx l, f, t, x =>
    if x.full = true then x
    else if k = 1 then x.over q f t
    else if k = 2 then let y := rowT l f x; y.2.free y.1 t
    else if k = 3 then altT l f t x
    else if k = 4 then (if mx = -1 then again (headT l) mn.toNat f t x else upTo (headT l) mn.toNat t mx.toNat 0 f x)
    else x
def rowT : List Tr → Nat → St → Nat × St
  | [], f, x => (f, x)
  | t :: l, f, x => rowT l x.n (layT t f x.n x.new)
def altT : List Tr → Lay
  | [], f, t, x => x
  | k :: l, f, t, x => altT l f t (layT k f t x)
def headT : List Tr → Lay
  | [], f, t, x => x
  | k :: _, f, t, x => layT k f t x
end
theorem layT_full (t : Tr) (f to : Nat) (x : St) (h : x.full = true) : layT t f to x = x := by
  cases t
  rw [layT, if_pos h]
theorem headT_full (l : List Tr) (f to : Nat) (x : St) (h : x.full = true) : headT l f to x = x := by
  cases l with
  | nil => rfl
  | cons t l => exact layT_full t f to x h
/-- at most so many states and edges -/
structure Most (x : St) (a b : Nat) : Prop where
  n : x.n ≤ a
  e : x.es.length ≤ b
theorem Most.up {x : St} {a b a' b' : Nat} (h : Most x a b) (h1 : a ≤ a') (h2 : b ≤ b') : Most x a' b' := ⟨Nat.le_trans h.n h1, Nat.le_trans h.e h2⟩
theorem Most.new {x : St} {a b : Nat} (h : Most x a b) : Most x.new (a + 1) b := ⟨Nat.succ_le_succ h.n, h.e⟩
theorem Most.free {x : St} {a b : Nat} (h : Most x a b) (f t : Nat) : Most (x.free f t) a (b + 1) := ⟨h.n, by have := h.e; simp [St.free]; omega⟩
theorem not_full {x : St} (h : ¬ x.full = true) : Most x 2000 16000 := by
  simp [St.full] at h
  exact ⟨h.1, h.2⟩
/-- what a lay adds at most, if it is not full; it adds nothing where it is -/
structure Lim (L : Lay) (G : Nat) : Prop where
  idle : ∀ f t x, x.full = true → L f t x = x
  add : ∀ f t x a b, 2000 ≤ a → 16000 ≤ b → Most x a b → Most (L f t x) (a + G) (b + G)
/-- a lay that is run again and again adds its share once -/
theorem Lim.step {L : Lay} {G : Nat} (h : Lim L G) (f t : Nat) (x : St) (a b : Nat) (hx : Most x a b) (ha : 2000 + G ≤ a) (hb : 16000 + G ≤ b) : Most (L f t x) a b := by
  by_cases hf : x.full = true
  · rw [h.idle f t x hf]; exact hx
  · exact (h.add f t x 2000 16000 (Nat.le_refl _) (Nat.le_refl _) (not_full hf)).up ha hb
theorem times_most {L : Lay} {G : Nat} (h : Lim L G) : ∀ (k f : Nat) (x : St) (a b : Nat), Most x a b → 2000 + G ≤ a → 16000 + G ≤ b → Most (times L k f x).2 (a + k) b
  | 0, f, x, a, b, hx, _, _ => hx
  | k + 1, f, x, a, b, hx, ha, hb => by
    have := times_most h k x.n (L f x.n x.new) (a + 1) b (h.step f x.n x.new (a + 1) b hx.new (by omega) hb) (by omega) hb
    exact this.up (by omega) (Nat.le_refl _)
theorem upTo_most {L : Lay} {G : Nat} (h : Lim L G) (least to : Nat) : ∀ (k i f : Nat) (x : St) (a b : Nat), Most x a b → 2000 + G ≤ a → 16000 + G ≤ b → Most (upTo L least to k i f x) (a + k) (b + k + 1)
  | 0, i, f, x, a, b, hx, _, _ => (hx.free f to).up (by omega) (by omega)
  | k + 1, i, f, x, a, b, hx, ha, hb => by
    have hy : Most (if least ≤ i then x.free f to else x) a (b + 1) := by
      split
      · exact hx.free f to
      · exact hx.up (Nat.le_refl _) (by omega)
    unfold upTo
    have := upTo_most h least to k (i + 1) (if least ≤ i then x.free f to else x).n _ (a + 1) (b + 1) (h.step f (if least ≤ i then x.free f to else x).n _ (a + 1) (b + 1) hy.new (by omega) (by omega)) (by omega) (by omega)
    exact this.up (by omega) (by omega)
theorem again_most {L : Lay} {G : Nat} (h : Lim L G) (least f to : Nat) (x : St) (a b : Nat) (hx : Most x a b) (ha : 2000 + G ≤ a) (hb : 16000 + G ≤ b) : Most (again L least f to x) (a + least + 2) (b + 3) := by
  have h1 := times_most h (least - 1) f x a b hx ha hb
  have h2 := h1.new.free (times L (least - 1) f x).1 (times L (least - 1) f x).2.n
  unfold again
  dsimp only
  split
  · exact ((h.step _ _ _ _ _ (h2.new.free _ _) (by omega) (by omega)).free _ _).up (by omega) (by omega)
  · exact ((h.step _ _ _ _ _ h2 (by omega) (by omega)).free _ _).up (by omega) (by omega)
theorem row_most : ∀ (l : List Tr), (∀ t ∈ l, Lim (layT t) (30 * t.nodes - 5)) → ∀ (f : Nat) (x : St) (a b : Nat), 2000 ≤ a → 16000 ≤ b → Most x a b → Most (rowT l f x).2 (a + 30 * nodesOf l) (b + 30 * nodesOf l)
  | [], _, f, x, a, b, _, _, hx => hx
  | t :: l, h, f, x, a, b, ha, hb, hx => by
    have hn : 1 ≤ t.nodes := by rw [Tr.nodes_eq]; omega
    have h1 := (h t (by simp)).add f x.n x.new (a + 1) b (by omega) hb hx.new
    have h2 := row_most l (fun u hu => h u (by simp [hu])) x.n _ _ _ (by omega) (by omega) h1
    rw [rowT, nodesOf]
    exact h2.up (by omega) (by omega)
theorem alt_most : ∀ (l : List Tr), (∀ t ∈ l, Lim (layT t) (30 * t.nodes - 5)) → ∀ (f to : Nat) (x : St) (a b : Nat), 2000 ≤ a → 16000 ≤ b → Most x a b → Most (altT l f to x) (a + 30 * nodesOf l) (b + 30 * nodesOf l)
  | [], _, f, to, x, a, b, _, _, hx => hx
  | t :: l, h, f, to, x, a, b, ha, hb, hx => by
    have h1 := (h t (by simp)).add f to x a b ha hb hx
    have h2 := alt_most l (fun u hu => h u (by simp [hu])) f to _ _ _ (by omega) (by omega) h1
    rw [altT, nodesOf]
    exact h2.up (by omega) (by omega)
theorem goods_mem : ∀ (l : List Tr), goods l = true → ∀ t ∈ l, t.good = true
  | [], _, t, ht => by cases ht
  | u :: l, h, t, ht => by
    rw [goods, Bool.and_eq_true] at h
    rcases List.mem_cons.1 ht with rfl | ht
    · exact h.1
    · exact goods_mem l h.2 t ht
theorem depth_mem : ∀ (l : List Tr), ∀ t ∈ l, t.depth ≤ st.depths l
  | [], t, ht => by cases ht
  | u :: l, t, ht => by
    rw [st.depths]
    rcases List.mem_cons.1 ht with rfl | ht
    · omega
    · have := depth_mem l t ht; omega
theorem times_of (t : Tr) (h : okNode t = true) (hk : t.kind = 4) : t.kids.length = 1 ∧ 0 ≤ t.min ∧ t.min ≤ 20 ∧ (t.max = -1 ∨ 0 ≤ t.max ∧ t.max ≤ 20) := by
  unfold okNode st.timesOk at h
  rw [if_neg (by omega), if_neg (by omega), if_neg (by omega), if_pos hk] at h
  simp at h
  omega
theorem lay_lim : ∀ (d : Nat) (t : Tr), t.depth ≤ d → t.good = true → Lim (layT t) (30 * t.nodes - 5)
  | 0, t, h, _ => by rw [Tr.depth_eq] at h; omega
  | d + 1, t, h, hg => by
    refine ⟨fun f to x hf => layT_full t f to x hf, fun f to x a b ha hb hx => ?_⟩
    rw [Tr.good_eq, Bool.and_eq_true] at hg
    have hkids : ∀ u ∈ t.kids, Lim (layT u) (30 * u.nodes - 5) := fun u hu => lay_lim d u (by have := depth_mem t.kids u hu; rw [Tr.depth_eq] at h; omega) (goods_mem t.kids hg.2 u hu)
    have htm := times_of t hg.1
    rw [Tr.nodes_eq]
    cases t with
    | node k q mn mx l =>
      simp only [Tr.kids, Tr.kind, Tr.min, Tr.max] at hkids htm ⊢
      rw [layT]
      split
      · exact hx.up (by omega) (by omega)
      · split
        · exact ⟨by have := hx.n; simp [St.over]; omega, by have := hx.e; simp [St.over]; omega⟩
        · split
          · have := (row_most l hkids f x a b ha hb hx).free (rowT l f x).1 to
            exact this.up (by omega) (by omega)
          · split
            · exact (alt_most l hkids f to x a b ha hb hx).up (by omega) (by omega)
            · split
              · rename_i hk4
                obtain ⟨hl1, hm0, hm1, hm2⟩ := htm hk4
                match l, hl1, hkids with
                | [kid], _, hkids =>
                  have hK : Lim (headT [kid]) (30 * kid.nodes - 5) := hkids kid (by simp)
                  have hn : 1 ≤ kid.nodes := by rw [Tr.nodes_eq]; omega
                  have e1 : nodesOf [kid] = kid.nodes := by simp [nodesOf]
                  rw [e1]
                  split
                  · have := again_most hK mn.toNat f to x (a + (30 * kid.nodes - 5)) (b + (30 * kid.nodes - 5)) (hx.up (by omega) (by omega)) (by omega) (by omega)
                    exact this.up (by omega) (by omega)
                  · have := upTo_most hK mn.toNat to mx.toNat 0 f x (a + (30 * kid.nodes - 5)) (b + (30 * kid.nodes - 5)) (hx.up (by omega) (by omega)) (by omega) (by omega)
                    exact this.up (by omega) (by omega)
              · exact hx.up (by omega) (by omega)
end Go.Proofs.Ytkdkibnjfgcppaa.nb

namespace Go.Proofs.Ytkdkibnjfgcppaa.nb
open st (Tr Q4 nodesOf goods okNode)
open nf (Ed)
set_option linter.unusedVariables false

def InSt (x : St) : Prop := ∀ e ∈ x.es, 0 ≤ e.fr ∧ e.fr < (x.n : Int) ∧ 0 ≤ e.to ∧ e.to < (x.n : Int)
theorem InSt.new {x : St} (h : InSt x) : InSt x.new := fun e he => by have := h e he; simp [St.new]; omega
theorem InSt.add {x : St} (h : InSt x) (f t : Nat) (hf : f < x.n) (ht : t < x.n) (fr : Bool) (a b c d : Nat) : InSt ⟨x.n, x.es ++ [⟨f, t, fr, a, b, c, d⟩]⟩ := fun e he => by
  rcases List.mem_append.1 he with he | he
  · exact h e he
  · simp at he
    subst he
    exact ⟨by simp, by simpa using hf, by simp, by simpa using ht⟩
theorem InSt.free {x : St} (h : InSt x) (f t : Nat) (hf : f < x.n) (ht : t < x.n) : InSt (x.free f t) := h.add f t hf ht true 0 0 0 0
/-- what a lay keeps -/
def Keep (L : Lay) : Prop := ∀ f t x, f < x.n → t < x.n → InSt x → InSt (L f t x) ∧ x.n ≤ (L f t x).n
theorem times_keep {L : Lay} (h : Keep L) : ∀ (k f : Nat) (x : St), f < x.n → InSt x → InSt (times L k f x).2 ∧ x.n ≤ (times L k f x).2.n ∧ (times L k f x).1 < (times L k f x).2.n
  | 0, f, x, hf, hx => ⟨hx, Nat.le_refl _, hf⟩
  | k + 1, f, x, hf, hx => by
    obtain ⟨h1, h2⟩ := h f x.n x.new (by simp [St.new]; omega) (by simp [St.new]) hx.new
    have h3 : x.n < (L f x.n x.new).n := by simp [St.new] at h2 ⊢; omega
    obtain ⟨h4, h5, h6⟩ := times_keep h k x.n (L f x.n x.new) h3 h1
    exact ⟨h4, Nat.le_trans (Nat.le_of_lt h3) h5, h6⟩
theorem upTo_keep {L : Lay} (h : Keep L) (least to : Nat) : ∀ (k i f : Nat) (x : St), f < x.n → to < x.n → InSt x → InSt (upTo L least to k i f x) ∧ x.n ≤ (upTo L least to k i f x).n
  | 0, i, f, x, hf, ht, hx => ⟨hx.free f to hf ht, Nat.le_refl _⟩
  | k + 1, i, f, x, hf, ht, hx => by
    obtain ⟨y, hy⟩ : ∃ y, y = if least ≤ i then x.free f to else x := ⟨_, rfl⟩
    have hyn : y.n = x.n := by rw [hy]; split <;> rfl
    have hyi : InSt y := by
      rw [hy]
      split
      · exact hx.free f to hf ht
      · exact hx
    unfold upTo
    dsimp only
    rw [← hy]
    obtain ⟨h1, h2⟩ := h f y.n y.new (by simp [St.new]; omega) (by simp [St.new]) hyi.new
    have h3 : y.n < (L f y.n y.new).n := by simp [St.new] at h2 ⊢; omega
    obtain ⟨h4, h5⟩ := upTo_keep h least to k (i + 1) y.n (L f y.n y.new) h3 (by omega) h1
    exact ⟨h4, by omega⟩
theorem again_keep {L : Lay} (h : Keep L) (least f to : Nat) (x : St) (hf : f < x.n) (ht : to < x.n) (hx : InSt x) : InSt (again L least f to x) ∧ x.n ≤ (again L least f to x).n := by
  obtain ⟨h1, h2, h3⟩ := times_keep h (least - 1) f x hf hx
  unfold again
  dsimp only
  generalize times L (least - 1) f x = y at *
  have z1 : InSt (y.2.new.free y.1 y.2.n) := h1.new.free _ _ (by simp [St.new]; omega) (by simp [St.new])
  have zn : (y.2.new.free y.1 y.2.n).n = y.2.n + 1 := rfl
  generalize y.2.new.free y.1 y.2.n = z at *
  split
  · have u1 : InSt (z.new.free z.n y.2.n) := z1.new.free _ _ (by simp [St.new]) (by simp [St.new]; omega)
    have un : (z.new.free z.n y.2.n).n = z.n + 1 := rfl
    obtain ⟨v1, v2⟩ := h y.2.n z.n (z.new.free z.n y.2.n) (by omega) (by omega) u1
    exact ⟨v1.free _ _ (by omega) (by omega), by show x.n ≤ (L y.2.n z.n (z.new.free z.n y.2.n)).n; omega⟩
  · obtain ⟨v1, v2⟩ := h y.2.n y.2.n z (by omega) (by omega) z1
    exact ⟨v1.free _ _ (by omega) (by omega), by show x.n ≤ (L y.2.n y.2.n z).n; omega⟩
mutual
theorem lay_keep : ∀ (t : Tr), Keep (layT t)
  | .node k q mn mx l => by
    intro f t x hf ht hx
    rw [layT]
    split
    · exact ⟨hx, Nat.le_refl _⟩
    · split
      · exact ⟨hx.add f t hf ht false q.a q.b q.c q.d, Nat.le_refl _⟩
      · split
        · obtain ⟨h1, h2, h3⟩ := row_keep l f x hf hx
          exact ⟨h1.free _ _ h3 (by omega), h2⟩
        · split
          · exact alt_keep l f t x hf ht hx
          · split
            · split
              · exact again_keep (head_keep l) _ f t x hf ht hx
              · exact upTo_keep (head_keep l) _ t _ _ f x hf ht hx
            · exact ⟨hx, Nat.le_refl _⟩
theorem row_keep : ∀ (l : List Tr) (f : Nat) (x : St), f < x.n → InSt x → InSt (rowT l f x).2 ∧ x.n ≤ (rowT l f x).2.n ∧ (rowT l f x).1 < (rowT l f x).2.n
  | [], f, x, hf, hx => ⟨hx, Nat.le_refl _, hf⟩
  | t :: l, f, x, hf, hx => by
    obtain ⟨h1, h2⟩ := lay_keep t f x.n x.new (by simp [St.new]; omega) (by simp [St.new]) hx.new
    have h3 : x.n < (layT t f x.n x.new).n := by simp [St.new] at h2 ⊢; omega
    obtain ⟨h4, h5, h6⟩ := row_keep l x.n (layT t f x.n x.new) h3 h1
    rw [rowT]
    exact ⟨h4, by omega, h6⟩
theorem alt_keep : ∀ (l : List Tr), Keep (altT l)
  | [] => fun f t x hf ht hx => ⟨hx, Nat.le_refl _⟩
  | k :: l => by
    intro f t x hf ht hx
    obtain ⟨h1, h2⟩ := lay_keep k f t x hf ht hx
    obtain ⟨h3, h4⟩ := alt_keep l f t (layT k f t x) (by omega) (by omega) h1
    rw [altT]
    exact ⟨h3, by omega⟩
theorem head_keep : ∀ (l : List Tr), Keep (headT l)
  | [] => fun f t x hf ht hx => ⟨hx, Nat.le_refl _⟩
  | k :: _ => lay_keep k
end
/-- what is laid for an expression -/
def built (t : Tr) : St := layT t 0 1 ⟨2, []⟩
theorem built_in (t : Tr) : InSt (built t) ∧ 2 ≤ (built t).n := lay_keep t 0 1 ⟨2, []⟩ (by simp) (by simp) (fun e he => by cases he)
def nfaOf (t : Tr) : nf.Nfa := ⟨(built t).n, 0, 1, (built t).es⟩
theorem built_right (t : Tr) (h : (built t).full = false) : nf.right (nfaOf t) = true := by
  obtain ⟨h1, h2⟩ := built_in t
  simp [St.full] at h
  unfold nf.right nfaOf nf.isSt nf.edOk
  simp only [Bool.and_eq_true, decide_eq_true_eq, List.all_eq_true]
  refine ⟨⟨⟨⟨⟨by omega, by omega⟩, h.2⟩, by omega⟩, by omega⟩, fun e he => ?_⟩
  have := h1 e he
  unfold nf.isSt
  simp only [Bool.and_eq_true, decide_eq_true_eq]
  exact ⟨⟨this.1, this.2.1⟩, this.2.2.1, this.2.2.2⟩
end Go.Proofs.Ytkdkibnjfgcppaa.nb

namespace Go.Proofs.Ytkdkibnjfgcppaa.nb
set_option linter.unusedVariables false

/-- a state, and a place of the text -/
abbrev Cf := Nat × Nat
abbrev Rl := Cf → Cf → Prop
inductive Pa (R : Rl) : Cf → Cf → Prop
  | refl (a : Cf) : Pa R a a
  | step {a b c : Cf} : R a b → Pa R b c → Pa R a c
theorem Pa.trans {R : Rl} {a b c : Cf} (h : Pa R a b) (k : Pa R b c) : Pa R a c := by
  induction h with
  | refl => exact k
  | step r _ ih => exact .step r (ih k)
theorem Pa.one {R : Rl} {a b : Cf} (h : R a b) : Pa R a b := .step h (.refl _)
theorem Pa.flat {R S : Rl} (h : ∀ a b, R a b → Pa S a b) {a b : Cf} (k : Pa R a b) : Pa S a b := by
  induction k with
  | refl => exact .refl _
  | step r _ ih => exact (h _ _ r).trans ih
theorem Pa.mono {R S : Rl} (h : ∀ a b, R a b → S a b) {a b : Cf} (k : Pa R a b) : Pa S a b := k.flat fun a b r => .one (h a b r)
theorem Pa.congr {R S : Rl} (h : ∀ a b, R a b ↔ S a b) {a b : Cf} : Pa R a b ↔ Pa S a b := ⟨Pa.mono fun a b => (h a b).1, Pa.mono fun a b => (h a b).2⟩
def Un (R S : Rl) : Rl := fun a b => R a b ∨ S a b
/-- it touches none of these states -/
def Off (F : Nat → Prop) (R : Rl) : Prop := ∀ a b, R a b → ¬ F a.1 ∧ ¬ F b.1
theorem Off.un {F : Nat → Prop} {R S : Rl} (h : Off F R) (k : Off F S) : Off F (Un R S) := fun a b r => r.elim (h a b) (k a b)
theorem Off.less {F G : Nat → Prop} {R : Rl} (h : Off G R) (k : ∀ s, F s → G s) : Off F R := fun a b r => ⟨fun f => (h a b r).1 (k _ f), fun f => (h a b r).2 (k _ f)⟩
/-- seen from the states beside these, two are the same, whatever stands beside them -/
def Same (F : Nat → Prop) (R S : Rl) : Prop := ∀ E, Off F E → ∀ a b, ¬ F a.1 → ¬ F b.1 → (Pa (Un E R) a b ↔ Pa (Un E S) a b)
theorem Same.refl (F : Nat → Prop) (R : Rl) : Same F R R := fun _ _ _ _ _ _ => Iff.rfl
theorem Same.of {F : Nat → Prop} {R S : Rl} (h : ∀ a b, R a b ↔ S a b) : Same F R S := fun E _ a b _ _ => Pa.congr fun a b => or_congr Iff.rfl (h a b)
theorem Same.up {F G : Nat → Prop} {R S : Rl} (h : Same F R S) (k : ∀ s, F s → G s) : Same G R S := fun E hE a b ha hb => h E (hE.less k) a b (fun f => ha (k _ f)) (fun f => hb (k _ f))
theorem Same.trans {F : Nat → Prop} {R S T : Rl} (h : Same F R S) (k : Same F S T) : Same F R T := fun E hE a b ha hb => (h E hE a b ha hb).trans (k E hE a b ha hb)
theorem un_assoc (E R S : Rl) (a b : Cf) : Un E (Un R S) a b ↔ Un (Un E R) S a b := or_assoc.symm
theorem un_swap (E R S : Rl) (a b : Cf) : Un E (Un R S) a b ↔ Un (Un E S) R a b := by unfold Un; rw [or_assoc, or_comm (a := S a b)]
/-- two parts, each of which touches none of the other one's own states -/
theorem Same.both {F G : Nat → Prop} {R S R' S' : Rl} (h : Same F R R') (k : Same G S S') (h1 : Off F S) (h2 : Off G R') : Same (fun s => F s ∨ G s) (Un R S) (Un R' S') := by
  intro E hE a b ha hb
  have e1 := h (Un E S) ((hE.less fun s f => .inl f).un h1) a b (fun f => ha (.inl f)) (fun f => hb (.inl f))
  have e2 := k (Un E R') ((hE.less fun s f => .inr f).un h2) a b (fun f => ha (.inr f)) (fun f => hb (.inr f))
  rw [Pa.congr (un_swap E R S), e1, Pa.congr (un_assoc E R' S'), ← e2]
  exact Pa.congr fun a b => ⟨fun h => h.elim (fun h => h.elim (fun h => .inl (.inl h)) fun h => .inr h) fun h => .inl (.inr h), fun h => h.elim (fun h => h.elim (fun h => .inl (.inl h)) fun h => .inr h) fun h => .inl (.inr h)⟩
inductive Star (T : Nat → Nat → Prop) : Nat → Nat → Prop
  | refl (i : Nat) : Star T i i
  | step {i j k : Nat} : T i j → Star T j k → Star T i k
/-- a state that nothing else touches is passed over -/
theorem elim (m : Nat) (I : Cf → Nat → Prop) (T : Nat → Nat → Prop) (O : Nat → Cf → Prop) (hI : ∀ a i, I a i → a.1 ≠ m) (hO : ∀ j b, O j b → b.1 ≠ m) :
    Same (fun s => s = m) (fun a b => (b.1 = m ∧ I a b.2) ∨ (a.1 = m ∧ b.1 = m ∧ T a.2 b.2) ∨ (a.1 = m ∧ O a.2 b)) (fun a b => ∃ i j, I a i ∧ Star T i j ∧ O j b) := by
  intro E hE a b ha hb
  constructor
  · intro h
    have key : ∀ (a : Cf) (b : Cf), b.1 ≠ m → Pa (Un E (fun a b => (b.1 = m ∧ I a b.2) ∨ (a.1 = m ∧ b.1 = m ∧ T a.2 b.2) ∨ (a.1 = m ∧ O a.2 b))) a b →
        (a.1 ≠ m → Pa (Un E (fun a b => ∃ i j, I a i ∧ Star T i j ∧ O j b)) a b) ∧ (a.1 = m → ∃ j c, Star T a.2 j ∧ O j c ∧ Pa (Un E (fun a b => ∃ i j, I a i ∧ Star T i j ∧ O j b)) c b) := by
      intro a b hb h
      induction h with
      | refl => exact ⟨fun _ => .refl _, fun e => absurd e hb⟩
      | step r _ ih =>
        have ih := ih hb
        rcases r with r | ⟨e, r⟩ | ⟨e1, e2, r⟩ | ⟨e, r⟩
        · have ho := hE _ _ r
          exact ⟨fun _ => .step (.inl r) (ih.1 ho.2), fun e => absurd e ho.1⟩
        · obtain ⟨j, c, h1, h2, h3⟩ := ih.2 e
          exact ⟨fun _ => .step (.inr ⟨_, _, r, h1, h2⟩) h3, fun e => absurd e (hI _ _ r)⟩
        · obtain ⟨j, c, h1, h2, h3⟩ := ih.2 e2
          exact ⟨fun ne => absurd e1 ne, fun _ => ⟨j, c, .step r h1, h2, h3⟩⟩
        · exact ⟨fun ne => absurd e ne, fun _ => ⟨_, _, .refl _, r, ih.1 (hO _ _ r)⟩⟩
    exact (key a b hb h).1 ha
  · refine Pa.flat ?_
    rintro a b (r | ⟨i, j, h1, h2, h3⟩)
    · exact .one (.inl r)
    · have mid : Pa (Un E (fun a b => (b.1 = m ∧ I a b.2) ∨ (a.1 = m ∧ b.1 = m ∧ T a.2 b.2) ∨ (a.1 = m ∧ O a.2 b))) (m, i) (m, j) := by
        clear h1 h3
        induction h2 with
        | refl => exact .refl _
        | step t _ ih => exact .step (.inr (.inr (.inl ⟨rfl, rfl, t⟩))) ih
      exact .step (.inr (.inl ⟨rfl, h1⟩)) (mid.trans (.one (.inr (.inr (.inr ⟨rfl, h3⟩)))))
/-- an edge that takes a whole expression -/
def Mc (f t : Nat) (T : Nat → Nat → Prop) : Rl := fun a b => a.1 = f ∧ b.1 = t ∧ T a.2 b.2
def Sq (T U : Nat → Nat → Prop) (i j : Nat) : Prop := ∃ k, T i k ∧ U k j
def Or2 (T U : Nat → Nat → Prop) (i j : Nat) : Prop := T i j ∨ U i j
theorem mc_or (f t : Nat) (T U : Nat → Nat → Prop) (a b : Cf) : Un (Mc f t T) (Mc f t U) a b ↔ Mc f t (Or2 T U) a b := by
  unfold Un Mc Or2
  constructor
  · rintro (⟨h1, h2, h3⟩ | ⟨h1, h2, h3⟩)
    · exact ⟨h1, h2, .inl h3⟩
    · exact ⟨h1, h2, .inr h3⟩
  · rintro ⟨h1, h2, h3 | h3⟩
    · exact .inl ⟨h1, h2, h3⟩
    · exact .inr ⟨h1, h2, h3⟩
/-- one behind the other, over a state of their own -/
theorem mc_seq (f m t : Nat) (T U : Nat → Nat → Prop) (hf : f ≠ m) (ht : t ≠ m) : Same (fun s => s = m) (Un (Mc f m T) (Mc m t U)) (Mc f t (Sq T U)) := by
  have h := elim m (fun a i => a.1 = f ∧ T a.2 i) (fun _ _ => False) (fun j b => b.1 = t ∧ U j b.2) (fun a i h => by rw [h.1]; exact hf) (fun j b h => by rw [h.1]; exact ht)
  refine ((Same.of fun a b => ?_).trans h).trans (Same.of fun a b => ?_)
  · unfold Un Mc
    constructor
    · rintro (⟨h1, h2, h3⟩ | ⟨h1, h2, h3⟩)
      · exact .inl ⟨h2, h1, h3⟩
      · exact .inr (.inr ⟨h1, h2, h3⟩)
    · rintro (⟨h1, h2, h3⟩ | ⟨_, _, h⟩ | ⟨h1, h2, h3⟩)
      · exact .inl ⟨h2, h1, h3⟩
      · exact h.elim
      · exact .inr ⟨h1, h2, h3⟩
  · unfold Mc Sq
    constructor
    · rintro ⟨i, j, ⟨h1, h2⟩, h3, h4, h5⟩
      have : i = j := by
        cases h3 with
        | refl => rfl
        | step x _ => exact x.elim
      subst this
      exact ⟨h1, h4, i, h2, h5⟩
    · rintro ⟨h1, h2, k, h3, h4⟩
      exact ⟨k, k, ⟨h1, h3⟩, .refl _, h2, h4⟩
/-- again and again, over a state of their own -/
theorem mc_star (f m t : Nat) (A T U : Nat → Nat → Prop) (hf : f ≠ m) (ht : t ≠ m) : Same (fun s => s = m) (Un (Mc f m A) (Un (Mc m m T) (Mc m t U))) (Mc f t (Sq A (Sq (Star T) U))) := by
  have h := elim m (fun a i => a.1 = f ∧ A a.2 i) T (fun j b => b.1 = t ∧ U j b.2) (fun a i h => by rw [h.1]; exact hf) (fun j b h => by rw [h.1]; exact ht)
  refine ((Same.of fun a b => ?_).trans h).trans (Same.of fun a b => ?_)
  · unfold Un Mc
    constructor
    · rintro (⟨h1, h2, h3⟩ | ⟨h1, h2, h3⟩ | ⟨h1, h2, h3⟩)
      · exact .inl ⟨h2, h1, h3⟩
      · exact .inr (.inl ⟨h1, h2, h3⟩)
      · exact .inr (.inr ⟨h1, h2, h3⟩)
    · rintro (⟨h1, h2, h3⟩ | ⟨h1, h2, h3⟩ | ⟨h1, h2, h3⟩)
      · exact .inl ⟨h2, h1, h3⟩
      · exact .inr (.inl ⟨h1, h2, h3⟩)
      · exact .inr (.inr ⟨h1, h2, h3⟩)
  · unfold Mc Sq
    constructor
    · rintro ⟨i, j, ⟨h1, h2⟩, h3, h4, h5⟩
      exact ⟨h1, h4, i, h2, j, h3, h5⟩
    · rintro ⟨h1, h2, k, h3, j, h4, h5⟩
      exact ⟨k, j, ⟨h1, h3⟩, h4, h2, h5⟩
/-- there, and from there back or on, over a state of their own -/
theorem mc_fork (c d t : Nat) (T : Nat → Nat → Prop) (hc : c ≠ d) (ht : t ≠ d) : Same (fun s => s = d) (Un (Mc c d T) (Un (Mc d c Eq) (Mc d t Eq))) (Un (Mc c c T) (Mc c t T)) := by
  have h := elim d (fun a i => a.1 = c ∧ T a.2 i) (fun _ _ => False) (fun j b => (b.1 = c ∨ b.1 = t) ∧ j = b.2) (fun a i h => by rw [h.1]; exact hc) (fun j b h => by rcases h.1 with e | e <;> rw [e] <;> assumption)
  refine ((Same.of fun a b => ?_).trans h).trans (Same.of fun a b => ?_)
  · unfold Un Mc
    constructor
    · rintro (⟨h1, h2, h3⟩ | ⟨h1, h2, h3⟩ | ⟨h1, h2, h3⟩)
      · exact .inl ⟨h2, h1, h3⟩
      · exact .inr (.inr ⟨h1, .inl h2, h3⟩)
      · exact .inr (.inr ⟨h1, .inr h2, h3⟩)
    · rintro (⟨h1, h2, h3⟩ | ⟨_, _, h⟩ | ⟨h1, h2 | h2, h3⟩)
      · exact .inl ⟨h2, h1, h3⟩
      · exact h.elim
      · exact .inr (.inl ⟨h1, h2, h3⟩)
      · exact .inr (.inr ⟨h1, h2, h3⟩)
  · unfold Un Mc
    constructor
    · rintro ⟨i, j, ⟨h1, h2⟩, h3, h4, h5⟩
      have : i = j := by
        cases h3 with
        | refl => rfl
        | step x _ => exact x.elim
      subst this
      rw [h5] at h2
      exact h4.elim (fun e => .inl ⟨h1, e, h2⟩) (fun e => .inr ⟨h1, e, h2⟩)
    · rintro (⟨h1, h2, h3⟩ | ⟨h1, h2, h3⟩)
      · exact ⟨_, _, ⟨h1, h3⟩, .refl _, .inl h2, rfl⟩
      · exact ⟨_, _, ⟨h1, h3⟩, .refl _, .inr h2, rfl⟩
end Go.Proofs.Ytkdkibnjfgcppaa.nb

namespace Go.Proofs.Ytkdkibnjfgcppaa.nf
set_option linter.unusedVariables false

inductive Reach (x : Nfa) (P : Int → Prop) : Int → Prop
  | base {t : Int} : P t → Reach x P t
  | step {e : Ed} : Reach x P e.fr → e ∈ x.edges → e.free = true → Reach x P e.to
theorem Reach.mono {x : Nfa} {P Q : Int → Prop} (h : ∀ t, P t → Q t) {t : Int} (r : Reach x P t) : Reach x Q t := by
  induction r with
  | base h1 => exact .base (h _ h1)
  | step _ h1 h2 ih => exact .step ih h1 h2
theorem Reach.least {x : Nfa} {P Q : Int → Prop} (h : ∀ t, P t → Q t) (hc : ∀ e ∈ x.edges, e.free = true → Q e.fr → Q e.to) {t : Int} (r : Reach x P t) : Q t := by
  induction r with
  | base h1 => exact h _ h1
  | step _ h1 h2 ih => exact hc _ h1 h2 ih
theorem Reach.twice {x : Nfa} {P : Int → Prop} {t : Int} (r : Reach x (Reach x P) t) : Reach x P t := r.least (fun _ h => h) (fun e h1 h2 h3 => .step h3 h1 h2)

/-- the last place below i at which an edge goes from s; -1 if there is none -/
def before (l : List Ed) : Nat → Int → Int
  | 0, _ => -1
  | i + 1, s => if (l[i]?.map (·.fr)) = some s then (i : Int) else before l i s
/-- the edges below i that go from s, the last one first -/
def chainOf (l : List Ed) : Nat → Int → List Ed
  | 0, _ => []
  | i + 1, s => match l[i]? with
    | some e => if e.fr = s then e :: chainOf l i s else chainOf l i s
    | none => chainOf l i s
theorem before_lt (l : List Ed) (s : Int) : ∀ i, -1 ≤ before l i s ∧ before l i s < (i : Int) ∨ i = 0 ∧ before l i s = -1
  | 0 => .inr ⟨rfl, rfl⟩
  | i + 1 => .inl (by
    unfold before
    split
    · omega
    · rcases before_lt l s i with h | h <;> omega)
theorem before_range (l : List Ed) (s : Int) (i : Nat) : -1 ≤ before l i s ∧ before l i s < (i : Int) ∨ before l i s = -1 := by
  rcases before_lt l s i with h | h
  · exact .inl h
  · exact .inr h.2
theorem chain_none (l : List Ed) (s : Int) : ∀ i, before l i s = -1 → chainOf l i s = []
  | 0, _ => rfl
  | i + 1, h => by
    unfold before at h
    unfold chainOf
    split at h
    · omega
    · rename_i hne
      split
      · rename_i e he
        rw [he] at hne
        simp at hne
        rw [if_neg hne]
        exact chain_none l s i h
      · exact chain_none l s i h
theorem chain_succ (l : List Ed) (s : Int) (i : Nat) (h : i < l.length) : chainOf l (i + 1) s = if l[i].fr = s then l[i] :: chainOf l i s else chainOf l i s := by
  show (match l[i]? with | some e => if e.fr = s then e :: chainOf l i s else chainOf l i s | none => chainOf l i s) = _
  rw [List.getElem?_eq_getElem h]
theorem chain_some (l : List Ed) (s : Int) (j : Nat) : ∀ i, i ≤ l.length → before l i s = (j : Int) → ∃ h : j < l.length, j < i ∧ l[j].fr = s ∧ chainOf l i s = l[j] :: chainOf l j s
  | 0, _, h => by simp [before] at h
  | i + 1, hi, h => by
    unfold before at h
    rw [chain_succ l s i (by omega)]
    rw [List.getElem?_eq_getElem (by omega)] at h
    simp only [Option.map_some, Option.some.injEq] at h
    split at h
    · rename_i he
      have e : i = j := by omega
      subst e
      exact ⟨by omega, by omega, he, by rw [if_pos he]⟩
    · rename_i he
      obtain ⟨h1, h2, h3, h4⟩ := chain_some l s j i (by omega) h
      exact ⟨h1, by omega, h3, by rw [if_neg he]; exact h4⟩
theorem mem_chain (l : List Ed) (s : Int) (e : Ed) : ∀ i, i ≤ l.length → (e ∈ chainOf l i s ↔ e ∈ l.take i ∧ e.fr = s)
  | 0, _ => by simp [chainOf]
  | i + 1, hi => by
    unfold chainOf
    rw [List.take_succ_eq_append_getElem (by omega), List.getElem?_eq_getElem (by omega)]
    have ih := mem_chain l s e i (by omega)
    simp only [List.mem_append, List.mem_singleton]
    by_cases he : l[i].fr = s
    · rw [if_pos he, List.mem_cons, ih]
      constructor
      · rintro (rfl | h)
        · exact ⟨.inr rfl, he⟩
        · exact ⟨.inl h.1, h.2⟩
      · rintro ⟨h | h, h2⟩
        · exact .inr ⟨h, h2⟩
        · exact .inl h
    · rw [if_neg he, ih]
      constructor
      · rintro ⟨h, h2⟩
        exact ⟨.inl h, h2⟩
      · rintro ⟨h | h, h2⟩
        · exact ⟨h, h2⟩
        · subst h; exact absurd h2 he
theorem mem_chain_all (l : List Ed) (s : Int) (e : Ed) : e ∈ chainOf l l.length s ↔ e ∈ l ∧ e.fr = s := by
  rw [mem_chain l s e l.length (Nat.le_refl _), List.take_length]
theorem chain_len (l : List Ed) (s : Int) : ∀ i, (chainOf l i s).length ≤ i
  | 0 => by simp [chainOf]
  | i + 1 => by
    unfold chainOf
    have := chain_len l s i
    split
    · split
      · simp; omega
      · omega
    · omega
theorem before_other (l : List Ed) (i : Nat) (s : Int) (h : i < l.length) (he : l[i].fr ≠ s) : before l (i + 1) s = before l i s := by
  show (if (l[i]?.map (·.fr)) = some s then (i : Int) else before l i s) = _
  rw [List.getElem?_eq_getElem h, if_neg (by simpa using he)]
theorem before_here (l : List Ed) (i : Nat) (h : i < l.length) : before l (i + 1) l[i].fr = (i : Int) := by
  show (if (l[i]?.map (·.fr)) = some l[i].fr then (i : Int) else before l i l[i].fr) = _
  rw [List.getElem?_eq_getElem h, if_pos (by simp)]
end Go.Proofs.Ytkdkibnjfgcppaa.nf

namespace Go.Proofs.Ytkdkibnjfgcppaa.nf
open Go.ChangeShapes Go.WideShapes Go.ChangeAt Go.RowKit
set_option linter.unusedVariables false

/-- an nfa in a cell of its own -/
def Box (w : World) (g : Nat) (n s e : Int) (o : Option Addr) (m cap : Nat) : Prop := w.heap[g]? = some (.cells #[.int .i64 n, .int .i64 s, .int .i64 e, .slice o m cap] 52 (0, 0))
section
variable {w w' : World} {g : Nat} {n s e : Int} {o : Option Addr} {m cap : Nat}
theorem Box.lt (h : Box w g n s e o m cap) : g < w.heap.size := (Array.getElem?_eq_some_iff.1 h).1
theorem Box.c0 (h : Box w g n s e o m cap) : w.cell? ⟨g, 0, none⟩ = some (.int .i64 n) := by rw [Lib.cell_of_heap h]; rfl
theorem Box.c1 (h : Box w g n s e o m cap) : w.cell? ⟨g, 1, none⟩ = some (.int .i64 s) := by rw [Lib.cell_of_heap h]; rfl
theorem Box.c2 (h : Box w g n s e o m cap) : w.cell? ⟨g, 2, none⟩ = some (.int .i64 e) := by rw [Lib.cell_of_heap h]; rfl
theorem Box.c3 (h : Box w g n s e o m cap) : w.cell? ⟨g, 3, none⟩ = some (.slice o m cap) := by rw [Lib.cell_of_heap h]; rfl
theorem Box.later (h : Box w g n s e o m cap) (b : Below w.heap.size w w') : Box w' g n s e o m cap := by unfold Box; rw [b.block g h.lt]; exact h
end
theorem box_new (w : World) (n s e : Int) (o : Option Addr) (m cap : Nat) : Box (w.alloc (.cells #[.int .i64 n, .int .i64 s, .int .i64 e, .slice o m cap] 52)) w.heap.size n s e o m cap := heap_alloc_new w _

def RtIs (f : Nat) (x : Nfa) (r : Bool) : Prop := ∀ o cap w, Eds w o cap x.edges → Calls Try.prog f #[nfaV x.n x.s x.e o x.edges.length cap] w fun e w' => e = .returned (.bool r) ∧ Below w.heap.size w w'
abbrev StAt (n i : Int) (r : Bool) : Prop := ∀ s e o m cap w, Calls Try.prog 52 #[nfaV n s e o m cap, .int .i64 i] w fun x w' => x = .returned (.bool r) ∧ Below w.heap.size w w'

set_option maxHeartbeats 1000000 in
theorem right_n (x : Nfa) (h : ¬ (1 ≤ x.n ∧ x.n ≤ 2000)) : RtIs 33 x false := by
  intro o cap w hE
  by_cases h1 : x.n < 1
  · have f1 : decide (x.n < 1) = true := decide_eq_true h1
    clear h h1 hE
    go_enter Try.func33, Try.ntmps33
    go_wp2
    go_ret
    exact ⟨rfl, below_alloc _ _⟩
  · have f1 : decide (x.n < 1) = false := decide_eq_false h1
    have f2 : decide (2000 < x.n) = true := decide_eq_true (by omega)
    clear h h1 hE
    go_enter Try.func33, Try.ntmps33
    go_wp2
    go_ret
    exact ⟨rfl, below_alloc _ _⟩
set_option maxHeartbeats 1000000 in
theorem right_many (x : Nfa) (h1 : 1 ≤ x.n) (h2 : x.n ≤ 2000) (h : 16000 < x.edges.length) : RtIs 33 x false := by
  intro o cap w hE
  have f1 : decide (x.n < 1) = false := decide_eq_false (by omega)
  have f2 : decide (2000 < x.n) = false := decide_eq_false (by omega)
  have f3 : decide (16000 < x.edges.length) = true := decide_eq_true h
  generalize x.edges.length = m at *
  clear h1 h2 hE
  go_enter Try.func33, Try.ntmps33
  go_wp2
  go_ret
  exact ⟨rfl, below_alloc _ _⟩
set_option maxHeartbeats 1000000 in
theorem right_ends (x : Nfa) (h1 : 1 ≤ x.n) (h2 : x.n ≤ 2000) (h : x.edges.length ≤ 16000) (hs : (isSt x.n x.s && isSt x.n x.e) = false) : RtIs 33 x false := by
  intro o cap w hE
  have f1 : decide (x.n < 1) = false := decide_eq_false (by omega)
  have f2 : decide (2000 < x.n) = false := decide_eq_false (by omega)
  have f3 : decide (16000 < x.edges.length) = false := decide_eq_false (by omega)
  have q1 := st_any x.n x.s _ rfl
  have q2 := st_any x.n x.e _ rfl
  generalize x.edges.length = m at *
  have b0 := box_new w x.n x.s x.e o m cap
  unfold StIs at q1 q2
  clear h1 h2 hE
  cases c1 : isSt x.n x.s with
  | false =>
    rw [c1] at q1
    go_enter Try.func33, Try.ntmps33
    go_wp2_with (go_at_call 52; (with_reducible refine (q1 _ _ _ _ _ _).mono ?_); rintro e w1 ⟨rfl, b1⟩)
    go_ret
    exact ⟨rfl, chain (below_alloc _ _) b1⟩
  | true =>
    have c2 : isSt x.n x.e = false := by rw [c1, Bool.true_and] at hs; exact hs
    rw [c1] at q1
    rw [c2] at q2
    go_enter Try.func33, Try.ntmps33
    go_wp2_with (first | (go_at_call 52; (with_reducible refine (q1 _ _ _ _ _ _).mono ?_); rintro e w1 ⟨rfl, b1⟩; have k1 := b0.later b1; have d0 := k1.c0; have d1 := k1.c1; have d2 := k1.c2; have d3 := k1.c3) | (go_at_call 52; (with_reducible refine (q2 _ _ _ _ _ _).mono ?_); rintro e w2 ⟨rfl, b2⟩))
    go_ret
    exact ⟨rfl, chain (chain (below_alloc _ _) b1) b2⟩
theorem all_take (p : Ed → Bool) (l : List Ed) (i : Nat) (h : i < l.length) : (l.take (i + 1)).all p = ((l.take i).all p && p l[i]) := by
  rw [List.take_add_one, List.getElem?_eq_getElem h, List.all_append]
  simp only [Option.toList_some, List.all_cons, List.all_nil, Bool.and_true]
theorem all_no (p : Ed → Bool) (l : List Ed) (i : Nat) (h : i < l.length) (hp : p l[i] = false) : l.all p = false := by
  rw [List.all_eq_false]
  exact ⟨l[i], List.getElem_mem h, by simp [hp]⟩
set_option maxHeartbeats 2000000 in
set_option maxRecDepth 100000 in
theorem right_loop (x : Nfa) (h1 : 1 ≤ x.n) (h2 : x.n ≤ 2000) (h : x.edges.length ≤ 16000) (hs : isSt x.n x.s = true) (he : isSt x.n x.e = true) (r : Bool) (hr : r = x.edges.all (edOk x.n)) : RtIs 33 x r := by
  intro o cap w hE
  have f1 : decide (x.n < 1) = false := decide_eq_false (by omega)
  have f2 : decide (2000 < x.n) = false := decide_eq_false (by omega)
  have f3 : decide (16000 < x.edges.length) = false := decide_eq_false (by omega)
  have q1 := st_any x.n x.s _ hs.symm
  have q2 := st_any x.n x.e _ he.symm
  have hcap := hE.fit
  have htop := hE.top
  have b0 := box_new w x.n x.s x.e o x.edges.length cap
  have HR : Hid (r = x.edges.all (edOk x.n)) := hr
  have HE := (show Hid (Eds w o cap x.edges) from hE)
  unfold StIs at q1 q2
  clear h1 h2 hE hr
  generalize x.edges = l at *
  go_enter Try.func33, Try.ntmps33
  go_wp2_with (first | (go_at_call 52; (with_reducible refine (q1 _ _ _ _ _ _).mono ?_); rintro e w1 ⟨rfl, b1⟩; have k1 := b0.later b1; have d0 := k1.c0; have d1 := k1.c1; have d2 := k1.c2; have d3 := k1.c3) | (go_at_call 52; (with_reducible refine (q2 _ _ _ _ _ _).mono ?_); rintro e w2 ⟨rfl, b2⟩; have k2 := k1.later b2; have e3 := k2.c3))
  have B2 := chain (chain (below_alloc w (.cells #[.int .i64 x.n, .int .i64 x.s, .int .i64 x.e, .slice o l.length cap] 52)) b1) b2
  go_loopw [34] (fun y wr => ∃ i : Nat, y = .int .i64 i ∧ i ≤ l.length ∧ Box wr w.heap.size x.n x.s x.e o l.length cap ∧ Below w.heap.size w wr ∧ Hid ((l.take i).all (edOk x.n) = true)) (fun y _ => l.length - (intOf y).toNat)
  case atStart => exact ⟨0, rfl, by omega, k2, B2, by show _ = _; simp⟩
  case round =>
    clear q1 q2 b0 b1 b2 k1 k2 d0 d1 d2 d3 e3 B2
    obtain ⟨i, rfl, hil, bx, hB, HI⟩ := hrel
    by_cases hend : i < l.length
    · obtain ⟨b, off, rfl, hb, hed⟩ := HE.out.lie i hend
      have hed2 := hed.same (hB.block b hb)
      obtain ⟨c0, c1, c2, c3, c4, c5, c6⟩ := hed2
      have p1 := st_any x.n l[i].fr _ rfl
      have p2 := st_any x.n l[i].to _ rfl
      have hall := all_take (edOk x.n) l i hend
      have hno := all_no (edOk x.n) l i hend
      unfold edOk at hno
      have hok : edOk x.n l[i] = (isSt x.n l[i].fr && isSt x.n l[i].to) := rfl
      rw [hok, HI.out, Bool.true_and] at hall
      clear hok hed
      obtain ⟨y, hy⟩ : ∃ y, y = l[i] := ⟨_, rfl⟩
      rw [← hy] at c0 c1 c2 c3 c4 c5 c6 p1 p2 hall hno
      clear hy
      have x0 := (bx.later (below_alloc wr (.cells #[.int .i64 y.fr, .int .i64 y.to, .bool y.free, .int .u64 y.a, .int .u64 y.b, .int .u64 y.c, .int .u64 y.d] 105)))
      have d0 := x0.c0
      have d1 := x0.c1
      have d2 := x0.c2
      have d3 := x0.c3
      unfold StIs at p1 p2
      cases r1 : isSt x.n y.fr with
      | false =>
        rw [r1] at p1 hno
        have HF : Hid (r = false) := by show _ = _; rw [HR.out]; exact hno rfl
        clear hno hall HI
        go_wp2_with (go_at_call 52; (with_reducible refine (p1 _ _ _ _ _ _).mono ?_); rintro e w1 ⟨rfl, b1⟩)
        go_ret
        exact ⟨by rw [HF.out]; rfl, chain (chain hB (below_alloc _ _)) b1⟩
      | true =>
        rw [r1] at p1 hno hall
        have yb : (wr.alloc (.cells #[.int .i64 y.fr, .int .i64 y.to, .bool y.free, .int .u64 y.a, .int .u64 y.b, .int .u64 y.c, .int .u64 y.d] 105)).heap[wr.heap.size]? = some (.cells #[.int .i64 y.fr, .int .i64 y.to, .bool y.free, .int .u64 y.a, .int .u64 y.b, .int .u64 y.c, .int .u64 y.d] 105) := heap_alloc_new wr _
        have ylt := (Array.getElem?_eq_some_iff.1 yb).1
        cases r2 : isSt x.n y.to with
        | false =>
          rw [r2] at p2 hno
          have HF : Hid (r = false) := by show _ = _; rw [HR.out]; exact hno rfl
          clear hno hall HI
          go_wp2_with (first | (go_at_call 52; (with_reducible refine (p1 _ _ _ _ _ _).mono ?_); rintro e w1 ⟨rfl, b1⟩; have k1 := x0.later b1; have j0 := k1.c0; have j1 := k1.c1; have j2 := k1.c2; have j3 := k1.c3; have y1 : w1.cell? ⟨wr.heap.size, 1, none⟩ = some (.int .i64 y.to) := by rw [Lib.cell_of_heap ((b1.block _ ylt).trans yb)]; rfl) | (go_at_call 52; (with_reducible refine (p2 _ _ _ _ _ _).mono ?_); rintro e w2 ⟨rfl, b2⟩))
          go_ret
          exact ⟨by rw [HF.out]; rfl, chain (chain (chain hB (below_alloc _ _)) b1) b2⟩
        | true =>
          rw [r2] at p2 hall
          have HN : Hid ((l.take (i + 1)).all (edOk x.n) = true) := hall
          clear hno hall HI
          go_wp2_with (first | (go_at_call 52; (with_reducible refine (p1 _ _ _ _ _ _).mono ?_); rintro e w1 ⟨rfl, b1⟩; have k1 := x0.later b1; have j0 := k1.c0; have j1 := k1.c1; have j2 := k1.c2; have j3 := k1.c3; have y1 : w1.cell? ⟨wr.heap.size, 1, none⟩ = some (.int .i64 y.to) := by rw [Lib.cell_of_heap ((b1.block _ ylt).trans yb)]; rfl) | (go_at_call 52; (with_reducible refine (p2 _ _ _ _ _ _).mono ?_); rintro e w2 ⟨rfl, b2⟩))
          go_roundw
          case rel => exact ⟨i + 1, by go_num, by omega, k1.later b2, chain (chain (chain hB (below_alloc _ _)) b1) b2, HN⟩
          case measure => simp [intOf]; omega
    · have HF : Hid (r = true) := by
        show _ = _
        have := HI.out
        rw [List.take_of_length_le (by omega)] at this
        rw [HR.out, this]
      clear HI HR HE
      go_wp2
      go_ret
      exact ⟨by rw [HF.out]; rfl, hB⟩
theorem right_any (x : Nfa) (r : Bool) (hr : r = right x) : RtIs 33 x r := by
  subst hr
  unfold right
  by_cases h1 : 1 ≤ x.n ∧ x.n ≤ 2000
  · rw [decide_eq_true h1.1, decide_eq_true h1.2]
    by_cases h2 : x.edges.length ≤ 16000
    · rw [decide_eq_true h2]
      cases hs : isSt x.n x.s with
      | false => simpa using right_ends x h1.1 h1.2 h2 (by rw [hs]; rfl)
      | true =>
        cases he : isSt x.n x.e with
        | false => simpa using right_ends x h1.1 h1.2 h2 (by rw [hs, he]; rfl)
        | true => exact right_loop x h1.1 h1.2 h2 hs he _ (by simp)
    · rw [decide_eq_false h2]
      simpa using right_many x h1.1 h1.2 (by omega)
  · have e : (decide (1 ≤ x.n) && decide (x.n ≤ 2000)) = false := by
      rw [Bool.and_eq_false_iff]
      by_cases h : 1 ≤ x.n
      · right; exact decide_eq_false (fun h2 => h1 ⟨h, h2⟩)
      · left; exact decide_eq_false h
    rw [e]
    simpa using right_n x h1
end Go.Proofs.Ytkdkibnjfgcppaa.nf

namespace Go.Proofs.Ytkdkibnjfgcppaa.nf
open Go.ChangeShapes Go.WideShapes Go.ChangeAt Go.RowKit
set_option linter.unusedVariables false

end Go.Proofs.Ytkdkibnjfgcppaa.nf

namespace Go.Proofs.Ytkdkibnjfgcppaa.nf
open Go.ChangeShapes Go.WideShapes Go.ChangeAt Go.RowKit
set_option linter.unusedVariables false

def icells (l : List Int) : Array Value := (l.map fun x => Value.int .i64 x).toArray
def IRow (w : World) (g : Nat) (l : List Int) : Prop := w.heap[g]? = some (.cells (icells l) 3 (0, 0))
theorem set_heap (w : World) (g : Nat) (cs : Array Value) (T : TypeId) (i : Nat) (x : Value) (h : w.heap[g]? = some (.cells cs T (0, 0))) : (w.setCell ⟨g, i, none⟩ x).heap[g]? = some (.cells (cs.setIfInBounds i x) T (0, 0)) := by
  show (w.heap.modify g _)[g]? = _
  rw [Array.getElem?_modify, if_pos rfl, h]
  rfl
section
variable {w w' : World} {g : Nat} {l : List Int}
theorem IRow.lt (h : IRow w g l) : g < w.heap.size := (Array.getElem?_eq_some_iff.1 h).1
theorem IRow.later (h : IRow w g l) (b : Below w.heap.size w w') : IRow w' g l := by unfold IRow; rw [b.block g h.lt]; exact h
theorem IRow.keep (h : IRow w g l) (e : w'.heap[g]? = w.heap[g]?) : IRow w' g l := e.trans h
theorem IRow.cell (h : IRow w g l) (i : Nat) (hi : i < l.length) : w.cell? ⟨g, i, none⟩ = some (.int .i64 l[i]) := by
  rw [Lib.cell_of_heap h]
  simp [icells, hi]
theorem IRow.fz (h : IRow w g l) (i : Nat) : w.frozen? ⟨g, i, none⟩ = false := Lib.frozen_of_heap h i
theorem IRow.put (h : IRow w g l) (i : Nat) (x : Int) : IRow (w.setCell ⟨g, i, none⟩ (.int .i64 x)) g (l.set i x) := by
  unfold IRow
  rw [set_heap w g _ _ i _ h]
  congr 2
  simp [icells]
theorem IRow.other (h : IRow w g l) {k : Nat} (hne : g ≠ k) (i : Nat) (v : Value) : IRow (w.setCell ⟨k, i, none⟩ v) g l := (Below.heap_setCell _ _ _ g (fun e => hne e)).trans h
theorem IRow.alloc (h : IRow w g l) (o : Obj) : IRow (w.alloc o) g l := (Below.heap_alloc _ _ _ h.lt).trans h
end
theorem info3 : (Try.prog.info? 3).map (fun i => (i.zero, i.size, i.bytes)) = some (some (.int .i64 0), 1, 8) := by kernel_rfl
theorem icells_made (n : Nat) : madeCells #[.int .i64 0] n = icells (List.replicate n 0) := by
  apply Array.toList_inj.1
  rw [toList_madeCells_one]
  simp [icells]
theorem make39 (n : Nat) (hn : n ≤ 1000000) (W : World) : (Instr.makeSlice 39 (.int .i64 (n : Int)) (.int .i64 (n : Int))).run Try.prog W = .ok (.slice (some ⟨W.heap.size, 0, none⟩) n n) (W.alloc (.cells (icells (List.replicate n 0)) 3)) := by
  rw [← icells_made]
  exact run_make_row' (P := Try.prog) 39 3 (.int .i64 0) 8 Try.underlying39 info3 rfl .i64 .i64 n (by omega) (by omega) W
theorem irow_new (W : World) (l : List Int) : IRow (W.alloc (.cells (icells l) 3)) W.heap.size l := heap_alloc_new W _

theorem five (h : Array Obj) (a b c d e : Obj) : (((((h.push a).push b).push c).push d).push e)[h.size]? = some a ∧ (((((h.push a).push b).push c).push d).push e)[h.size + 1]? = some b ∧ (((((h.push a).push b).push c).push d).push e)[h.size + 1 + 1]? = some c ∧ (((((h.push a).push b).push c).push d).push e)[h.size + 1 + 1 + 1]? = some d ∧ (((((h.push a).push b).push c).push d).push e)[h.size + 1 + 1 + 1 + 1]? = some e := by
  refine ⟨?_, ?_, ?_, ?_, ?_⟩ <;> simp only [Array.getElem?_push, Array.size_push] <;> (repeat (first | rw [if_pos rfl] | rw [if_pos trivial] | rw [if_neg (by omega)]))
theorem below_five (w : World) (a b c d e : Obj) : Below w.heap.size w (((((w.alloc a).alloc b).alloc c).alloc d).alloc e).drew :=
  (((((((Below.refl _ w).alloc (Nat.le_refl _) _).alloc (by simp) _).alloc (by simp; omega) _).alloc (by simp; omega) _).alloc (by simp; omega) _)).drew
structure Wv (w : World) (x : Nfa) (n : Nat) (o : Option Addr) (cap gw fb nb : Nat) (F G : List Int) (W : World) : Prop where
  bx : Box W w.heap.size (n : Int) x.s x.e o x.edges.length cap
  rs : W.heap[w.heap.size + 1]? = some (.cells #[.slice none 0 0, .slice none 0 0, .slice none 0 0] 132 (0, 0))
  wb : W.heap[gw]? = some (.cells #[.slice o x.edges.length cap, .slice (some ⟨fb, 0, none⟩) n n, .slice (some ⟨nb, 0, none⟩) x.edges.length x.edges.length] 132 (0, 0))
  fr : IRow W fb F
  nr : IRow W nb G
  ne : fb ≠ nb
  lw : w.heap.size + 1 < gw
  lf : w.heap.size + 1 < fb
  ln : w.heap.size + 1 < nb
  wf : gw ≠ fb
  wn : gw ≠ nb
  be : Below w.heap.size w W
section
variable {w : World} {x : Nfa} {n : Nat} {o : Option Addr} {cap gw fb nb : Nat} {F G : List Int} {W : World}
theorem Wv.c0 (h : Wv w x n o cap gw fb nb F G W) : W.cell? ⟨gw, 0, none⟩ = some (.slice o x.edges.length cap) := by rw [Lib.cell_of_heap h.wb]; rfl
theorem Wv.c1 (h : Wv w x n o cap gw fb nb F G W) : W.cell? ⟨gw, 1, none⟩ = some (.slice (some ⟨fb, 0, none⟩) n n) := by rw [Lib.cell_of_heap h.wb]; rfl
theorem Wv.c2 (h : Wv w x n o cap gw fb nb F G W) : W.cell? ⟨gw, 2, none⟩ = some (.slice (some ⟨nb, 0, none⟩) x.edges.length x.edges.length) := by rw [Lib.cell_of_heap h.wb]; rfl
theorem Wv.alloc (h : Wv w x n o cap gw fb nb F G W) (ob : Obj) : Wv w x n o cap gw fb nb F G (W.alloc ob) :=
  ⟨h.bx.later (below_alloc _ _), (Below.heap_alloc _ _ _ (Array.getElem?_eq_some_iff.1 h.rs).1).trans h.rs, (Below.heap_alloc _ _ _ (Array.getElem?_eq_some_iff.1 h.wb).1).trans h.wb, h.fr.alloc _, h.nr.alloc _, h.ne, h.lw, h.lf, h.ln, h.wf, h.wn, h.be.alloc h.be.size _⟩
theorem Wv.drew (h : Wv w x n o cap gw fb nb F G W) : Wv w x n o cap gw fb nb F G W.drew := ⟨h.bx, h.rs, h.wb, h.fr, h.nr, h.ne, h.lw, h.lf, h.ln, h.wf, h.wn, h.be.drew⟩
theorem Wv.setF (h : Wv w x n o cap gw fb nb F G W) (i : Nat) (v : Int) : Wv w x n o cap gw fb nb (F.set i v) G (W.setCell ⟨fb, i, none⟩ (.int .i64 v)) :=
  ⟨(Below.heap_setCell _ _ _ _ (fun e => by have := h.lf; simp at e; omega)).trans h.bx, (Below.heap_setCell _ _ _ _ (fun e => by have := h.lf; simp at e; omega)).trans h.rs, (Below.heap_setCell _ _ _ _ (fun e => h.wf e)).trans h.wb, h.fr.put i v, h.nr.other h.ne.symm i _, h.ne, h.lw, h.lf, h.ln, h.wf, h.wn, h.be.setCell (p := ⟨fb, i, none⟩) (by have := h.lf; show w.heap.size ≤ fb; omega) _⟩
theorem Wv.setN (h : Wv w x n o cap gw fb nb F G W) (i : Nat) (v : Int) : Wv w x n o cap gw fb nb F (G.set i v) (W.setCell ⟨nb, i, none⟩ (.int .i64 v)) :=
  ⟨(Below.heap_setCell _ _ _ _ (fun e => by have := h.ln; simp at e; omega)).trans h.bx, (Below.heap_setCell _ _ _ _ (fun e => by have := h.ln; simp at e; omega)).trans h.rs, (Below.heap_setCell _ _ _ _ (fun e => h.wn e)).trans h.wb, h.fr.other h.ne i _, h.nr.put i v, h.ne, h.lw, h.lf, h.ln, h.wf, h.wn, h.be.setCell (p := ⟨nb, i, none⟩) (by have := h.ln; show w.heap.size ≤ nb; omega) _⟩
end
def f1 (n i : Nat) : List Int := List.replicate i (-1) ++ List.replicate (n - i) 0
theorem f1_len (n i : Nat) (h : i ≤ n) : (f1 n i).length = n := by unfold f1; simp; omega
theorem f1_set (n i : Nat) (h : i < n) : (f1 n i).set i (-1) = f1 n (i + 1) := by
  unfold f1
  rw [List.set_append_right _ _ (by simp)]
  simp only [List.length_replicate, Nat.sub_self]
  have e : n - i = (n - (i + 1)) + 1 := by omega
  rw [e, List.replicate_succ, List.set_cons_zero, List.replicate_succ' (n := i), List.append_assoc]
  rfl
def firsts (l : List Ed) (n i : Nat) : List Int := (List.range n).map fun s : Nat => before l i (s : Int)
def nexts (l : List Ed) (i : Nat) : List Int := (List.range l.length).map fun j => if j < i then before l j (l[j]?.map (·.fr) |>.getD 0) else 0
theorem firsts_zero (l : List Ed) (n : Nat) : f1 n n = firsts l n 0 := by
  unfold f1 firsts
  rw [Nat.sub_self, List.replicate_zero, List.append_nil]
  apply List.ext_getElem
  · simp
  · intro i h1 h2
    simp [before]
theorem nexts_zero (l : List Ed) : List.replicate l.length 0 = nexts l 0 := by
  unfold nexts
  apply List.ext_getElem
  · simp
  · intro i h1 h2
    simp
theorem firsts_len (l : List Ed) (n i : Nat) : (firsts l n i).length = n := by unfold firsts; simp
theorem nexts_len (l : List Ed) (i : Nat) : (nexts l i).length = l.length := by unfold nexts; simp
theorem firsts_set (l : List Ed) (n i k : Nat) (h : i < l.length) (hk : l[i].fr = (k : Int)) : (firsts l n i).set k (i : Int) = firsts l n (i + 1) := by
  unfold firsts
  apply List.ext_getElem
  · simp
  · intro j h1 h2
    rw [List.getElem_set]
    simp only [List.getElem_map, List.getElem_range]
    by_cases e : k = j
    · subst e
      rw [if_pos rfl, ← hk, before_here l i h]
    · rw [if_neg e, before_other l i _ h (by rw [hk]; omega)]
theorem nexts_set (l : List Ed) (i : Nat) (h : i < l.length) : (nexts l i).set i (before l i l[i].fr) = nexts l (i + 1) := by
  unfold nexts
  apply List.ext_getElem
  · simp
  · intro j h1 h2
    rw [List.getElem_set]
    simp only [List.getElem_map, List.getElem_range]
    by_cases e : i = j
    · subst e
      rw [if_pos rfl, if_pos (by omega), List.getElem?_eq_getElem h]
      rfl
    · rw [if_neg e]
      by_cases hj : j < i
      · rw [if_pos hj, if_pos (by omega)]
      · rw [if_neg hj, if_neg (by omega)]
theorem firsts_at (l : List Ed) (n i k : Nat) (h : k < n) : (firsts l n i)[k]'(by rw [firsts_len]; exact h) = before l i (k : Int) := by unfold firsts; simp

def WeaveIs (x : Nfa) (n : Nat) : Prop := ∀ o cap w, Eds w o cap x.edges → Calls Try.prog 74 #[nfaV x.n x.s x.e o x.edges.length cap] w fun e w' => ∃ fb nb, e = .returned (.agg #[.slice o x.edges.length cap, .slice (some ⟨fb, 0, none⟩) n n, .slice (some ⟨nb, 0, none⟩) x.edges.length x.edges.length]) ∧ IRow w' fb (firsts x.edges n x.edges.length) ∧ IRow w' nb (nexts x.edges x.edges.length) ∧ fb ≠ nb ∧ w.heap.size ≤ fb ∧ w.heap.size ≤ nb ∧ Below w.heap.size w w'
set_option maxHeartbeats 4000000 in
set_option maxRecDepth 100000 in
theorem weave_any (x : Nfa) (n : Nat) (hx : x.n = (n : Int)) (hn : n ≤ 2000) (hm : x.edges.length ≤ 16000) (hfr : ∀ i (h : i < x.edges.length), 0 ≤ x.edges[i].fr ∧ x.edges[i].fr < (n : Int)) : WeaveIs x n := by
  intro o cap w hE
  have mk1 := make39 n (by omega)
  have mk2 := make39 x.edges.length (by omega)
  have hcap := hE.fit
  have htop := hE.top
  have HE := (show Hid (Eds w o cap x.edges) from hE)
  have HFR := (show Hid (∀ i (h : i < x.edges.length), 0 ≤ x.edges[i].fr ∧ x.edges[i].fr < (n : Int)) from hfr)
  rw [hx]
  clear hE hx hfr
  go_enter Try.func74, Try.ntmps74
  go_wp2_with (fail)
  rename_i K hK
  have key : ∀ gw fb nb W, Wv w x n o cap gw fb nb (f1 n 0) (List.replicate x.edges.length 0) W → K { tmps := #[nfaV (n : Int) x.s x.e o x.edges.length cap, .pointer (some ⟨w.heap.size, 0, none⟩), .pointer (some ⟨w.heap.size + 1, 0, none⟩), .pointer (some ⟨gw, 0, none⟩), undef, undef, undef, .pointer (some ⟨w.heap.size, 3, none⟩), .slice o x.edges.length cap, .pointer (some ⟨w.heap.size, 0, none⟩), .int .i64 (n : Int), .slice (some ⟨fb, 0, none⟩) n n, .pointer (some ⟨w.heap.size, 3, none⟩), .slice o x.edges.length cap, .int .i64 (x.edges.length : Int), .slice (some ⟨nb, 0, none⟩) x.edges.length x.edges.length, .agg #[.slice o x.edges.length cap, .slice (some ⟨fb, 0, none⟩) n n, .slice (some ⟨nb, 0, none⟩) x.edges.length x.edges.length], undef, undef, undef, undef, undef, undef, undef, undef, undef, undef, undef, undef, undef, undef, undef, undef, undef, undef, undef, undef, undef, undef, undef, undef, undef, undef, undef, undef, undef, undef, undef, undef, undef, undef, undef, undef, undef], defers := [] } W := by
    intro gw fb nb W HW0
    refine hK _ _ ?_
    clear hK K mk1 mk2
    have HW := (show Hid (Wv w x n o cap gw fb nb (f1 n 0) (List.replicate x.edges.length 0) W) from HW0)
    have k1 := HW0.c1
    clear HW0
    go_wp2_with (fail)
    go_loopw [20] (fun y wr => ∃ i : Nat, y = .int .i64 i ∧ i ≤ n ∧ Hid (Wv w x n o cap gw fb nb (f1 n i) (List.replicate x.edges.length 0) wr)) (fun y _ => n - (intOf y).toNat)
    case atStart => exact ⟨0, rfl, by omega, HW⟩
    case round =>
      clear HW k1
      obtain ⟨i, rfl, hi, HI⟩ := hrel
      by_cases hlt : i < n
      · have k1 := HI.out.c1
        have hl : i < (f1 n i).length := by rw [f1_len n i hi]; exact hlt
        have k2 := HI.out.fr.cell i hl
        have k3 := HI.out.fr.fz i
        have HN : Hid (Wv w x n o cap gw fb nb (f1 n (i + 1)) (List.replicate x.edges.length 0) (wr.setCell ⟨fb, i, none⟩ (.int .i64 (-1)))) := by have := HI.out.setF i (-1); rw [f1_set n i hlt] at this; exact this
        clear HI
        generalize (f1 n i)[i] = z at *
        go_wp2_with (fail)
        go_roundw
        case rel => exact ⟨i + 1, by go_num, by omega, HN⟩
        case measure => simp [intOf]; omega
      · have HI2 : Hid (Wv w x n o cap gw fb nb (firsts x.edges n 0) (nexts x.edges 0) wr) := by
          have := HI.out
          have e : i = n := by omega
          rw [e, firsts_zero x.edges n, nexts_zero] at this
          exact this
        clear HI
        have k0 := HI2.out.bx.c3
        go_wp2_with (fail)
        go_loopw [31] (fun y wr => ∃ i : Nat, y = .int .i64 i ∧ i ≤ x.edges.length ∧ Hid (Wv w x n o cap gw fb nb (firsts x.edges n i) (nexts x.edges i) wr)) (fun y _ => x.edges.length - (intOf y).toNat)
        case atStart => exact ⟨0, rfl, by omega, HI2⟩
        case round =>
          clear HI2 k0
          obtain ⟨i, rfl, hi, HI⟩ := hrel
          by_cases hlt : i < x.edges.length
          · obtain ⟨b, off, rfl, hb, hed⟩ := HE.out.lie i hlt
            have hed2 := hed.same (HI.out.be.block b hb)
            obtain ⟨c0, c1, c2, c3, c4, c5, c6⟩ := hed2
            have hf := HFR.out i hlt
            have hset := fun k hk => firsts_set x.edges n i k hlt hk
            have nset := nexts_set x.edges i hlt
            obtain ⟨y, hy⟩ : ∃ y, y = x.edges[i] := ⟨_, rfl⟩
            rw [← hy] at c0 c1 c2 c3 c4 c5 c6 hf nset
            obtain ⟨k, hk⟩ : ∃ k : Nat, y.fr = (k : Int) := ⟨y.fr.toNat, by omega⟩
            have hkn : k < n := by omega
            have HS : Hid ((firsts x.edges n i).set k (i : Int) = firsts x.edges n (i + 1)) := hset k (by rw [← hy]; exact hk)
            rw [hk] at nset
            have HG : Hid ((nexts x.edges i).set i (before x.edges i (k : Int)) = nexts x.edges (i + 1)) := nset
            rw [hk] at c0
            have A := HI.out.alloc (.cells #[.int .i64 (k : Int), .int .i64 y.to, .bool y.free, .int .u64 y.a, .int .u64 y.b, .int .u64 y.c, .int .u64 y.d] 105)
            have z := firsts_at x.edges n i k hkn
            have q1 := A.fr.cell k (by rw [firsts_len]; exact hkn)
            rw [z] at q1
            have q0 := A.fr.fz k
            have q2 := A.nr.cell i (by rw [nexts_len]; exact hlt)
            have q3 := A.nr.fz i
            have q4 := A.c1
            have q5 := A.c2
            have A2 := A.setN i (before x.edges i (k : Int))
            have r1 := A2.c1
            have r2 := A2.fr.cell k (by rw [firsts_len]; exact hkn)
            have r3 := A2.fr.fz k
            have A3 := A2.setF k (i : Int)
            rw [HS.out, HG.out] at A3
            have HA3 := (show Hid _ from A3)
            have hgb : wr.heap.size ≠ nb := by have := HI.out.nr.lt; omega
            clear hset nset HI A A2 A3 HS HG hed hy z hk hf
            generalize (nexts x.edges i)[i]'_ = z1 at *
            generalize (firsts x.edges n i)[k]'_ = z2 at *
            generalize before x.edges i (k : Int) = bf at *
            go_wp2_with (fail)
            go_region
            all_goals go_wp2_with (fail)
            all_goals go_roundw
            case rel => exact ⟨i + 1, by go_num, by omega, HA3.out.drew⟩
            case measure => simp [intOf]; omega
          · have HF : Hid (Wv w x n o cap gw fb nb (firsts x.edges n x.edges.length) (nexts x.edges x.edges.length) wr) := by
              have e : i = x.edges.length := by omega
              rw [e] at HI
              exact HI
            have q0 := HF.out.c0
            have q1 := HF.out.c1
            have q2 := HF.out.c2
            have rs := HF.out.rs
            have t0 : wr.cell? ⟨w.heap.size + 1, 0, none⟩ = some (.slice none 0 0) := by rw [Lib.cell_of_heap rs]; rfl
            have t1 : wr.cell? ⟨w.heap.size + 1, 1, none⟩ = some (.slice none 0 0) := by rw [Lib.cell_of_heap rs]; rfl
            have t2 : wr.cell? ⟨w.heap.size + 1, 2, none⟩ = some (.slice none 0 0) := by rw [Lib.cell_of_heap rs]; rfl
            have f0 : ∀ k, wr.frozen? ⟨w.heap.size + 1, k, none⟩ = false := fun k => Lib.frozen_of_heap rs k
            clear HI rs
            go_wp2_with (fail)
            refine bodyPost_ret (v := .agg #[.slice o x.edges.length cap, .slice (some ⟨fb, 0, none⟩) n n, .slice (some ⟨nb, 0, none⟩) x.edges.length x.edges.length]) (results_cell_row Try.results74 _ _ (w.heap.size + 1) 132 _ (0, 0) _ rfl ((set_heap _ _ _ _ 2 _ (set_heap _ _ _ _ 1 _ (set_heap wr _ _ _ 0 _ HF.out.rs)))) Try.underlying132 rfl (by kernel_rfl)) rfl ?_
            exact ⟨fb, nb, rfl, ((HF.out.fr.other (fun e => by have := HF.out.lf; omega) _ _).other (fun e => by have := HF.out.lf; omega) _ _).other (fun e => by have := HF.out.lf; omega) _ _, ((HF.out.nr.other (fun e => by have := HF.out.ln; omega) _ _).other (fun e => by have := HF.out.ln; omega) _ _).other (fun e => by have := HF.out.ln; omega) _ _, HF.out.ne, by have := HF.out.lf; omega, by have := HF.out.ln; omega, ((HF.out.be.setCell (p := ⟨w.heap.size + 1, 0, none⟩) (by show w.heap.size ≤ w.heap.size + 1; omega) _).setCell (p := ⟨w.heap.size + 1, 1, none⟩) (by show w.heap.size ≤ w.heap.size + 1; omega) _).setCell (p := ⟨w.heap.size + 1, 2, none⟩) (by show w.heap.size ≤ w.heap.size + 1; omega) _⟩
  go_region
  all_goals (refine key _ _ _ _ (Wv.mk ?_ ?_ ?_ ?_ ?_ ?_ ?_ ?_ ?_ ?_ ?_ ?_))
  all_goals first | omega | exact below_five _ _ _ _ _ _ | exact (five w.heap _ _ _ _ _).1 | exact (five w.heap _ _ _ _ _).2.1 | exact (five w.heap _ _ _ _ _).2.2.1 | exact (five w.heap _ _ _ _ _).2.2.2.1 | exact (five w.heap _ _ _ _ _).2.2.2.2
end Go.Proofs.Ytkdkibnjfgcppaa.nf

namespace Go.Proofs.Ytkdkibnjfgcppaa.nf
open Go.RowKit Go.Shelf
set_option linter.unusedVariables false
attribute [local go_sem] Oper.semAt_some
open df (Kp)

abbrev edV (e : Ed) : Value := .agg #[.int .i64 e.fr, .int .i64 e.to, .bool e.free, .int .u64 e.a, .int .u64 e.b, .int .u64 e.c, .int .u64 e.d]
abbrev webV (o : Option Addr) (m cap n fb nb : Nat) : Value := .agg #[.slice o m cap, .slice (some ⟨fb, 0, none⟩) n n, .slice (some ⟨nb, 0, none⟩) m m]
/-- what the web leads to, in blocks of which P is said -/
structure WebAt (P : Nat → Prop) (W : World) (l : List Ed) (n : Nat) (o : Option Addr) (cap fb nb : Nat) : Prop where
  fit : l.length ≤ cap
  top : cap ≤ 9223372036854775807
  lie : ∀ i (h : i < l.length), ∃ b off, o = some ⟨b, off, none⟩ ∧ P b ∧ EdAt W b (off + i * 7) l[i]
  fr : IRow W fb (firsts l n l.length)
  nr : IRow W nb (nexts l l.length)
  pf : P fb
  pn : P nb
  lt : ∀ b, P b → b < W.heap.size
theorem WebAt.carry {P : Nat → Prop} {W W' : World} {l : List Ed} {n : Nat} {o : Option Addr} {cap fb nb : Nat} (h : WebAt P W l n o cap fb nb) (k : Kp P W W') : WebAt P W' l n o cap fb nb :=
  ⟨h.fit, h.top, fun i hi => by
    obtain ⟨b, off, e, hp, hc⟩ := h.lie i hi
    exact ⟨b, off, e, hp, hc.same (k.2 b hp)⟩, h.fr.keep (k.2 fb h.pf), h.nr.keep (k.2 nb h.pn), h.pf, h.pn, fun b hb => Nat.lt_of_lt_of_le (h.lt b hb) k.1⟩
def WBox (W : World) (g : Nat) (o : Option Addr) (m cap n fb nb : Nat) : Prop := W.heap[g]? = some (.cells #[.slice o m cap, .slice (some ⟨fb, 0, none⟩) n n, .slice (some ⟨nb, 0, none⟩) m m] 132 (0, 0))
section
variable {W W' : World} {g : Nat} {o : Option Addr} {m cap n fb nb : Nat}
theorem WBox.c0 (h : WBox W g o m cap n fb nb) : W.cell? ⟨g, 0, none⟩ = some (.slice o m cap) := by rw [Lib.cell_of_heap h]; rfl
theorem WBox.c1 (h : WBox W g o m cap n fb nb) : W.cell? ⟨g, 1, none⟩ = some (.slice (some ⟨fb, 0, none⟩) n n) := by rw [Lib.cell_of_heap h]; rfl
theorem WBox.c2 (h : WBox W g o m cap n fb nb) : W.cell? ⟨g, 2, none⟩ = some (.slice (some ⟨nb, 0, none⟩) m m) := by rw [Lib.cell_of_heap h]; rfl
theorem WBox.lt (h : WBox W g o m cap n fb nb) : g < W.heap.size := (Array.getElem?_eq_some_iff.1 h).1
end
set_option maxHeartbeats 1000000 in
theorem from_in (o : Option Addr) (m cap n fb nb : Nat) (s : Int) (w : World) :
    Calls Try.prog 84 #[webV o m cap n fb nb, .int .i64 s] w fun e w' => e = .returned (.func (.func 92) #[] #[.pointer (some ⟨w.heap.size, 0, none⟩), .pointer (some ⟨w.heap.size + 1, 0, none⟩)]) ∧
      w' = (w.alloc (.cells #[.slice o m cap, .slice (some ⟨fb, 0, none⟩) n n, .slice (some ⟨nb, 0, none⟩) m m] 132)).alloc (.cells #[.int .i64 s] 3) := by
  go_enter Try.func84, Try.ntmps84
  go_wp2
  go_ret
  exact ⟨rfl, rfl⟩
theorem nexts_at (l : List Ed) (j : Nat) (h : j < l.length) : (nexts l l.length)[j]'(by rw [nexts_len]; exact h) = before l j l[j].fr := by
  unfold nexts
  rw [List.getElem_map, List.getElem_range, if_pos h, List.getElem?_eq_getElem h]
  rfl
set_option maxRecDepth 100000 in
set_option maxHeartbeats 4000000 in
theorem from1_in {Q : Ed → Prop} (P : Nat → Prop) (l : Nat) (gw gs : Nat) (L : List Ed) (n : Nat) (s : Nat) (hs : s < n) (hL : L.length ≤ 16000) (o : Option Addr) (cap fb nb : Nat) (hQ : ∀ e ∈ L, Q e) (J Jx : List { e : Ed // Q e } → World → Prop)
    (hY : ∀ pre x W, J pre W → pre.length < L.length → YieldAt Fence.wide 4 Try.prog l #[edV x.1] W fun e W' =>
      (e = .returned (.bool true) ∧ J (pre ++ [x]) W' ∧ Kp P W W') ∨ (e = .returned (.bool false) ∧ Jx (pre ++ [x]) W'))
    (W : World) (hW : WebAt P W L n o cap fb nb) (hB : WBox W gw o L.length cap n fb nb) (hg : P gw) (hS : Boxed W gs 3 (.int .i64 (s : Int))) (h0 : J [] W) :
    CallsIn Fence.wide 5 Try.prog 92 #[.func (.yield l) #[] #[], .pointer (some ⟨gw, 0, none⟩), .pointer (some ⟨gs, 0, none⟩)] W fun e W' => (∃ v, e = .returned v) ∧
      ((∃ ys, ys.map (·.1) = chainOf L L.length (s : Int) ∧ J ys W') ∨ (∃ pre, pre.map (·.1) <+: chainOf L L.length (s : Int) ∧ Jx pre W')) := by
  have hfit := hW.fit
  have htop := hW.top
  have k1 := hB.c1
  have k2 := hS.cell
  have k3 := hW.fr.cell s (by rw [firsts_len]; exact hs)
  rw [firsts_at L n L.length s hs] at k3
  have HW := (show Hid (WebAt P W L n o cap fb nb) from hW)
  have HB := (show Hid (WBox W gw o L.length cap n fb nb) from hB)
  have HCL := chain_len L (s : Int) L.length
  obtain ⟨full, hfull⟩ : ∃ full, full = chainOf L L.length (s : Int) := ⟨_, rfl⟩
  have HI : Hid (full = [] ++ chainOf L L.length (s : Int)) := hfull
  rw [← hfull] at HCL ⊢
  clear hW hB hfull
  refine callsIn_of_wp Try.func92 rfl trivial ?_ rfl
  simp only [Try.ntmps92, List.size_toArray, List.length_cons, List.length_nil, Nat.reduceAdd, Nat.reduceSub, Array.replicate_succ, Array.replicate_zero, List.push_toArray, List.append_toArray, List.nil_append, List.cons_append]
  gi_wp2
  gi_loopw [4] (fun y wr => ∃ (k : Nat) (pre : List { e : Ed // Q e }), y = .int .i64 (before L k (s : Int)) ∧ k ≤ L.length ∧ Hid (full = pre.map (·.1) ++ chainOf L k (s : Int)) ∧ J pre wr ∧ Hid (WebAt P wr L n o cap fb nb) ∧ Hid (WBox wr gw o L.length cap n fb nb)) (fun y _ => (intOf y + 1).toNat)
  case atStart => exact ⟨L.length, [], rfl, Nat.le_refl _, HI, h0, HW, HB⟩
  case round =>
    obtain ⟨k, pre, rfl, hk, HE, hJs, HWr, HBr⟩ := hrel
    clear k1 k2 k3 HW HB HI
    have hr := before_range L (s : Int) k
    by_cases hneg : before L k (s : Int) = -1
    · have hex : pre.map (·.1) = full := by have := HE.out; rw [chain_none L _ k hneg, List.append_nil] at this; exact this.symm
      rw [hneg]
      clear hneg hr
      gi_wp2
      go_end0
      exact ⟨⟨_, rfl⟩, .inl ⟨pre, hex, hJs⟩⟩
    · obtain ⟨j, hj⟩ : ∃ j : Nat, before L k (s : Int) = (j : Int) := ⟨(before L k (s : Int)).toNat, by omega⟩
      obtain ⟨hjl, hjk, hjs, hch⟩ := chain_some L (s : Int) j k hk hj
      rw [hj]
      have HF : Hid (full = (pre ++ [(⟨L[j], hQ _ (List.getElem_mem hjl)⟩ : { e : Ed // Q e })]).map (·.1) ++ chainOf L j (s : Int)) := by show _ = _; rw [HE.out, hch, List.map_append, List.append_assoc]; rfl
      obtain ⟨b, off, rfl, hpb, hed⟩ := HWr.out.lie j hjl
      have hed0 := hed
      obtain ⟨c0, c1, c2, c3, c4, c5, c6⟩ := hed
      have kb := HBr.out.c0
      have hjr := before_range L (s : Int) j
      have g1 : ((j : Int) != -1) = true := bne_iff_ne.2 (by omega)
      have g2 : ((j : Int) == -1) = false := beq_eq_false_iff_ne.2 (by omega)
      have hnx := nexts_at L j hjl
      rw [hjs] at hnx
      have HN := (show Hid ((nexts L L.length)[j]'(by rw [nexts_len]; exact hjl) = before L j (s : Int)) from hnx)
      have hlen : pre.length < L.length := by have := HCL; rw [HF.out, List.length_append, List.length_map, List.length_append] at this; simp at this; omega
      obtain ⟨fn, tmps, assign, body, hy, hR⟩ := hY pre ⟨L[j], hQ _ (List.getElem_mem hjl)⟩ wr hJs hlen
      dsimp only at hy
      have HQj := hQ _ (List.getElem_mem hjl)
      clear hneg hr hch HE hj hjs hnx hed0 hY
      gi_wp2
      refine hR.mono ?_
      rintro e W3 (⟨rfl, hJ3, hk3⟩ | ⟨rfl, hJx3⟩)
      · have M3 := HWr.out.carry hk3
        have B3 : WBox W3 gw (some ⟨b, off, none⟩) L.length cap n fb nb := (hk3.2 gw hg).trans HBr.out
        have q2 := B3.c2
        have q3 := M3.nr.cell j (by rw [nexts_len]; exact hjl)
        rw [HN.out] at q3
        have HM3 := (show Hid _ from M3)
        have HB3 := (show Hid _ from B3)
        clear M3 B3
        gi_wp2
        go_roundw
        case rel => exact ⟨j, _, rfl, by omega, HF, hJ3, HM3, HB3⟩
        case measure => simp [intOf]; omega
      · gi_wp2
        refine bodyPost_ret (results_none rfl _ _ _) rfl ?_
        exact ⟨⟨_, rfl⟩, .inr ⟨_, ⟨_, HF.out.symm⟩, hJx3⟩⟩
theorem from_stops {Q : Ed → Prop} (P : Nat → Prop) (gw gs : Nat) (L : List Ed) (n : Nat) (s : Nat) (hs : s < n) (hL : L.length ≤ 16000) (o : Option Addr) (cap fb nb : Nat) (hQ : ∀ e ∈ L, Q e)
    (w : World) (hW : WebAt P w L n o cap fb nb) (hB : WBox w gw o L.length cap n fb nb) (hg : P gw) (hS : Boxed w gs 3 (.int .i64 (s : Int))) :
    SeqStopsK Fence.wide 5 Try.prog 92 #[.pointer (some ⟨gw, 0, none⟩), .pointer (some ⟨gs, 0, none⟩)] (fun x : { e : Ed // Q e } => #[edV x.1]) (Kp P) (fun ys => ys.map (·.1) = chainOf L L.length (s : Int)) (fun pre => pre.map (·.1) <+: chainOf L L.length (s : Int)) L.length w := fun l J Jx W hb hJ hJx hY h0 =>
  from1_in P l gw gs L n s hs hL o cap fb nb hQ J Jx hY W (hW.carry (Kp.below hb hb.size hW.lt)) ((hb.block gw hB.lt).trans hB) hg ((hb.block gs hS.lt).trans hS) h0
end Go.Proofs.Ytkdkibnjfgcppaa.nf

namespace Go.Proofs.Ytkdkibnjfgcppaa.nf
open Go.RowKit Go.Shelf
set_option linter.unusedVariables false
open df (Kp Owns)

/-- an append of one int: where the new row lies -/
theorem append_int (w : World) (ty : TypeId) (B : Nat) (v : Value) (l : List Int) (hown : Owns w B v l) (g : Nat) (y : Int) (hc : w.cell? ⟨g, 0, none⟩ = some (.int .i64 y)) (hsm : l.length ≤ 1000000) (hB : B ≤ w.heap.size) :
    ∃ g' cap' w', (Builtin.append_ #[39, 39] ty #[v, .slice (some ⟨g, 0, none⟩) 1 1]).run Try.prog w = .ok (.slice (some ⟨g', 0, none⟩) (l.length + 1) cap') w' ∧ Owns w' B (.slice (some ⟨g', 0, none⟩) (l.length + 1) cap') (l ++ [y]) ∧ w.grownBy w' v.ownBlock ∧ (some g' = v.ownBlock ∨ w.heap.size ≤ g') := by
  obtain ⟨i0, hi, hz0, hz1, hz2⟩ := info_parts df.info3
  have hnews : ∀ j u, ([.int .i64 y] : List Value)[j]? = some u → w.cell? ((⟨g, 0, none⟩ : Addr).add j) = some u := fun j u hu => by
    rcases j with _ | j
    · simp at hu
      subst hu
      simpa [Addr.add] using hc
    · simp at hu
  obtain ⟨v', w', hr, h2, h3, h4⟩ := run_append_own (P := Try.prog) w B 39 ty 3 i0 _ 1 8 Try.underlying39 hi hz0 hz1 hz2 rfl (by decide) v l.length _ hown ⟨g, 0, none⟩ 1 1 [.int .i64 y] rfl hnews (by simp [Value.oneCell']) (by unfold maxLen; omega) (by omega) hB
  obtain ⟨g', cap', rfl⟩ := ownsRow_succ h2
  refine ⟨g', cap', w', hr, by simpa [Owns] using h2, h3, ?_⟩
  have hl2 : ([.int .i64 y] : List Value).length = 1 * i0.size := by rw [hz1]; rfl
  rcases hown.2 with ⟨rfl, h0⟩ | ⟨gg, cap, cur, rfl, hbg, hg, hnc, hcm, hcs, htake⟩
  · have hr2 := run_append_nil (P := Try.prog) w 39 ty 3 i0 _ Try.underlying39 hi hz0 ⟨g, 0, none⟩ 1 1 [.int .i64 y] hl2 hnews (by omega) (by omega) (by rw [hz2]; omega)
    rw [hr2] at hr
    injection hr with e1 e2
    simp at e1
    exact .inr (by omega)
  · by_cases hroom : l.length + 1 ≤ cap
    · have hfit : l.length * i0.size + ([.int .i64 y] : List Value).length ≤ cur.size := by rw [hl2, hcs, hz1, ← Nat.add_mul]; exact Nat.mul_le_mul_right _ hroom
      have hr2 := run_append_room (P := Try.prog) w 39 ty 3 i0 Try.underlying39 hi gg l.length cap cur hg ⟨g, 0, none⟩ 1 1 [.int .i64 y] hl2 hnews (by simp [Value.oneCell']) hroom hfit
      rw [hr2] at hr
      injection hr with e1 e2
      simp at e1
      exact .inl (by simp [Value.ownBlock, e1.1])
    · have hr2 := run_append_grow (P := Try.prog) w 39 ty 3 i0 _ Try.underlying39 hi hz0 ⟨gg, 0, none⟩ l.length cap _ (by rw [hz1]; exact hown.1) (hown.cells (g := gg) rfl) ⟨g, 0, none⟩ 1 1 [.int .i64 y] hl2 hnews (by omega) (by omega) (growslice_fits (by omega) (by rw [hz2]; omega))
      rw [hr2] at hr
      injection hr with e1 e2
      simp at e1
      exact .inr (by omega)
theorem wpList_append_at {ops : Array Oper} {rest : List Oper} {o : Oper} {a : Act} {w : World} {Q : Exit → Act → World → Prop} (hgd : o.guard = none) (s x : Operand)
    (ho : o.op = Op.call { callee := Callee.builtin Builtin.append, args := #[s, x], argTypes := #[39, 39] }) (B : Nat) (v : Value) (l : List Int) (y : Int) (g : Nat)
    (hs : a.eval s = v) (hx : a.eval x = .slice (some ⟨g, 0, none⟩) 1 1) (hown : Owns w B v l) (hc : w.cell? ⟨g, 0, none⟩ = some (.int .i64 y)) (hl : l.length ≤ 1000000) (hB : B ≤ w.heap.size)
    (hK : ∀ g' cap' w', Owns w' B (.slice (some ⟨g', 0, none⟩) (l.length + 1) cap') (l ++ [y]) → w.grownBy w' v.ownBlock → (some g' = v.ownBlock ∨ w.heap.size ≤ g') → wpList Try.prog ops Q rest (a.put o.dst (.slice (some ⟨g', 0, none⟩) (l.length + 1) cap')) w') : wpList Try.prog ops Q (o :: rest) a w := by
  refine wpList_plain hgd fun K hK' => ?_
  obtain ⟨g', cap', w', hr, h2, h3, h4⟩ := append_int w o.type B v l hown g y hc hl hB
  unfold Oper.wp execOp
  simp only [ho, resolve, invoke, builtin, Sem.run_bind, Sem.run_pure, Result.andThen_ok, List.map_toArray, List.map_cons, List.map_nil, hs, hx, hr]
  exact hK' _ _ (hK g' cap' w' h2 h3 h4)

def bcells (l : List Bool) : Array Value := (l.map fun x => Value.bool x).toArray
def BRow (w : World) (g : Nat) (l : List Bool) : Prop := w.heap[g]? = some (.cells (bcells l) 4 (0, 0))
section
variable {w w' : World} {g : Nat} {l : List Bool}
theorem BRow.lt (h : BRow w g l) : g < w.heap.size := (Array.getElem?_eq_some_iff.1 h).1
theorem BRow.cell (h : BRow w g l) (i : Nat) (hi : i < l.length) : w.cell? ⟨g, i, none⟩ = some (.bool l[i]) := by
  rw [Lib.cell_of_heap h]
  simp [bcells, hi]
theorem BRow.fz (h : BRow w g l) (i : Nat) : w.frozen? ⟨g, i, none⟩ = false := Lib.frozen_of_heap h i
theorem BRow.put (h : BRow w g l) (i : Nat) (x : Bool) : BRow (w.setCell ⟨g, i, none⟩ (.bool x)) g (l.set i x) := by
  unfold BRow
  rw [set_heap w g _ _ i _ h]
  congr 2
  simp [bcells]
end
theorem row_type {w : World} {B : Nat} {v : Value} {l : List Int} (h : Owns w B v l) {g : Nat} {cs : Array Value} {t : TypeId} {fr : Nat × Nat} (hg : w.heap[g]? = some (.cells cs t fr)) (ht : t ≠ 3) : some g ≠ v.ownBlock := by
  intro e
  rcases h.2 with ⟨rfl, _⟩ | ⟨gg, cap, cur, rfl, _, hgg, _⟩
  · cases e
  · cases e
    rw [hg] at hgg
    cases hgg
    exact ht rfl

structure Crowd (X : Nat → Prop) (W : World) (B c sb n : Nat) (m : List Bool) (va vw : Value) (l q : List Int) : Prop where
  blk : W.heap[c]? = some (.cells #[.slice (some ⟨sb, 0, none⟩) n n, va, vw] 136 (0, 0))
  seen : BRow W sb m
  ml : m.length = n
  all : Owns W B va l
  wait : Owns W B vw q
  two : ∀ g, va.ownBlock = some g → vw.ownBlock ≠ some g
  bc : B ≤ c
  bs : B ≤ sb
  ap : ∀ b, X b → b < W.heap.size ∧ b ≠ c ∧ b ≠ sb ∧ some b ≠ va.ownBlock ∧ some b ≠ vw.ownBlock
section
variable {X : Nat → Prop} {W W' : World} {B c sb n : Nat} {m : List Bool} {va vw : Value} {l q : List Int}
theorem Crowd.c0 (h : Crowd X W B c sb n m va vw l q) : W.cell? ⟨c, 0, none⟩ = some (.slice (some ⟨sb, 0, none⟩) n n) := by rw [Lib.cell_of_heap h.blk]; rfl
theorem Crowd.c1 (h : Crowd X W B c sb n m va vw l q) : W.cell? ⟨c, 1, none⟩ = some va := by rw [Lib.cell_of_heap h.blk]; rfl
theorem Crowd.c2 (h : Crowd X W B c sb n m va vw l q) : W.cell? ⟨c, 2, none⟩ = some vw := by rw [Lib.cell_of_heap h.blk]; rfl
theorem Crowd.fz (h : Crowd X W B c sb n m va vw l q) (i : Nat) : W.frozen? ⟨c, i, none⟩ = false := Lib.frozen_of_heap h.blk i
theorem Crowd.lt (h : Crowd X W B c sb n m va vw l q) : c < W.heap.size := (Array.getElem?_eq_some_iff.1 h.blk).1
theorem Crowd.ne (h : Crowd X W B c sb n m va vw l q) : c ≠ sb := fun e => by
  have h1 := h.blk
  have h2 := h.seen
  unfold BRow at h2
  rw [e] at h1
  rw [h1] at h2
  injection h2 with h3
  injection h3 with _ h4
  simp at h4
theorem Crowd.size (h : Crowd X W B c sb n m va vw l q) : B ≤ W.heap.size := Nat.le_trans h.bc (Nat.le_of_lt h.lt)
theorem Crowd.nac (h : Crowd X W B c sb n m va vw l q) : some c ≠ va.ownBlock := row_type h.all h.blk (by decide)
theorem Crowd.nwc (h : Crowd X W B c sb n m va vw l q) : some c ≠ vw.ownBlock := row_type h.wait h.blk (by decide)
theorem Crowd.nas (h : Crowd X W B c sb n m va vw l q) : some sb ≠ va.ownBlock := row_type h.all h.seen (by decide)
theorem Crowd.nws (h : Crowd X W B c sb n m va vw l q) : some sb ≠ vw.ownBlock := row_type h.wait h.seen (by decide)
/-- other blocks turned, or new ones -/
theorem Crowd.keep (h : Crowd X W B c sb n m va vw l q) (hs : W.heap.size ≤ W'.heap.size) (h1 : W'.heap[c]? = W.heap[c]?) (h2 : W'.heap[sb]? = W.heap[sb]?) (h3 : ∀ g, va.ownBlock = some g → W'.heap[g]? = W.heap[g]?) (h4 : ∀ g, vw.ownBlock = some g → W'.heap[g]? = W.heap[g]?) : Crowd X W' B c sb n m va vw l q := by
  have key : ∀ (v : Value) (l : List Int), Owns W B v l → (∀ g, v.ownBlock = some g → W'.heap[g]? = W.heap[g]?) → Owns W' B v l := fun v l ho hh => by
    refine ⟨ho.1, ?_⟩
    rcases ho.2 with h | ⟨g, cap, cur, rfl, hb, hg, hr⟩
    · exact .inl h
    · exact .inr ⟨g, cap, cur, rfl, hb, (hh g rfl).trans hg, hr⟩
  exact ⟨h1.trans h.blk, h2.trans h.seen, h.ml, key _ _ h.all h3, key _ _ h.wait h4, h.two, h.bc, h.bs, fun b hb => by obtain ⟨a1, a2⟩ := h.ap b hb; exact ⟨Nat.lt_of_lt_of_le a1 hs, a2⟩⟩
theorem own_lt {v : Value} (h : Owns W B v l) {g : Nat} (e : v.ownBlock = some g) : g < W.heap.size := by
  rcases h.2 with ⟨rfl, _⟩ | ⟨gg, cap, cur, rfl, _, hgg, _⟩
  · cases e
  · cases e; exact (Array.getElem?_eq_some_iff.1 hgg).1
theorem Crowd.later (h : Crowd X W B c sb n m va vw l q) (b : Below W.heap.size W W') : Crowd X W' B c sb n m va vw l q :=
  h.keep b.size (b.block _ h.lt) (b.block _ h.seen.lt) (fun g e => b.block g (own_lt h.all e)) (fun g e => b.block g (own_lt h.wait e))
theorem Crowd.alloc (h : Crowd X W B c sb n m va vw l q) (o : Obj) : Crowd X (W.alloc o) B c sb n m va vw l q := h.later (below_alloc _ _)
theorem Crowd.mark (h : Crowd X W B c sb n m va vw l q) (s : Nat) (x : Bool) : Crowd X (W.setCell ⟨sb, s, none⟩ (.bool x)) B c sb n (m.set s x) va vw l q := by
  have hh : ∀ k, k ≠ sb → (W.setCell ⟨sb, s, none⟩ (.bool x)).heap[k]? = W.heap[k]? := fun k hk => Below.heap_setCell _ _ _ k hk
  have h1 := h.keep (W' := W) (Nat.le_refl _) rfl rfl (fun _ _ => rfl) (fun _ _ => rfl)
  have key : ∀ (v : Value) (l : List Int), Owns W B v l → some sb ≠ v.ownBlock → Owns (W.setCell ⟨sb, s, none⟩ (.bool x)) B v l := fun v l ho hn => by
    refine ⟨ho.1, ?_⟩
    rcases ho.2 with h | ⟨g, cap, cur, rfl, hb, hg, hr⟩
    · exact .inl h
    · exact .inr ⟨g, cap, cur, rfl, hb, (hh g (fun e => hn (by rw [← e]; rfl))).trans hg, hr⟩
  exact ⟨(hh c h.ne).trans h.blk, h.seen.put s x, by rw [List.length_set]; exact h.ml, key _ _ h.all h.nas, key _ _ h.wait h.nws, h.two, h.bc, h.bs, fun b hb => by obtain ⟨a1, a2⟩ := h.ap b hb; exact ⟨by simpa using a1, a2⟩⟩
theorem Crowd.putA (h : Crowd X W B c sb n m va vw l q) {l' : List Int} {g' k' cap' : Nat} (ho : Owns W' B (.slice (some ⟨g', 0, none⟩) k' cap') l') (hg : W.grownBy W' va.ownBlock) (hw : some g' = va.ownBlock ∨ W.heap.size ≤ g') :
    Crowd X (W'.setCell ⟨c, 1, none⟩ (.slice (some ⟨g', 0, none⟩) k' cap')) B c sb n m (.slice (some ⟨g', 0, none⟩) k' cap') vw l' q := by
  have b1 : W'.heap[c]? = some (.cells #[.slice (some ⟨sb, 0, none⟩) n n, va, vw] 136 (0, 0)) := (hg.block c h.lt h.nac).trans h.blk
  have b2 : W'.heap[sb]? = _ := (hg.block sb h.seen.lt h.nas).trans h.seen
  have hh : ∀ k, k ≠ c → (W'.setCell ⟨c, 1, none⟩ (.slice (some ⟨g', 0, none⟩) k' cap')).heap[k]? = W'.heap[k]? := fun k hk => Below.heap_setCell _ _ _ k hk
  have key : ∀ (v : Value) (l : List Int), Owns W' B v l → some c ≠ v.ownBlock → Owns (W'.setCell ⟨c, 1, none⟩ (.slice (some ⟨g', 0, none⟩) k' cap')) B v l := fun v l ho hn => by
    refine ⟨ho.1, ?_⟩
    rcases ho.2 with h | ⟨g, cap, cur, rfl, hb, hg, hr⟩
    · exact .inl h
    · exact .inr ⟨g, cap, cur, rfl, hb, (hh g (fun e => hn (by rw [← e]; rfl))).trans hg, hr⟩
  have hwt : Owns W' B vw q := by
    refine ⟨h.wait.1, ?_⟩
    rcases h.wait.2 with h0 | ⟨g, cap, cur, rfl, hb, hgg, hr⟩
    · exact .inl h0
    · exact .inr ⟨g, cap, cur, rfl, hb, (hg.block g (Array.getElem?_eq_some_iff.1 hgg).1 (fun e => h.two g e.symm rfl)).trans hgg, hr⟩
  refine ⟨?_, (hh sb h.ne.symm).trans b2, h.ml, key _ _ ho (row_type ho b1 (by decide)), key _ _ hwt (row_type hwt b1 (by decide)), ?_, h.bc, h.bs, fun b hb => ?_⟩
  · rw [set_heap _ _ _ _ 1 _ b1]; rfl
  · intro g e e2
    simp [Value.ownBlock] at e
    subst e
    rcases hw with e3 | e3
    · exact h.two _ e3.symm e2
    · have := own_lt h.wait e2; omega
  · obtain ⟨a1, a2, a3, a4, a5⟩ := h.ap b hb
    refine ⟨by have := hg.size; simp; omega, a2, a3, ?_, a5⟩
    intro e
    simp [Value.ownBlock] at e
    subst e
    rcases hw with e3 | e3
    · exact a4 e3
    · omega
theorem Crowd.putW (h : Crowd X W B c sb n m va vw l q) {q' : List Int} {g' k' cap' : Nat} (ho : Owns W' B (.slice (some ⟨g', 0, none⟩) k' cap') q') (hg : W.grownBy W' vw.ownBlock) (hw : some g' = vw.ownBlock ∨ W.heap.size ≤ g') :
    Crowd X (W'.setCell ⟨c, 2, none⟩ (.slice (some ⟨g', 0, none⟩) k' cap')) B c sb n m va (.slice (some ⟨g', 0, none⟩) k' cap') l q' := by
  have b1 : W'.heap[c]? = some (.cells #[.slice (some ⟨sb, 0, none⟩) n n, va, vw] 136 (0, 0)) := (hg.block c h.lt h.nwc).trans h.blk
  have b2 : W'.heap[sb]? = _ := (hg.block sb h.seen.lt h.nws).trans h.seen
  have hh : ∀ k, k ≠ c → (W'.setCell ⟨c, 2, none⟩ (.slice (some ⟨g', 0, none⟩) k' cap')).heap[k]? = W'.heap[k]? := fun k hk => Below.heap_setCell _ _ _ k hk
  have key : ∀ (v : Value) (l : List Int), Owns W' B v l → some c ≠ v.ownBlock → Owns (W'.setCell ⟨c, 2, none⟩ (.slice (some ⟨g', 0, none⟩) k' cap')) B v l := fun v l ho hn => by
    refine ⟨ho.1, ?_⟩
    rcases ho.2 with h | ⟨g, cap, cur, rfl, hb, hg, hr⟩
    · exact .inl h
    · exact .inr ⟨g, cap, cur, rfl, hb, (hh g (fun e => hn (by rw [← e]; rfl))).trans hg, hr⟩
  have hwt : Owns W' B va l := by
    refine ⟨h.all.1, ?_⟩
    rcases h.all.2 with h0 | ⟨g, cap, cur, rfl, hb, hgg, hr⟩
    · exact .inl h0
    · exact .inr ⟨g, cap, cur, rfl, hb, (hg.block g (Array.getElem?_eq_some_iff.1 hgg).1 (fun e => h.two g rfl e.symm)).trans hgg, hr⟩
  refine ⟨?_, (hh sb h.ne.symm).trans b2, h.ml, key _ _ hwt (row_type hwt b1 (by decide)), key _ _ ho (row_type ho b1 (by decide)), ?_, h.bc, h.bs, fun b hb => ?_⟩
  · rw [set_heap _ _ _ _ 2 _ b1]; rfl
  · intro g e e2
    simp [Value.ownBlock] at e2
    subst e2
    rcases hw with e3 | e3
    · exact h.two _ e e3.symm
    · have := own_lt h.all e; omega
  · obtain ⟨a1, a2, a3, a4, a5⟩ := h.ap b hb
    refine ⟨by have := hg.size; simp; omega, a2, a3, a4, ?_⟩
    intro e
    simp [Value.ownBlock] at e
    subst e
    rcases hw with e3 | e3
    · exact a5 e3
    · omega
end
end Go.Proofs.Ytkdkibnjfgcppaa.nf

namespace Go.Proofs.Ytkdkibnjfgcppaa.nf
open Go.RowKit Go.Shelf
set_option linter.unusedVariables false
open df (Kp Owns)

/-- how far a world is moved -/
structure Moved (X : Nat → Prop) (B : Nat) (W W' : World) : Prop where
  kp : Kp X W W'
  be : Below B W W'
  ot : KeepsOthers W W'
section
variable {X : Nat → Prop} {B : Nat} {W W' W'' : World}
theorem Moved.refl (X : Nat → Prop) (B : Nat) (W : World) : Moved X B W W := ⟨⟨Nat.le_refl _, fun _ _ => rfl⟩, Below.refl _ _, KeepsOthers.refl _⟩
theorem Moved.trans (h : Moved X B W W') (k : Moved X B W' W'') : Moved X B W W'' := ⟨h.kp.trans k.kp, h.be.trans k.be, h.ot.trans k.ot⟩
theorem Moved.set (h : Moved X B W W') {g : Nat} (hX : ∀ b, X b → b ≠ g) (hB : B ≤ g) (i : Nat) (v : Value) : Moved X B W (W'.setCell ⟨g, i, none⟩ v) :=
  h.trans ⟨⟨by simp, fun b hb => Below.heap_setCell _ _ _ b (hX b hb)⟩, (Below.refl B W').setCell (p := ⟨g, i, none⟩) hB v, KeepsOthers.setCell _ _ _⟩
theorem Moved.alloc (h : Moved X B W W') (hX : ∀ b, X b → b < W'.heap.size) (hB : B ≤ W'.heap.size) (o : Obj) : Moved X B W (W'.alloc o) :=
  h.trans ⟨⟨by simp, fun b hb => Below.heap_alloc _ _ b (hX b hb)⟩, (Below.refl B W').alloc hB o, KeepsOthers.alloc _ _⟩
theorem Moved.grown (h : Moved X B W W') {v : Value} {l : List Int} (ho : Owns W' B v l) (hg : W'.grownBy W'' v.ownBlock) (hX : ∀ b, X b → b < W'.heap.size ∧ some b ≠ v.ownBlock) (hB : B ≤ W'.heap.size) : Moved X B W W'' :=
  h.trans ⟨⟨hg.size, fun b hb => hg.block b (hX b hb).1 (hX b hb).2⟩, (Below.refl B W').grown hg hB (df.own_ge ho), KeepsOthers.of_grownBy hg fun j o ej hj => by
    rcases ho.2 with ⟨rfl, _⟩ | ⟨g, cap, cur, rfl, _, hgb, _⟩
    · simp [Value.ownBlock] at ej
    · obtain rfl : g = j := by simpa [Value.ownBlock] using ej
      rw [hgb] at hj; cases hj; rfl⟩
theorem Moved.below (h : Below W.heap.size W W') (hX : ∀ b, X b → b < W.heap.size) (hB : B ≤ W.heap.size) (ho : KeepsOthers W W') : Moved X B W W' := ⟨⟨h.size, fun b hb => h.block b (hX b hb)⟩, h.mono hB, ho⟩
end

theorem tmp_cell (W : World) (v : Value) (g : Nat) (h : g = W.heap.size) : (W.alloc (.cells #[v] 3)).cell? ⟨g, 0, none⟩ = some v := by subst h; rw [Lib.cell_of_heap (World.alloc_heap_new W _)]; rfl
set_option maxHeartbeats 1000000 in
theorem add_old {X : Nat → Prop} {W : World} {B c sb n : Nat} {m : List Bool} {va vw : Value} {l q : List Int} (h : Crowd X W B c sb n m va vw l q) (s : Nat) (hs : s < n) (hm : m[s]? = some true) :
    Calls Try.prog 72 #[.pointer (some ⟨c, 0, none⟩), .int .i64 (s : Int)] W fun e W' => (∃ v, e = .returned v) ∧ W' = W := by
  have hml := h.ml
  have k0 := h.c0
  have k1 := h.seen.cell s (by omega)
  have e1 : m[s]'(by omega) = true := by rw [List.getElem?_eq_getElem (by omega)] at hm; simpa using hm
  rw [e1] at k1
  clear h hm e1
  go_enter Try.func72, Try.ntmps72
  go_wp2_with (fail)
  go_end0
  exact ⟨⟨_, rfl⟩, rfl⟩
set_option maxHeartbeats 2000000 in
set_option maxRecDepth 100000 in
theorem add_new {X : Nat → Prop} {W : World} {B c sb n : Nat} {m : List Bool} {va vw : Value} {l q : List Int} (h : Crowd X W B c sb n m va vw l q) (s : Nat) (hs : s < n) (hm : m[s]? = some false) (hl : l.length ≤ 1000000) (hq : q.length ≤ 1000000) :
    Calls Try.prog 72 #[.pointer (some ⟨c, 0, none⟩), .int .i64 (s : Int)] W fun e W' => (∃ v, e = .returned v) ∧ ∃ va' vw', Crowd X W' B c sb n (m.set s true) va' vw' (l ++ [(s : Int)]) (q ++ [(s : Int)]) ∧ Moved X B W W' := by
  have hml := h.ml
  have k0 := h.c0
  have k1 := h.seen.cell s (by omega)
  have k2 := h.seen.fz s
  have e1 : m[s]'(by omega) = false := by rw [List.getElem?_eq_getElem (by omega)] at hm; simpa using hm
  rw [e1] at k1
  have h1 := h.mark s true
  have j1 := h1.c1
  have M1 : Moved X B W (W.setCell ⟨sb, s, none⟩ (.bool true)) := (Moved.refl X B W).set (fun b hb => (h.ap b hb).2.2.1) h.bs s _
  have hBs := h1.size
  have hX1 : ∀ b, X b → b < (W.setCell ⟨sb, s, none⟩ (.bool true)).heap.size ∧ b ≠ c ∧ b ≠ sb ∧ some b ≠ va.ownBlock ∧ some b ≠ vw.ownBlock := h1.ap
  have A1 := h1.alloc (.cells #[.int .i64 (s : Int)] 3)
  have HA1 := (show Hid (Crowd X ((W.setCell ⟨sb, s, none⟩ (.bool true)).alloc (.cells #[.int .i64 (s : Int)] 3)) B c sb n (m.set s true) va vw l q) from A1)
  have HM1 := (show Hid (Moved X B W ((W.setCell ⟨sb, s, none⟩ (.bool true)).alloc (.cells #[.int .i64 (s : Int)] 3))) from M1.alloc (fun b hb => (h1.ap b hb).1) hBs _)
  obtain ⟨ga, ca, hva⟩ := df.own_slice h.all
  obtain ⟨gq, cq, hvw⟩ := df.own_slice h.wait
  subst hva hvw
  clear h hm e1 A1 M1 hX1 h1
  go_enter Try.func72, Try.ntmps72
  go_wp2_with (first | (at_builtin; refine wpList_append_at rfl (.tmp 22) (.tmp 24) rfl B _ l (s : Int) W.heap.size rfl rfl HA1.out.all (tmp_cell (W.setCell ⟨sb, s, none⟩ (.bool true)) _ _ (by simp)) hl HA1.out.size ?_; intro g' cap' w2 hown2 hgr2 hw2; have HC3 := (show Hid _ from HA1.out.putA hown2 hgr2 hw2); have HM3 := (show Hid _ from (HM1.out.grown HA1.out.all hgr2 (fun b hb => ⟨(HA1.out.ap b hb).1, (HA1.out.ap b hb).2.2.2.1⟩) HA1.out.size).set (g := c) (fun b hb => (HA1.out.ap b hb).2.1) HA1.out.bc 1 (.slice (some ⟨g', 0, none⟩) (l.length + 1) cap')); have bc : w2.heap[c]? = some (.cells #[.slice (some ⟨sb, 0, none⟩) n n, .slice ga l.length ca, .slice gq q.length cq] 136 (0, 0)) := (hgr2.block c HA1.out.lt HA1.out.nac).trans HA1.out.blk; have z1 : w2.cell? ⟨c, 1, none⟩ = some (.slice ga l.length ca) := (by rw [Lib.cell_of_heap bc]; rfl); have z2 : w2.frozen? ⟨c, 1, none⟩ = false := Lib.frozen_of_heap bc 1; have z3 := HC3.out.c2; have HC4 := (show Hid _ from HC3.out.alloc (.cells #[.int .i64 (s : Int)] 3)); have HM4 := (show Hid _ from HM3.out.alloc (fun b hb => (HC3.out.ap b hb).1) HC3.out.size (.cells #[.int .i64 (s : Int)] 3))) | (at_builtin; refine wpList_append_at rfl (.tmp 32) (.tmp 34) rfl B _ q (s : Int) w2.heap.size rfl rfl HC4.out.wait (tmp_cell (w2.setCell ⟨c, 1, none⟩ (.slice (some ⟨g', 0, none⟩) (l.length + 1) cap')) _ _ (by simp)) hq HC4.out.size ?_; intro g4 cap4 w4 hown4 hgr4 hw4; have HC5 := (show Hid _ from HC4.out.putW hown4 hgr4 hw4); have HM5 := (show Hid _ from (HM4.out.grown HC4.out.wait hgr4 (fun b hb => ⟨(HC4.out.ap b hb).1, (HC4.out.ap b hb).2.2.2.2⟩) HC4.out.size).set (g := c) (fun b hb => (HC4.out.ap b hb).2.1) HC4.out.bc 2 (.slice (some ⟨g4, 0, none⟩) (q.length + 1) cap4)); have bc4 : w4.heap[c]? = _ := (hgr4.block c HC4.out.lt HC4.out.nwc).trans HC4.out.blk; have y1 : w4.cell? ⟨c, 2, none⟩ = some (.slice gq q.length cq) := (by rw [Lib.cell_of_heap bc4]; rfl); have y2 : w4.frozen? ⟨c, 2, none⟩ = false := Lib.frozen_of_heap bc4 2))
  go_end0
  exact ⟨⟨_, rfl⟩, _, _, HC5.out, HM5.out⟩
end Go.Proofs.Ytkdkibnjfgcppaa.nf

namespace Go.Proofs.Ytkdkibnjfgcppaa.nf
open Go.RowKit Go.Shelf
set_option linter.unusedVariables false
open df (Kp Owns)

def addE (st : List Int × List Int) (t : Int) : List Int × List Int := if t ∈ st.1 then st else (st.1 ++ [t], st.2 ++ [t])
def addF (st : List Int × List Int) (e : Ed) : List Int × List Int := if e.free = true then addE st e.to else st
def addAll (es : List Ed) (st : List Int × List Int) : List Int × List Int := es.foldl addF st
theorem addAll_snoc (es : List Ed) (e : Ed) (st : List Int × List Int) : addAll (es ++ [e]) st = addF (addAll es st) e := by unfold addAll; rw [List.foldl_append]; rfl
theorem addE_sub (st : List Int × List Int) (t x : Int) (h : x ∈ st.1) : x ∈ (addE st t).1 := by
  unfold addE
  split
  · exact h
  · exact List.mem_append.2 (.inl h)
theorem addF_sub (st : List Int × List Int) (e : Ed) (x : Int) (h : x ∈ st.1) : x ∈ (addF st e).1 := by
  unfold addF
  split
  · exact addE_sub st _ x h
  · exact h
theorem addAll_sub (es : List Ed) : ∀ (st : List Int × List Int) (x : Int), x ∈ st.1 → x ∈ (addAll es st).1 := by
  induction es with
  | nil => intro st x h; exact h
  | cons e es ih => intro st x h; exact ih (addF st e) x (addF_sub st e x h)
theorem addE_in (st : List Int × List Int) (t : Int) : t ∈ (addE st t).1 := by
  unfold addE
  split
  · assumption
  · exact List.mem_append.2 (.inr (by simp))
theorem addAll_in (es : List Ed) : ∀ (st : List Int × List Int) (e : Ed), e ∈ es → e.free = true → e.to ∈ (addAll es st).1 := by
  induction es with
  | nil => intro st e h; cases h
  | cons e0 es ih =>
    intro st e h hf
    rcases List.mem_cons.1 h with rfl | h
    · refine addAll_sub es (addF st e) _ ?_
      unfold addF
      rw [if_pos hf]
      exact addE_in st _
    · exact ih (addF st e0) e h hf
/-- what is kept between two states of the stack -/
structure Inv (x : Nfa) (P : Int → Prop) (l q : List Int) : Prop where
  sub : ∀ t ∈ q, t ∈ l
  reach : ∀ t ∈ l, Reach x P t
  closed : ∀ t ∈ l, t ∉ q → ∀ e ∈ x.edges, e.fr = t → e.free = true → e.to ∈ l
theorem addAll_new (x : Nfa) (P : Int → Prop) (s : Int) (hs : Reach x P s) (es : List Ed) (he : ∀ e ∈ es, e ∈ x.edges ∧ e.fr = s) : ∀ (st : List Int × List Int), (∀ t ∈ st.2, t ∈ st.1) → (∀ t ∈ st.1, Reach x P t) →
    (∀ t ∈ (addAll es st).2, t ∈ (addAll es st).1) ∧ (∀ t ∈ (addAll es st).1, Reach x P t) ∧ (∀ t ∈ (addAll es st).1, t ∈ st.1 ∨ t ∈ (addAll es st).2) ∧ (∀ t ∈ st.2, t ∈ (addAll es st).2) := by
  induction es with
  | nil => intro st h1 h2; exact ⟨h1, h2, fun t h => .inl h, fun t h => h⟩
  | cons e es ih =>
    intro st h1 h2
    have key : (∀ t ∈ (addF st e).2, t ∈ (addF st e).1) ∧ (∀ t ∈ (addF st e).1, Reach x P t) ∧ (∀ t ∈ (addF st e).1, t ∈ st.1 ∨ t ∈ (addF st e).2) ∧ (∀ t ∈ st.2, t ∈ (addF st e).2) := by
      unfold addF addE
      split
      · rename_i hf
        split
        · exact ⟨h1, h2, fun t h => .inl h, fun t h => h⟩
        · refine ⟨fun t ht => ?_, fun t ht => ?_, fun t ht => ?_, fun t ht => List.mem_append.2 (.inl ht)⟩
          · rcases List.mem_append.1 ht with h | h
            · exact List.mem_append.2 (.inl (h1 t h))
            · exact List.mem_append.2 (.inr h)
          · rcases List.mem_append.1 ht with h | h
            · exact h2 t h
            · simp at h
              subst h
              obtain ⟨m1, m2⟩ := he e (by simp)
              exact Reach.step (by rw [m2]; exact hs) m1 hf
          · rcases List.mem_append.1 ht with h | h
            · exact .inl h
            · exact .inr (List.mem_append.2 (.inr h))
      · exact ⟨h1, h2, fun t h => .inl h, fun t h => h⟩
    obtain ⟨k1, k2, k3, k4⟩ := key
    obtain ⟨i1, i2, i3, i4⟩ := ih (fun e' h => he e' (by simp [h])) (addF st e) k1 k2
    refine ⟨i1, i2, fun t ht => ?_, fun t ht => i4 t (k4 t ht)⟩
    rcases i3 t ht with h | h
    · rcases k3 t h with h | h
      · exact .inl h
      · exact .inr (i4 t h)
    · exact .inr h
theorem inv_step {x : Nfa} {P : Int → Prop} {l q0 : List Int} {s : Int} (h : Inv x P l (q0 ++ [s])) : Inv x P (addAll (chainOf x.edges x.edges.length s) (l, q0)).1 (addAll (chainOf x.edges x.edges.length s) (l, q0)).2 := by
  have hs : s ∈ l := h.sub s (by simp)
  have hmem : ∀ e ∈ chainOf x.edges x.edges.length s, e ∈ x.edges ∧ e.fr = s := fun e he => (mem_chain_all x.edges s e).1 he
  obtain ⟨i1, i2, i3, i4⟩ := addAll_new x P s (h.reach s hs) _ hmem (l, q0) (fun t ht => h.sub t (List.mem_append.2 (.inl ht))) h.reach
  refine ⟨i1, i2, fun t ht htq e he hfr hfree => ?_⟩
  by_cases hts : t = s
  · subst hts
    exact addAll_in _ (l, q0) e ((mem_chain_all x.edges t e).2 ⟨he, hfr⟩) hfree
  · have ht2 : t ∈ l := by
      rcases i3 t ht with h | h
      · exact h
      · exact absurd h htq
    refine addAll_sub _ (l, q0) _ (h.closed t ht2 (fun hq => ?_) e he hfr hfree)
    rcases List.mem_append.1 hq with h1 | h1
    · exact htq (i4 t h1)
    · simp at h1; exact hts h1
theorem inv_done {x : Nfa} {P : Int → Prop} {l : List Int} (h : Inv x P l []) (hP : ∀ t, P t → t ∈ l) (t : Int) : t ∈ l ↔ Reach x P t :=
  ⟨h.reach t, fun r => r.least hP (fun e he hf h1 => h.closed e.fr h1 (by simp) e he rfl hf)⟩

theorem nodup_range : ∀ (n : Nat) (l : List Int), l.Nodup → (∀ t ∈ l, 0 ≤ t ∧ t < (n : Int)) → l.length ≤ n
  | 0, l, h, hr => by
    cases l with
    | nil => simp
    | cons a l => have := hr a (by simp); omega
  | n + 1, l, h, hr => by
    by_cases hn : (n : Int) ∈ l
    · have h1 := nodup_range n (l.erase (n : Int)) (h.erase _) (fun t ht => by
        have h2 := hr t (List.mem_of_mem_erase ht)
        have h3 : t ≠ (n : Int) := fun e => by subst e; exact (List.Nodup.not_mem_erase h) ht
        omega)
      rw [List.length_erase_of_mem hn] at h1
      omega
    · have := nodup_range n l h (fun t ht => by
        have h2 := hr t ht
        have h3 : t ≠ (n : Int) := fun e => by subst e; exact hn ht
        omega)
      omega

/-- a crowd, by its lists -/
structure Cr (X : Nat → Prop) (W : World) (B c sb n : Nat) (l q : List Int) : Prop where
  lie : ∃ m va vw, Crowd X W B c sb n m va vw l q ∧ ∀ i, i < n → m[i]? = some (decide ((i : Int) ∈ l))
  nd : l.Nodup
  rg : ∀ t ∈ l, 0 ≤ t ∧ t < (n : Int)
  ql : q.length ≤ l.length
theorem Cr.len {X : Nat → Prop} {W : World} {B c sb n : Nat} {l q : List Int} (h : Cr X W B c sb n l q) : l.length ≤ n := nodup_range n l h.nd h.rg
theorem Cr.keep {X Y : Nat → Prop} {W W' : World} {B c sb n : Nat} {l q : List Int} (h : Cr X W B c sb n l q) (hk : ∀ m va vw, Crowd X W B c sb n m va vw l q → Crowd Y W' B c sb n m va vw l q) : Cr Y W' B c sb n l q := by
  obtain ⟨m, va, vw, h1, h2⟩ := h.lie
  exact ⟨⟨m, va, vw, hk m va vw h1, h2⟩, h.nd, h.rg, h.ql⟩
theorem Cr.later {X : Nat → Prop} {W W' : World} {B c sb n : Nat} {l q : List Int} (h : Cr X W B c sb n l q) (b : Below W.heap.size W W') : Cr X W' B c sb n l q := h.keep fun _ _ _ k => k.later b
theorem Cr.less {X Y : Nat → Prop} {W : World} {B c sb n : Nat} {l q : List Int} (h : Cr X W B c sb n l q) (hx : ∀ b, Y b → X b) : Cr Y W B c sb n l q := h.keep fun _ _ _ k => ⟨k.blk, k.seen, k.ml, k.all, k.wait, k.two, k.bc, k.bs, fun b hb => k.ap b (hx b hb)⟩
/-- more blocks that are not the crowd's: new ones -/
theorem Cr.more {X Y : Nat → Prop} {W W' : World} {B c sb n : Nat} {l q : List Int} (h : Cr X W B c sb n l q) (b : Below W.heap.size W W') (hx : ∀ b, Y b → X b ∨ (W.heap.size ≤ b ∧ b < W'.heap.size)) : Cr Y W' B c sb n l q := h.keep fun m va vw k => by
  have k2 := k.later b
  refine ⟨k2.blk, k2.seen, k2.ml, k2.all, k2.wait, k2.two, k2.bc, k2.bs, fun g hg => ?_⟩
  rcases hx g hg with h1 | h1
  · exact k2.ap g h1
  · refine ⟨h1.2, fun e => by have := k.lt; omega, fun e => by have := k.seen.lt; omega, fun e => ?_, fun e => ?_⟩
    · have := own_lt k.all e.symm; omega
    · have := own_lt k.wait e.symm; omega
theorem Cr.own {X : Nat → Prop} {B c sb n N : Nat} {α : Type} (f : α → List Int × List Int) : OwnFrom N (fun (s : α) W => Cr X W B c sb n (f s).1 (f s).2) := fun s W W' row hs hg hr => hs.keep fun m va vw k => by
  have ne : ∀ g cs t fr, W.heap[g]? = some (.cells cs t fr) → some g ≠ row := fun g cs t fr hc e => by
    obtain ⟨_, o, ho, hn⟩ := hr g e.symm
    rw [hc] at ho
    cases ho
    cases hn
  refine k.keep hg.size (hg.block _ k.lt (ne _ _ _ _ k.blk)) (hg.block _ k.seen.lt (ne _ _ _ _ k.seen)) (fun g e => ?_) (fun g e => ?_)
  · rcases k.all.2 with ⟨h0, _⟩ | ⟨gg, cap, cur, h0, _, hgg, _⟩
    · rw [h0] at e; cases e
    · rw [h0] at e; cases e; exact hg.block _ (Array.getElem?_eq_some_iff.1 hgg).1 (ne _ _ _ _ hgg)
  · rcases k.wait.2 with ⟨h0, _⟩ | ⟨gg, cap, cur, h0, _, hgg, _⟩
    · rw [h0] at e; cases e
    · rw [h0] at e; cases e; exact hg.block _ (Array.getElem?_eq_some_iff.1 hgg).1 (ne _ _ _ _ hgg)
theorem moved_own {X : Nat → Prop} {B N : Nat} {α : Type} {W0 : World} (hX : ∀ b, X b → b < W0.heap.size) (hB : B ≤ W0.heap.size) (hN : W0.heap.size ≤ N) : OwnFrom N (fun (_ : α) W => Moved X B W0 W) := fun s W W' row hs hg hr =>
  ⟨⟨Nat.le_trans hs.kp.1 hg.size, fun b hb => (hg.block b (Nat.lt_of_lt_of_le (hX b hb) hs.kp.1) (fun e => by have := (hr b e.symm).1; have := hX b hb; omega)).trans (hs.kp.2 b hb)⟩,
   hs.be.grown hg (Nat.le_trans hB hs.kp.1) (fun k e => Nat.le_trans hB (Nat.le_trans hN (hr k e).1)),
   ⟨Nat.le_trans hs.kp.1 hg.size, fun k o hk ho => by
    have hlt := (Array.getElem?_eq_some_iff.1 hk).1
    exact (hg.block k (Nat.lt_of_lt_of_le hlt hs.kp.1) (fun e => by have := (hr k e.symm).1; omega)).trans (hs.ot.same k o hk ho)⟩⟩

def AddIs (X : Nat → Prop) (B c sb n : Nat) (l q : List Int) (s : Nat) : Prop := ∀ W, Cr X W B c sb n l q → Calls Try.prog 72 #[.pointer (some ⟨c, 0, none⟩), .int .i64 (s : Int)] W fun e W' => (∃ v, e = .returned v) ∧ Cr X W' B c sb n (addE (l, q) (s : Int)).1 (addE (l, q) (s : Int)).2 ∧ Moved X B W W'
theorem add_any (X : Nat → Prop) (B c sb n : Nat) (hn : n ≤ 2000) (l q : List Int) (s : Nat) (hs : s < n) : AddIs X B c sb n l q s := by
  intro W h
  obtain ⟨m, va, vw, h1, h2⟩ := h.lie
  have hl := h.len
  have hql := h.ql
  by_cases hin : (s : Int) ∈ l
  · have e1 : addE (l, q) (s : Int) = (l, q) := by unfold addE; rw [if_pos hin]
    rw [e1]
    refine (add_old h1 s hs (by rw [h2 s hs, decide_eq_true hin])).mono ?_
    rintro e W' ⟨hv, rfl⟩
    exact ⟨hv, h, Moved.refl _ _ _⟩
  · have e1 : addE (l, q) (s : Int) = (l ++ [(s : Int)], q ++ [(s : Int)]) := by unfold addE; rw [if_neg hin]
    rw [e1]
    refine (add_new h1 s hs (by rw [h2 s hs, decide_eq_false hin]) (by omega) (by omega)).mono ?_
    rintro e W' ⟨hv, va', vw', hc, hm⟩
    refine ⟨hv, ⟨⟨_, va', vw', hc, fun i hi => ?_⟩, ?_, ?_, ?_⟩, hm⟩
    · rw [List.getElem?_set]
      have hml := h1.ml
      by_cases hsi : s = i
      · subst hsi
        rw [if_pos rfl, if_pos (by omega)]
        simp
      · rw [if_neg hsi, h2 i hi]
        congr 1
        rw [decide_eq_decide]
        simp only [List.mem_append, List.mem_singleton]
        constructor
        · exact .inl
        · rintro (h | h)
          · exact h
          · omega
    · rw [List.nodup_append]
      refine ⟨h.nd, by simp, fun a ha b hb => ?_⟩
      simp at hb
      subst hb
      exact fun e => hin (e ▸ ha)
    · intro t ht
      rcases List.mem_append.1 ht with h3 | h3
      · exact h.rg t h3
      · simp at h3; omega
    · simp; omega
end Go.Proofs.Ytkdkibnjfgcppaa.nf

namespace Go.Proofs.Ytkdkibnjfgcppaa.nf
open Go.RowKit Go.Shelf
set_option linter.unusedVariables false
attribute [local go_sem] Oper.semAt_some
open df (Kp Owns)

def mark (D : Nat) : Deferred := { target := .collected D, args := #[] }
structure Marks (N : Nat) (ds : List Nat) (W : World) : Prop where
  nd : ds.Nodup
  at' : ∀ D ∈ ds, N ≤ D ∧ W.heap[D]? = some (.deferred (some []))
theorem leave_marks {fn : Func} {tmps : Array Value} {R : Ending → World → Prop} {N n : Nat} (Inv : World → Prop) (hput : ∀ W D, Inv W → N ≤ D → W.heap[D]? = some (.deferred (some [])) → Inv (W.putObj D (.deferred none)))
    (hend : ∀ W, Inv W → ∃ v, (results fn tmps).run Try.prog W = .ok v W ∧ R (.returned v) W) : ∀ (ds : List Nat) (W : World), Marks N ds W → Inv W → LeavesInM Fence.wide n Try.prog fn tmps R (ds.map mark) .returning W
  | [], W, _, hi => hend W hi
  | D :: ds, W, hm, hi => by
    obtain ⟨h1, h2⟩ := hm.at' D (by simp)
    have hnd := List.nodup_cons.1 hm.nd
    refine ⟨by simp, .inl ⟨D, _, rfl, run_takeDeferred h2, ?_⟩⟩
    refine leave_marks Inv hput hend ds _ ⟨hnd.2, fun D' hD' => ?_⟩ (hput W D hi h1 h2)
    obtain ⟨a1, a2⟩ := hm.at' D' (by simp [hD'])
    exact ⟨a1, (World.putObj_heap_other (fun e => hnd.1 (by subst e; exact hD'))).trans a2⟩
theorem Marks.moved {X : Nat → Prop} {B N : Nat} {ds : List Nat} {W W' : World} (h : Marks N ds W) (m : Moved X B W W') : Marks N ds W' := ⟨h.nd, fun D hD => ⟨(h.at' D hD).1, m.ot.same D _ (h.at' D hD).2 rfl⟩⟩
theorem Crowd.pop {X : Nat → Prop} {W : World} {B c sb n : Nat} {m : List Bool} {va : Value} {l q0 : List Int} {t : Int} {g cq : Nat} (h : Crowd X W B c sb n m va (.slice (some ⟨g, 0, none⟩) (q0.length + 1) cq) l (q0 ++ [t])) :
    Crowd X (W.setCell ⟨c, 2, none⟩ (.slice (some ⟨g, 0, none⟩) q0.length cq)) B c sb n m va (.slice (some ⟨g, 0, none⟩) q0.length cq) l q0 := by
  have hr : Owns W B (.slice (some ⟨g, 0, none⟩) q0.length cq) q0 := by
    rcases h.wait.2 with ⟨h0, _⟩ | ⟨gg, cap, cur, e, hb, hgg, hn, hc, hs, ht⟩
    · cases h0
    · simp only [Value.slice.injEq, Option.some.injEq, Addr.mk.injEq] at e
      obtain ⟨⟨rfl, _⟩, _, rfl⟩ := e
      rw [List.length_append] at hn ht
      simp only [List.length_cons, List.length_nil] at hn ht
      refine ⟨by simp, .inr ⟨_, _, cur, rfl, hb, hgg, by omega, hc, hs, ?_⟩⟩
      have := congrArg (List.take (q0.length * 1)) ht
      rw [List.take_take] at this
      simpa [Nat.min_def] using this
  exact h.putW hr ⟨rfl, rfl, rfl, Nat.le_refl _, fun _ _ _ => rfl⟩ (.inl rfl)

theorem Moved.less {X Y : Nat → Prop} {B : Nat} {W W' : World} (h : Moved X B W W') (hx : ∀ b, Y b → X b) : Moved Y B W W' := ⟨⟨h.kp.1, fun b hb => h.kp.2 b (hx b hb)⟩, h.be, h.ot⟩
def esOf {Q : Ed → Prop} (pre : List { e : Ed // Q e }) : List Ed := pre.map (·.1)
theorem esOf_snoc {Q : Ed → Prop} (pre : List { e : Ed // Q e }) (y : { e : Ed // Q e }) : esOf (pre ++ [y]) = esOf pre ++ [y.1] := by unfold esOf; rw [List.map_append]; rfl
theorem addAll_len (es : List Ed) : ∀ st : List Int × List Int, (addAll es st).2.length + st.1.length = (addAll es st).1.length + st.2.length ∧ st.1.length ≤ (addAll es st).1.length := by
  induction es with
  | nil => intro st; unfold addAll; simp; omega
  | cons e es ih =>
    intro st
    have h := ih (addF st e)
    have k : (addF st e).2.length + st.1.length = (addF st e).1.length + st.2.length ∧ st.1.length ≤ (addF st e).1.length := by
      unfold addF addE
      split
      · split
        · omega
        · simp; omega
      · omega
    have e1 : addAll (e :: es) st = addAll es (addF st e) := rfl
    rw [e1]
    omega
def SpreadIs (x : Nfa) (n : Nat) : Prop := ∀ (P : Int → Prop) (X : Nat → Prop) (B c sb : Nat) (l q : List Int) (o : Option Addr) (cap fb nb : Nat) (W : World), Cr X W B c sb n l q → Inv x P l q → WebAt X W x.edges n o cap fb nb →
    Calls Try.prog 73 #[.pointer (some ⟨c, 0, none⟩), webV o x.edges.length cap n fb nb] W fun e W' => (∃ v, e = .returned v) ∧ ∃ l', Cr X W' B c sb n l' [] ∧ Inv x P l' [] ∧ (∀ t ∈ l, t ∈ l') ∧ Moved X B W W'

set_option maxRecDepth 100000 in
set_option maxHeartbeats 4000000 in
theorem spread_in (x : Nfa) (n : Nat) (hn : n ≤ 2000) (hm : x.edges.length ≤ 16000) (hto : ∀ e ∈ x.edges, 0 ≤ e.to ∧ e.to < (n : Int)) (P : Int → Prop) (X : Nat → Prop) (B c sb : Nat) (l q : List Int) (o : Option Addr) (cap fb nb : Nat) (W : World) (hC : Cr X W B c sb n l q) (hI : Inv x P l q) (hW : WebAt X W x.edges n o cap fb nb) :
    CallsIn Fence.wide 6 Try.prog 73 #[.pointer (some ⟨c, 0, none⟩), webV o x.edges.length cap n fb nb] W fun e W' => (∃ v, e = .returned v) ∧ ∃ l', Cr X W' B c sb n l' [] ∧ Inv x P l' [] ∧ (∀ t ∈ l, t ∈ l') ∧ Moved X B W W' := by
  have hB : B ≤ W.heap.size := by obtain ⟨m, va, vw, k, _⟩ := hC.lie; exact k.size
  have hXl : ∀ b, X b → b < W.heap.size := hW.lt
  have bP := Boxed.new W 128 (.pointer (some ⟨c, 0, none⟩))
  obtain ⟨W2, hW2⟩ : ∃ W2, W2 = (W.alloc (.cells #[.pointer (some ⟨c, 0, none⟩)] 128)).alloc (.cells #[.slice o x.edges.length cap, .slice (some ⟨fb, 0, none⟩) n n, .slice (some ⟨nb, 0, none⟩) x.edges.length x.edges.length] 132) := ⟨_, rfl⟩
  have sz : W2.heap.size = W.heap.size + 1 + 1 := by rw [hW2]; simp
  have B2 : Below W.heap.size W W2 := by rw [hW2]; exact ((Below.refl _ W).alloc (Nat.le_refl _) _).alloc (by simp) _
  have M0 : Moved X B W W2 := by rw [hW2]; exact ((Moved.refl X B W).alloc hXl hB _).alloc (fun b hb => by have := hXl b hb; simp; omega) (by simp; omega) _
  have P2 : Boxed W2 W.heap.size 128 (.pointer (some ⟨c, 0, none⟩)) := by rw [hW2]; exact bP.alloc _
  have Q2 : WBox W2 (W.heap.size + 1) o x.edges.length cap n fb nb := by
    rw [hW2]
    have := World.alloc_heap_new (W.alloc (.cells #[.pointer (some ⟨c, 0, none⟩)] 128)) (.cells #[.slice o x.edges.length cap, .slice (some ⟨fb, 0, none⟩) n n, .slice (some ⟨nb, 0, none⟩) x.edges.length x.edges.length] 132)
    rwa [World.size_alloc] at this
  obtain ⟨X', hX'⟩ : ∃ X' : Nat → Prop, X' = fun b => X b ∨ b = W.heap.size ∨ b = W.heap.size + 1 := ⟨_, rfl⟩
  have hXX : ∀ b, X b → X' b := fun b hb => by rw [hX']; exact .inl hb
  have hXp : X' W.heap.size := by rw [hX']; exact .inr (.inl rfl)
  have hXq : X' (W.heap.size + 1) := by rw [hX']; exact .inr (.inr rfl)
  have hX'l : ∀ b, X' b → b < W2.heap.size := fun b hb => by
    rw [hX'] at hb
    rcases hb with h | h | h
    · have := hXl b h; omega
    · omega
    · omega
  have C2 : Cr X' W2 B c sb n l q := hC.more B2 (fun b hb => by
    rw [hX'] at hb
    rcases hb with h | h | h
    · exact .inl h
    · exact .inr (by omega)
    · exact .inr (by omega))
  have V2 : WebAt X' W2 x.edges n o cap fb nb := by
    have V := hW.carry (Kp.below B2 B2.size hXl)
    exact ⟨V.fit, V.top, fun i hi => by obtain ⟨b, off, e, hp, hc⟩ := V.lie i hi; exact ⟨b, off, e, hXX b hp, hc⟩, V.fr, V.nr, hXX _ V.pf, hXX _ V.pn, hX'l⟩
  have hB2 : B ≤ W2.heap.size := by omega
  clear hX' bP
  refine callsIn_of_wp_marks Try.func73 rfl trivial ?_ rfl
  simp only [Try.ntmps73, List.size_toArray, List.length_cons, List.length_nil, Nat.reduceAdd, Nat.reduceSub, Array.replicate_succ, Array.replicate_zero, List.push_toArray, List.append_toArray, List.nil_append, List.cons_append]
  gi_wp2
  rw [← hW2]
  clear hW2
  refine wpIn_loop_ghost (fun k a w => ∃ (l1 q1 : List Int) (ds : List Nat) (u4 u5 u6 u7 u8 u9 u10 u11 u12 u13 u14 u15 u16 u17 u18 u19 u20 u21 u22 u23 u24 u25 u26 u27 u28 u29 u30 u31 u32 u33 u34 u35 u36 u37 u38 u39 u40 u41 u42 u43 u44 : Value), k = q1.length + 2 * (n - l1.length) ∧ a = { tmps := #[.pointer (some ⟨c, 0, none⟩), webV o x.edges.length cap n fb nb, .pointer (some ⟨W.heap.size, 0, none⟩), .pointer (some ⟨W.heap.size + 1, 0, none⟩), u4, u5, u6, u7, u8, u9, u10, u11, u12, u13, u14, u15, u16, u17, u18, u19, u20, u21, u22, u23, u24, u25, u26, u27, u28, u29, u30, u31, u32, u33, u34, u35, u36, u37, u38, u39, u40, u41, u42, u43, u44], defers := ds.map mark } ∧ Cr X' w B c sb n l1 q1 ∧ Inv x P l1 q1 ∧ (∀ t ∈ l, t ∈ l1) ∧ Moved X' B W2 w ∧ Marks W2.heap.size ds w) (q.length + 2 * (n - l.length)) ⟨l, q, [], undef, undef, undef, undef, undef, undef, undef, undef, undef, undef, undef, undef, undef, undef, undef, undef, undef, undef, undef, undef, undef, undef, undef, undef, undef, undef, undef, undef, undef, undef, undef, undef, undef, undef, undef, undef, undef, undef, undef, undef, undef, rfl, rfl, C2, hI, fun _ h => h, Moved.refl _ _ _, ⟨List.nodup_nil, by simp⟩⟩ ?_
  rintro k a w ⟨l1, q1, ds, u4, u5, u6, u7, u8, u9, u10, u11, u12, u13, u14, u15, u16, u17, u18, u19, u20, u21, u22, u23, u24, u25, u26, u27, u28, u29, u30, u31, u32, u33, u34, u35, u36, u37, u38, u39, u40, u41, u42, u43, u44, rfl, rfl, hC1, hI1, hS1, hM1, hD1⟩
  have p1 : Boxed w W.heap.size 128 (.pointer (some ⟨c, 0, none⟩)) := (hM1.kp.2 _ hXp).trans P2
  have pc := p1.cell
  obtain ⟨m, va, vw, K, hmk⟩ := hC1.lie
  have k2 := K.c2
  have HC1 := (show Hid (Cr X' w B c sb n l1 q1) from hC1)
  rcases List.eq_nil_or_concat q1 with rfl | ⟨q0, t, hq⟩
  · obtain ⟨gq, cq, rfl⟩ := df.own_slice K.wait
    gi_wp2
    refine leave_marks (N := W2.heap.size) (fun W' => Cr X' W' B c sb n l1 [] ∧ Moved X' B W2 W') (fun V D hV hD hd => ?_) (fun V hV => ?_) ds w hD1 ⟨HC1.out, hM1⟩
    · exact ⟨Cr.own (N := W2.heap.size) (fun _ : Unit => (l1, [])) () V _ (some D) hV.1 (grownBy_putObj' V D _) (fun r e => by cases e; exact ⟨hD, _, hd, rfl⟩), moved_own hX'l hB2 (Nat.le_refl _) () V _ (some D) hV.2 (grownBy_putObj' V D _) (fun r e => by cases e; exact ⟨hD, _, hd, rfl⟩)⟩
    · exact ⟨_, results_none rfl _ _ _, ⟨_, rfl⟩, l1, hV.1.less hXX, hI1, hS1, M0.trans (hV.2.less hXX)⟩
  · rw [List.concat_eq_append] at hq
    subst hq
    have htl : t ∈ l1 := hI1.sub t (by simp)
    have htr := hC1.rg t htl
    obtain ⟨s, rfl⟩ : ∃ s : Nat, t = (s : Int) := ⟨t.toNat, by omega⟩
    have hsn : s < n := by omega
    have hln := hC1.len
    have hql := hC1.ql
    have ho := K.wait
    have hlen : (q0 ++ [(s : Int)]).length = q0.length + 1 := by simp
    unfold df.Owns at ho
    rw [hlen] at ho
    obtain ⟨g, cq, rfl⟩ := ownsRow_succ ho
    have hcq : q0.length + 1 ≤ cq ∧ cq ≤ 9223372036854775807 := by
      rcases ho.2 with ⟨h0, _⟩ | ⟨gg, cap, cur, e, hb, hgg, hnn, hc, _⟩
      · cases h0
      · simp only [Value.slice.injEq] at e
        obtain ⟨_, _, rfl⟩ := e
        unfold maxLen at hc
        exact ⟨hnn, hc⟩
    have hcell := World.ownsRow.cellAt ho q0.length (by omega)
    have hc5 : w.cell? ⟨g, q0.length, none⟩ = some (.int .i64 (s : Int)) := by rw [hcell]; simp
    have hfz := K.fz 2
    have K3 := K.pop
    have HK3 := (show Hid _ from K3)
    have hlen2 : q0.length ≤ 2000 := by rw [hlen] at hql; omega
    obtain ⟨hcq1, hcq2⟩ := hcq
    clear hcell ho hlen K3
    gi_wp2
    gi_region
    obtain ⟨w3, hw3⟩ : ∃ w3, w3 = (w.setCell ⟨c, 2, none⟩ (.slice (some ⟨g, 0, none⟩) q0.length cq)).drew := ⟨_, rfl⟩
    have C3 : Cr X' w3 B c sb n l1 q0 := by rw [hw3]; exact ⟨⟨m, va, _, (HK3.out.keep (W' := (w.setCell ⟨c, 2, none⟩ (.slice (some ⟨g, 0, none⟩) q0.length cq)).drew) (Nat.le_refl _) rfl rfl (fun _ _ => rfl) (fun _ _ => rfl)), hmk⟩, HC1.out.nd, HC1.out.rg, by have := HC1.out.ql; simp at this; omega⟩
    have M3' : Moved X' B w w3 := by
      rw [hw3]
      have h := (Moved.refl X' B w).set (g := c) (fun b hb => (K.ap b hb).2.1) K.bc 2 (.slice (some ⟨g, 0, none⟩) q0.length cq)
      exact ⟨h.kp, h.be.drew, ⟨h.ot.size, h.ot.same⟩⟩
    have M3 : Moved X' B W2 w3 := hM1.trans M3'
    have D3 := hD1.moved M3'
    rw [← hw3]
    clear hw3 HK3 K hmk HC1 k2 pc p1 hfz hc5 M3' hC1
    have q3 : WBox w3 (W.heap.size + 1) o x.edges.length cap n fb nb := (M3.kp.2 _ hXq).trans Q2
    have e0 := q3.c0
    have e1 := q3.c1
    have e2 := q3.c2
    have V3 := V2.carry M3.kp
    have hfrom := fun W => from_in o x.edges.length cap n fb nb (s : Int) W
    gi_wp2_with (refine ⟨trivial, ?_⟩; gi_at_call 84; refine (callsIn_wide.2 (hfrom _)).mono ?_; rintro e w4 ⟨rfl, rfl⟩)
    have hsz3 : W2.heap.size ≤ w3.heap.size := M3.kp.1
    obtain ⟨W4, hW4⟩ : ∃ W4, W4 = (w3.alloc (.cells #[.slice o x.edges.length cap, .slice (some ⟨fb, 0, none⟩) n n, .slice (some ⟨nb, 0, none⟩) x.edges.length x.edges.length] 132)).alloc (.cells #[.int .i64 (s : Int)] 3) := ⟨_, rfl⟩
    have sz4 : W4.heap.size = w3.heap.size + 1 + 1 := by rw [hW4]; simp
    have B4 : Below w3.heap.size w3 W4 := by rw [hW4]; exact ((Below.refl _ w3).alloc (Nat.le_refl _) _).alloc (by simp) _
    have G4 : WBox W4 w3.heap.size o x.edges.length cap n fb nb := by rw [hW4]; exact (Below.heap_alloc _ _ _ (by simp)).trans (World.alloc_heap_new w3 _)
    have S4 : Boxed W4 (w3.heap.size + 1) 3 (.int .i64 (s : Int)) := by
      rw [hW4]
      have := Boxed.new (w3.alloc (.cells #[.slice o x.edges.length cap, .slice (some ⟨fb, 0, none⟩) n n, .slice (some ⟨nb, 0, none⟩) x.edges.length x.edges.length] 132)) 3 (.int .i64 (s : Int))
      rwa [World.size_alloc] at this
    have hX3 : ∀ b, X' b → b < w3.heap.size := fun b hb => Nat.lt_of_lt_of_le (hX'l b hb) hsz3
    have MM4 : Moved X' B w3 W4 := by rw [hW4]; exact ((Moved.refl X' B w3).alloc hX3 (by omega) _).alloc (fun b hb => by have := hX3 b hb; simp; omega) (by simp; omega) _
    obtain ⟨Y, hY⟩ : ∃ Y : Nat → Prop, Y = fun b => X' b ∨ b = w3.heap.size := ⟨_, rfl⟩
    have hXY : ∀ b, X' b → Y b := fun b hb => by rw [hY]; exact .inl hb
    have hYg : Y w3.heap.size := by rw [hY]; exact .inr rfl
    have hYl : ∀ b, Y b → b < W4.heap.size := fun b hb => by
      rw [hY] at hb
      rcases hb with h | h
      · have := hX3 b h; omega
      · omega
    have C4 : Cr Y W4 B c sb n l1 q0 := C3.more B4 (fun b hb => by
      rw [hY] at hb
      rcases hb with h | h
      · exact .inl h
      · exact .inr (by omega))
    have V4 : WebAt Y W4 x.edges n o cap fb nb := by
      have V := V3.carry (Kp.below B4 B4.size hX3)
      exact ⟨V.fit, V.top, fun i hi => by obtain ⟨b, off, e, hp, hc⟩ := V.lie i hi; exact ⟨b, off, e, hXY b hp, hc⟩, V.fr, V.nr, hXY _ V.pf, hXY _ V.pn, hYl⟩
    have P4 : Boxed W4 W.heap.size 128 (.pointer (some ⟨c, 0, none⟩)) := (MM4.kp.2 _ hXp).trans ((M3.kp.2 _ hXp).trans P2)
    have hB4 : B ≤ W4.heap.size := by omega
    rw [← hW4]
    clear hW4 hY e0 e1 e2
    refine wpIn_rangeFunc_ownH (α := { e : Ed // 0 ≤ e.to ∧ e.to < (n : Int) }) rfl (by omega) (gf := 92) (lb := #[.pointer (some ⟨w3.heap.size, 0, none⟩), .pointer (some ⟨w3.heap.size + 1, 0, none⟩)]) rfl trivial (enters_of Try.func92 (by kernel_rfl) rfl)
      (from_stops (Q := fun e => 0 ≤ e.to ∧ e.to < (n : Int)) Y w3.heap.size (w3.heap.size + 1) x.edges n s hsn hm o cap fb nb hto W4 V4 G4 hYg S4) (fun h k => h.trans k) (Kp.book hYl) (Below.refl _ _) (fun _ => rfl)
      (fun pre V => Cr Y V B c sb n (addAll (esOf pre) (l1, q0)).1 (addAll (esOf pre) (l1, q0)).2 ∧ Moved Y B W4 V)
      (fun _ _ _ => False)
      (OwnFrom.and (Cr.own _) (moved_own hYl hB4 (Nat.le_refl _)))
      (fun _ _ _ _ _ hs _ _ => hs)
      ⟨C4, Moved.refl _ _ _⟩
      (fun y a' V => ∃ Bx, V.heap[Bx]? = some (.cells #[.int .i64 y.1.fr, .int .i64 y.1.to, .bool y.1.free, .int .u64 y.1.a, .int .u64 y.1.b, .int .u64 y.1.c, .int .u64 y.1.d] 105 (0, 0)) ∧ a' = { tmps := #[.pointer (some ⟨c, 0, none⟩), webV o x.edges.length cap n fb nb, .pointer (some ⟨W.heap.size, 0, none⟩), .pointer (some ⟨W.heap.size + 1, 0, none⟩), .int .i64 (q0.length : Int), .int .i64 (s : Int), .pointer (some ⟨Bx, 0, none⟩), .pointer (some ⟨c, 0, none⟩), .pointer (some ⟨c, 0, none⟩), .pointer (some ⟨c, 2, none⟩), .slice (some ⟨g, 0, none⟩) (q0.length + 1) cq, .int .i64 ((q0.length : Int) + 1), .bool true, .pointer (some ⟨c, 0, none⟩), .pointer (some ⟨c, 0, none⟩), .pointer (some ⟨c, 2, none⟩), .slice (some ⟨g, 0, none⟩) (q0.length + 1) cq, .int .i64 ((q0.length : Int) + 1), .int .i64 (q0.length : Int), .pointer (some ⟨c, 0, none⟩), .pointer (some ⟨c, 0, none⟩), .pointer (some ⟨c, 2, none⟩), .slice (some ⟨g, 0, none⟩) (q0.length + 1) cq, .int .i64 (q0.length : Int), .pointer (some ⟨g, q0.length, none⟩), .int .i64 (s : Int), .pointer (some ⟨c, 0, none⟩), .pointer (some ⟨c, 0, none⟩), .pointer (some ⟨c, 0, none⟩), .pointer (some ⟨c, 2, none⟩), .slice (some ⟨g, 0, none⟩) (q0.length + 1) cq, .int .i64 (q0.length : Int), .slice (some ⟨g, 0, none⟩) q0.length cq, .pointer (some ⟨c, 0, none⟩), .pointer (some ⟨c, 2, none⟩), webV o x.edges.length cap n fb nb, .int .i64 (s : Int), .func (.func 92) #[] #[.pointer (some ⟨w3.heap.size, 0, none⟩), .pointer (some ⟨w3.heap.size + 1, 0, none⟩)], edV y.1, u39, u40, u41, u42, u43, u44], defers := [] })
      (fun y a' _ V V' row hs hg hr => by
        obtain ⟨Bx, h1, h2⟩ := hs
        exact ⟨Bx, (hg.block Bx (Array.getElem?_eq_some_iff.1 h1).1 (fun e => by obtain ⟨_, o', ho', hn'⟩ := hr Bx e.symm; rw [h1] at ho'; cases ho'; cases hn')).trans h1, h2⟩)
      ?assign ?body ?done ?stop
    case assign =>
      rintro lo pre y V KK ⟨hC, hM⟩ hKK
      have hVl : ∀ b, Y b → b < V.heap.size := fun b hb => Nat.lt_of_lt_of_le (hYl b hb) hM.kp.1
      have hBV : B ≤ V.heap.size := Nat.le_trans hB4 hM.kp.1
      gi_wp2
      have mv := (Moved.refl Y B V).alloc hVl hBV (.cells #[.int .i64 y.1.fr, .int .i64 y.1.to, .bool y.1.free, .int .u64 y.1.a, .int .u64 y.1.b, .int .u64 y.1.c, .int .u64 y.1.d] 105)
      exact hKK _ _ (mv.ot.from _) mv.kp ⟨hC.later (below_alloc _ _), hM.trans mv⟩ ⟨V.heap.size, World.alloc_heap_new V _, rfl⟩
    case body =>
      rintro lo pre y a' V hlo ⟨r, hr⟩ ⟨hC, hM⟩ ⟨Bx, hbx, rfl⟩ hlt
      have d1 : V.cell? ⟨Bx, 1, none⟩ = some (.int .i64 y.1.to) := by rw [Lib.cell_of_heap hbx]; rfl
      have d2 : V.cell? ⟨Bx, 2, none⟩ = some (.bool y.1.free) := by rw [Lib.cell_of_heap hbx]; rfl
      have pV : Boxed V W.heap.size 128 (.pointer (some ⟨c, 0, none⟩)) := (hM.kp.2 _ (hXY _ hXp)).trans P4
      have pcV := pV.cell
      obtain ⟨y, hy1, hy2⟩ := y
      dsimp only at *
      have HSN : Hid (addAll (esOf (pre ++ [⟨y, hy1, hy2⟩])) (l1, q0) = addF (addAll (esOf pre) (l1, q0)) y) := by show _ = _; rw [esOf_snoc]; exact addAll_snoc _ _ _
      obtain ⟨s2, hs2⟩ : ∃ s2 : Nat, y.to = (s2 : Int) := ⟨y.to.toNat, by omega⟩
      cases hf : y.free with
      | false =>
        rw [hf] at d2
        have e1 : Hid (addAll (esOf (pre ++ [⟨y, hy1, hy2⟩])) (l1, q0) = addAll (esOf pre) (l1, q0)) := by show _ = _; rw [HSN.out]; unfold addF; rw [hf]; rfl
        clear hs2 hf HSN
        gi_wp2
        exact ⟨KeepsFrom.refl _ _, ⟨Nat.le_refl _, fun _ _ => rfl⟩, by rw [e1.out]; exact hC, hM⟩
      | true =>
        rw [hf] at d2
        have e1 : Hid (addAll (esOf (pre ++ [⟨y, hy1, hy2⟩])) (l1, q0) = addE (addAll (esOf pre) (l1, q0)) (s2 : Int)) := by show _ = _; rw [HSN.out]; unfold addF; rw [hf, hs2]; rfl
        have hadd := add_any Y B c sb n hn (addAll (esOf pre) (l1, q0)).1 (addAll (esOf pre) (l1, q0)).2 s2 (by omega) V hC
        rw [hs2] at d1
        clear hs2 hf HSN
        gi_wp2_with (refine ⟨trivial, ?_⟩; gi_at_call 72; refine (CallsIn.inRound lo (callsIn_wide.2 hadd)).mono ?_; rintro e V2 ⟨⟨v, rfl⟩, hC2, hM2⟩)
        exact ⟨hM2.ot.from _, hM2.kp, by rw [e1.out]; exact hC2, hM.trans hM2⟩
    case done =>
      rintro D ys V hD hS ⟨hC, hM⟩ hK
      have hS2 : esOf ys = chainOf x.edges x.edges.length (s : Int) := hS
      rw [hS2] at hC
      have hI2 := inv_step hI1
      have hsub : ∀ t ∈ l, t ∈ (addAll (chainOf x.edges x.edges.length (s : Int)) (l1, q0)).1 := fun t ht => addAll_sub _ (l1, q0) t (hS1 t ht)
      have hl := addAll_len (chainOf x.edges x.edges.length (s : Int)) (l1, q0)
      have hcl := hC.len
      have mv : Moved X' B w3 V := MM4.trans (hM.less hXY)
      have D5 : Marks W2.heap.size (D :: ds) V := by
        have h := D3.moved mv
        refine ⟨List.nodup_cons.2 ⟨fun hin => ?_, h.nd⟩, fun D' hD' => ?_⟩
        · have h1 := (D3.at' D hin).2
          have h2 := (Array.getElem?_eq_some_iff.1 h1).1
          omega
        · rcases List.mem_cons.1 hD' with rfl | h1
          · exact ⟨by omega, hK⟩
          · exact h.at' D' h1
      gi_wp2
      rw [sz] at D5
      exact ⟨_, by omega, (addAll (chainOf x.edges x.edges.length (s : Int)) (l1, q0)).1, (addAll (chainOf x.edges x.edges.length (s : Int)) (l1, q0)).2, rfl, D :: ds, rfl, hC.less hXY, hI2, hsub, M3.trans mv, D5⟩
    case stop =>
      rintro D cc pre V _ _ h _
      exact h.elim
theorem spread_any (x : Nfa) (n : Nat) (hn : n ≤ 2000) (hm : x.edges.length ≤ 16000) (hto : ∀ e ∈ x.edges, 0 ≤ e.to ∧ e.to < (n : Int)) : SpreadIs x n :=
  fun P X B c sb l q o cap fb nb W hC hI hW => callsIn_wide.1 (spread_in x n hn hm hto P X B c sb l q o cap fb nb W hC hI hW)
end Go.Proofs.Ytkdkibnjfgcppaa.nf

namespace Go.Proofs.Ytkdkibnjfgcppaa.nf
open Go.RowKit Go.Shelf
set_option linter.unusedVariables false
open df (Kp Owns)

theorem info4 : (Try.prog.info? 4).map (fun i => (i.zero, i.size, i.bytes)) = some (some (.bool false), 1, 1) := by kernel_rfl
theorem bcells_made (n : Nat) : madeCells #[.bool false] n = bcells (List.replicate n false) := by
  apply Array.toList_inj.1
  rw [toList_madeCells_one]
  simp [bcells]
theorem make24 (n : Nat) (hn : n ≤ 1000000) (W : World) : (Instr.makeSlice 24 (.int .i64 (n : Int)) (.int .i64 (n : Int))).run Try.prog W = .ok (.slice (some ⟨W.heap.size, 0, none⟩) n n) (W.alloc (.cells (bcells (List.replicate n false)) 4)) := by
  rw [← bcells_made]
  exact run_make_row' (P := Try.prog) 24 4 (.bool false) 1 Try.underlying24 info4 rfl .i64 .i64 n (by omega) (by omega) W
theorem three (h : Array Obj) (a b c : Obj) : (((h.push a).push b).push c)[h.size]? = some a ∧ (((h.push a).push b).push c)[h.size + 1]? = some b ∧ (((h.push a).push b).push c)[h.size + 1 + 1]? = some c := by
  refine ⟨?_, ?_, ?_⟩ <;> simp only [Array.getElem?_push, Array.size_push] <;> (repeat (first | rw [if_pos rfl] | rw [if_pos trivial] | rw [if_neg (by omega)]))
def NewIs (n : Nat) : Prop := ∀ (s e : Int) (o : Option Addr) (m cap : Nat) (X : Nat → Prop) (W : World), (∀ b, X b → b < W.heap.size) → Calls Try.prog 71 #[nfaV (n : Int) s e o m cap] W fun e W' => ∃ c sb, e = .returned (.pointer (some ⟨c, 0, none⟩)) ∧ Cr X W' W.heap.size c sb n [] [] ∧ Below W.heap.size W W' ∧ KeepsOthers W W'
set_option maxHeartbeats 1000000 in
theorem new_any (n : Nat) (hn : n ≤ 2000) : NewIs n := by
  intro s e o m cap X W hX
  have mk := make24 n (by omega)
  go_enter Try.func71, Try.ntmps71
  go_wp2
  go_ret
  refine ⟨W.heap.size + 1 + 1, W.heap.size + 1, rfl, ⟨⟨List.replicate n false, .slice none 0 0, .slice none 0 0, ⟨?_, ?_, by simp, World.ownsRow_nil _ _ _ _, World.ownsRow_nil _ _ _ _, fun g e => (by cases e), by omega, by omega, fun b hb => ?_⟩, fun i hi => ?_⟩, List.nodup_nil, by simp, by simp⟩, ?_, ?_⟩
  · exact (three W.heap _ _ _).2.2
  · exact (three W.heap _ _ _).2.1
  · have := hX b hb
    exact ⟨by simp; omega, by omega, by omega, by simp [Value.ownBlock], by simp [Value.ownBlock]⟩
  · rw [List.getElem?_replicate, if_pos hi]
    simp
  · exact (((Below.refl _ W).alloc (Nat.le_refl _) _).alloc (by simp) _).alloc (by simp; omega) _
  · exact ((KeepsOthers.alloc _ _).trans (KeepsOthers.alloc _ _)).trans (KeepsOthers.alloc _ _)
end Go.Proofs.Ytkdkibnjfgcppaa.nf

namespace Go.Proofs.Ytkdkibnjfgcppaa.nf
open Go.RowKit Go.Shelf
set_option linter.unusedVariables false
open df (Kp Owns Row iv In IntsV)

theorem others_of {W W' : World} (b : Below W.heap.size W W') : KeepsOthers W W' := ⟨b.size, fun k o hk _ => (b.block k (Array.getElem?_eq_some_iff.1 hk).1).trans hk⟩
theorem moved_of {X : Nat → Prop} {B : Nat} {W W' : World} (b : Below W.heap.size W W') (hX : ∀ b, X b → b < W.heap.size) (hB : B ≤ W.heap.size) : Moved X B W W' := Moved.below b hX hB (others_of b)

/-- what a right nfa's numbers are -/
structure Rt (x : Nfa) (n : Nat) : Prop where
  hx : x.n = (n : Int)
  n1 : 1 ≤ n
  n2 : n ≤ 2000
  m : x.edges.length ≤ 16000
  s : 0 ≤ x.s ∧ x.s < (n : Int)
  e : 0 ≤ x.e ∧ x.e < (n : Int)
  fr : ∀ e ∈ x.edges, 0 ≤ e.fr ∧ e.fr < (n : Int)
  to : ∀ e ∈ x.edges, 0 ≤ e.to ∧ e.to < (n : Int)
theorem rt_of (x : Nfa) (h : right x = true) : ∃ n, Rt x n := by
  unfold right isSt at h
  simp only [Bool.and_eq_true, decide_eq_true_eq, List.all_eq_true] at h
  obtain ⟨⟨⟨⟨⟨h1, h2⟩, h3⟩, h4⟩, h5⟩, h6⟩ := h
  have h7 : ∀ e ∈ x.edges, (0 ≤ e.fr ∧ e.fr < x.n) ∧ (0 ≤ e.to ∧ e.to < x.n) := fun e he => by
    have := h6 e he
    unfold edOk isSt at this
    simpa using this
  refine ⟨x.n.toNat, by omega, by omega, by omega, h3, by omega, by omega, fun e he => ?_, fun e he => ?_⟩
  · have := (h7 e he).1; omega
  · have := (h7 e he).2; omega

/-- the states of a list, each once, as they are met -/
def addS (n : Nat) (st : List Int × List Int) (t : Int) : List Int × List Int := if 0 ≤ t ∧ t < (n : Int) then addE st t else st
def addL (n : Nat) (l : List Int) : List Int × List Int := l.foldl (addS n) ([], [])
theorem addL_snoc (n : Nat) (l : List Int) (t : Int) : addL n (l ++ [t]) = addS n (addL n l) t := by unfold addL; rw [List.foldl_append]; rfl
theorem addL_spec (n : Nat) (l : List Int) : (addL n l).1 = (addL n l).2 ∧ ∀ t, t ∈ (addL n l).1 ↔ t ∈ l ∧ 0 ≤ t ∧ t < (n : Int) := by
  have key : ∀ (k : Nat), k ≤ l.length → (addL n (l.take k)).1 = (addL n (l.take k)).2 ∧ ∀ t, t ∈ (addL n (l.take k)).1 ↔ t ∈ l.take k ∧ 0 ≤ t ∧ t < (n : Int) := by
    intro k
    induction k with
    | zero => intro _; exact ⟨rfl, by simp [addL]⟩
    | succ k ih =>
      intro hk
      obtain ⟨h1, h2⟩ := ih (by omega)
      rw [List.take_succ_eq_append_getElem (by omega), addL_snoc]
      generalize l[k] = u
      generalize l.take k = L at *
      unfold addS addE
      by_cases hu : 0 ≤ u ∧ u < (n : Int)
      · rw [if_pos hu]
        by_cases hin : u ∈ (addL n L).1
        · rw [if_pos hin]
          refine ⟨h1, fun t => ?_⟩
          rw [h2 t]
          simp only [List.mem_append, List.mem_singleton]
          constructor
          · rintro ⟨a, b⟩; exact ⟨.inl a, b⟩
          · rintro ⟨a | a, b⟩
            · exact ⟨a, b⟩
            · subst a; exact (h2 t).1 hin
        · rw [if_neg hin]
          refine ⟨by rw [h1], fun t => ?_⟩
          simp only [List.mem_append, List.mem_singleton]
          rw [h2 t]
          constructor
          · rintro (⟨a, b⟩ | a)
            · exact ⟨.inl a, b⟩
            · subst a; exact ⟨.inr rfl, hu⟩
          · rintro ⟨a | a, b⟩
            · exact .inl ⟨a, b⟩
            · exact .inr a
      · rw [if_neg hu]
        refine ⟨h1, fun t => ?_⟩
        rw [h2 t]
        simp only [List.mem_append, List.mem_singleton]
        constructor
        · rintro ⟨a, b⟩; exact ⟨.inl a, b⟩
        · rintro ⟨a | a, b⟩
          · exact ⟨a, b⟩
          · subst a; exact absurd b hu
  have := key l.length (Nat.le_refl _)
  rwa [List.take_length] at this
/-- what Free answers -/
structure IsFree (x : Nfa) (l L : List Int) : Prop where
  up : L.Pairwise (· < ·)
  mem : ∀ t, t ∈ L ↔ Reach x (fun s => s ∈ l ∧ 0 ≤ s ∧ s < x.n) t
theorem up_eq : ∀ (l m : List Int), l.Pairwise (· < ·) → m.Pairwise (· < ·) → (∀ t, t ∈ l ↔ t ∈ m) → l = m
  | [], [], _, _, _ => rfl
  | [], b :: m, _, _, h => by have := (h b).2 (by simp); cases this
  | a :: l, [], _, _, h => by have := (h a).1 (by simp); cases this
  | a :: l, b :: m, h1, h2, h => by
    rw [List.pairwise_cons] at h1 h2
    have e : a = b := by
      have i1 := (h a).1 (by simp)
      have i2 := (h b).2 (by simp)
      rcases List.mem_cons.1 i1 with e | i1
      · exact e
      · rcases List.mem_cons.1 i2 with e | i2
        · exact e.symm
        · have := h1.1 b i2
          have := h2.1 a i1
          omega
    subst e
    congr 1
    refine up_eq l m h1.2 h2.2 (fun t => ⟨fun ht => ?_, fun ht => ?_⟩)
    · rcases List.mem_cons.1 ((h t).1 (by simp [ht])) with e | h3
      · subst e; have := h1.1 t ht; omega
      · exact h3
    · rcases List.mem_cons.1 ((h t).2 (by simp [ht])) with e | h3
      · subst e; have := h2.1 t ht; omega
      · exact h3
end Go.Proofs.Ytkdkibnjfgcppaa.nf

namespace Go.Proofs.Ytkdkibnjfgcppaa.nf
open Go.RowKit Go.Shelf
set_option linter.unusedVariables false
open df (Kp Owns Row iv In IntsV)

theorem own_cell {w : World} {B : Nat} {g : Option Addr} {k cap : Nat} {l : List Int} (h : Owns w B (.slice g k cap) l) (i : Nat) (hi : i < l.length) : ∃ b, g = some ⟨b, 0, none⟩ ∧ w.cell? ⟨b, i, none⟩ = some (.int .i64 l[i]) ∧ b < w.heap.size := by
  rcases h.2 with ⟨e, h0⟩ | ⟨gg, cap', cur, e, hb, hgg, hn, hc, hs, ht⟩
  · omega
  · cases e
    refine ⟨gg, rfl, ?_, (Array.getElem?_eq_some_iff.1 hgg).1⟩
    have := World.ownsRow.cellAt h i (by omega)
    rw [this, List.getElem?_map, List.getElem?_eq_getElem hi]
    rfl
theorem own_cap {w : World} {B : Nat} {g : Option Addr} {k cap : Nat} {l : List Int} (h : Owns w B (.slice g k cap) l) : k = l.length ∧ l.length ≤ cap ∧ cap ≤ 9223372036854775807 := by
  rcases h.2 with ⟨e, h0⟩ | ⟨gg, cap', cur, e, hb, hgg, hn, hc, hs, ht⟩
  · cases e; exact ⟨h0.symm, by omega, by omega⟩
  · cases e; unfold maxLen at hc; exact ⟨rfl, hn, hc⟩
/-- a crowd whose list of all is cut to none -/
theorem Crowd.cutA {X : Nat → Prop} {W : World} {B c sb n : Nat} {m : List Bool} {g : Option Addr} {k cap : Nat} {vw : Value} {l q : List Int} (h : Crowd X W B c sb n m (.slice g k cap) vw l q) :
    Crowd X (W.setCell ⟨c, 1, none⟩ (.slice g 0 cap)) B c sb n m (.slice g 0 cap) vw [] q := by
  have b1 := h.blk
  have hh : ∀ k', k' ≠ c → (W.setCell ⟨c, 1, none⟩ (.slice g 0 cap)).heap[k']? = W.heap[k']? := fun k' hk => Below.heap_setCell _ _ _ k' hk
  have key : ∀ (v : Value) (l : List Int), Owns W B v l → some c ≠ v.ownBlock → Owns (W.setCell ⟨c, 1, none⟩ (.slice g 0 cap)) B v l := fun v l ho hn => by
    refine ⟨ho.1, ?_⟩
    rcases ho.2 with h | ⟨g, cap, cur, rfl, hb, hg, hr⟩
    · exact .inl h
    · exact .inr ⟨g, cap, cur, rfl, hb, (hh g (fun e => hn (by rw [← e]; rfl))).trans hg, hr⟩
  have ha : Owns W B (.slice g 0 cap) [] := by
    refine ⟨rfl, ?_⟩
    rcases h.all.2 with ⟨e, h0⟩ | ⟨gg, cap', cur, e, hb, hgg, hn, hc, hs, ht⟩
    · cases e; exact .inl ⟨rfl, rfl⟩
    · cases e; exact .inr ⟨gg, _, cur, rfl, hb, hgg, by simp, hc, hs, by simp⟩
  have hob : (Value.slice g 0 cap).ownBlock = (Value.slice g k cap).ownBlock := by cases g <;> rfl
  refine ⟨?_, (hh sb h.ne.symm).trans h.seen, h.ml, key _ _ ha (by rw [hob]; exact h.nac), key _ _ h.wait h.nwc, fun g' e => h.two g' (by rw [← hob]; exact e), h.bc, h.bs, fun b hb => ?_⟩
  · rw [set_heap _ _ _ _ 1 _ b1]; rfl
  · obtain ⟨a1, a2, a3, a4, a5⟩ := h.ap b hb
    exact ⟨by simpa using a1, a2, a3, by rw [hob]; exact a4, a5⟩
end Go.Proofs.Ytkdkibnjfgcppaa.nf

namespace Go.Proofs.Ytkdkibnjfgcppaa.nf
open Go.ChangeShapes Go.WideShapes Go.ChangeAt Go.RowKit
set_option linter.unusedVariables false

def Fits (x : Ed) : Prop := x.a < 18446744073709551616 ∧ x.b < 18446744073709551616 ∧ x.c < 18446744073709551616 ∧ x.d < 18446744073709551616
end Go.Proofs.Ytkdkibnjfgcppaa.nf

namespace Go.Proofs.Ytkdkibnjfgcppaa.st
open Go.ChangeShapes Go.WideShapes Go.ChangeAt Go.RowKit
set_option linter.unusedVariables false

theorem chain {w w1 w2 : World} (h1 : Below w.heap.size w w1) (h2 : Below w1.heap.size w1 w2) : Below w.heap.size w w2 := h1.trans (h2.mono h1.size)

theorem bit_and (x m : Nat) (hx : x < 18446744073709551616) : (bits .and .u64 ((x : Int) / 2 ^ m) 1 == 1) = x.testBit m := by
  have h1 : ((x : Int) / 2 ^ m) = ((x / 2 ^ m : Nat) : Int) := by simp
  have h2 := u64_and_nat (x / 2 ^ m) 1 (Nat.lt_of_le_of_lt (Nat.div_le_self _ _) hx) (by omega)
  rw [h1, show ((1 : Nat) : Int) = (1 : Int) from rfl] at *
  rw [h2, Nat.and_one_is_mod, Nat.testBit_eq_decide_div_mod_eq]
  generalize x / 2 ^ m = y
  by_cases h : y % 2 = 1
  · rw [h]; rfl
  · have : y % 2 = 0 := by omega
    rw [this]; rfl
theorem bit_mod (x m : Nat) : (((x : Int) / 2 ^ m).tmod 2 == 1) = x.testBit m := by
  have h1 : ((x : Int) / 2 ^ m) = ((x / 2 ^ m : Nat) : Int) := by simp
  rw [h1, Nat.testBit_eq_decide_div_mod_eq]
  generalize x / 2 ^ m = y
  rw [Int.tmod_eq_emod_of_nonneg (by omega)]
  by_cases h : y % 2 = 1
  · rw [show ((y : Int) % 2) = 1 from by omega, h]; rfl
  · rw [show ((y : Int) % 2) = 0 from by omega, show y % 2 = 0 from by omega]; rfl
theorem bit_or (x m : Nat) (hx : x < 18446744073709551616) (hm : m < 64) : bits .or .u64 (x : Int) (IntKind.u64.wrap (2 ^ m)) = ((x ||| 2 ^ m : Nat) : Int) := by
  have hp : (2 : Nat) ^ m < 18446744073709551616 := Nat.lt_of_lt_of_le (Nat.pow_lt_pow_right (by omega) hm) (by decide)
  have h1 : IntKind.u64.wrap (2 ^ m) = ((2 ^ m : Nat) : Int) := by
    have e : ((2 : Int) ^ m) = ((2 ^ m : Nat) : Int) := by simp
    rw [e, IntKind.wrap_u64]
    generalize 2 ^ m = y at *
    omega
  rw [h1]
  exact u64_or_nat _ _ hx hp

theorem quarter (n : Nat) (h : n < 256) : n / 64 = 0 ∨ n / 64 = 1 ∨ n / 64 = 2 ∨ n / 64 = 3 := by omega

def HasIs (q : Q4) (n : Nat) (r : Bool) : Prop := ∀ w, Calls Try.prog 67 #[.agg #[.int .u64 q.a, .int .u64 q.b, .int .u64 q.c, .int .u64 q.d], .int .u8 n] w fun e w' => e = .returned (.bool r) ∧ Below w.heap.size w w'
set_option maxRecDepth 100000 in
theorem has_any (q : Q4) (hq : Fits q) (n : Nat) (hn : n < 256) (r : Bool) (hr : r = has q n) : HasIs q n r := by
  intro w
  have HR : Hid (r = has q n) := hr
  clear hr
  obtain ⟨m, hm, hm64⟩ : ∃ m : Nat, n % 64 = m ∧ m < 64 := ⟨_, rfl, by omega⟩
  have e2 : ((n : Int) % 64) = m := by omega
  rcases quarter n hn with h | h | h | h
  · have e1 : ((n : Int) / 64) = 0 := by omega
    have e3 := bit_and q.a m hq.a
    have HB : Hid (q.a.testBit m = r) := by show _ = _; rw [HR.out]; unfold has; rw [h, hm]; rfl
    clear h hm HR hn
    go_enter Try.func67, Try.ntmps67
    go_wp2
    go_ret
    exact ⟨by rw [← HB.out]; rfl, (Below.refl _ _).alloc (Nat.le_refl _) _⟩
  · have e1 : ((n : Int) / 64) = 1 := by omega
    have e3 := bit_and q.b m hq.b
    have HB : Hid (q.b.testBit m = r) := by show _ = _; rw [HR.out]; unfold has; rw [h, hm]; rfl
    clear h hm HR hn
    go_enter Try.func67, Try.ntmps67
    go_wp2
    go_ret
    exact ⟨by rw [← HB.out]; rfl, (Below.refl _ _).alloc (Nat.le_refl _) _⟩
  · have e1 : ((n : Int) / 64) = 2 := by omega
    have e3 := bit_and q.c m hq.c
    have HB : Hid (q.c.testBit m = r) := by show _ = _; rw [HR.out]; unfold has; rw [h, hm]; rfl
    clear h hm HR hn
    go_enter Try.func67, Try.ntmps67
    go_wp2
    go_ret
    exact ⟨by rw [← HB.out]; rfl, (Below.refl _ _).alloc (Nat.le_refl _) _⟩
  · have e1 : ((n : Int) / 64) = 3 := by omega
    have e3 := bit_and q.d m hq.d
    have HB : Hid (q.d.testBit m = r) := by show _ = _; rw [HR.out]; unfold has; rw [h, hm]; rfl
    clear h hm HR hn
    go_enter Try.func67, Try.ntmps67
    go_wp2
    go_ret
    exact ⟨by rw [← HB.out]; rfl, (Below.refl _ _).alloc (Nat.le_refl _) _⟩

end Go.Proofs.Ytkdkibnjfgcppaa.st

namespace Go.Proofs.Ytkdkibnjfgcppaa.nf
open Go.RowKit Go.Shelf
set_option linter.unusedVariables false
attribute [local go_sem] Oper.semAt_some
open df (Kp Owns Row iv In IntsV)

def setOf (e : Ed) : st.Q4 := ⟨e.a, e.b, e.c, e.d⟩
def hasE (e : Ed) (b : Nat) : Bool := st.has (setOf e) b
def addB (b : Nat) (st : List Int × List Int) (e : Ed) : List Int × List Int := if e.free = false ∧ hasE e b = true then addE st e.to else st
def addBs (b : Nat) (es : List Ed) (st : List Int × List Int) : List Int × List Int := es.foldl (addB b) st
theorem addBs_snoc (b : Nat) (es : List Ed) (e : Ed) (st : List Int × List Int) : addBs b (es ++ [e]) st = addB b (addBs b es st) e := by unfold addBs; rw [List.foldl_append]; rfl
def stepL (L : List Ed) (b : Nat) (l : List Int) (st : List Int × List Int) : List Int × List Int := l.foldl (fun st s => addBs b (chainOf L L.length s) st) st
theorem stepL_snoc (L : List Ed) (b : Nat) (l : List Int) (s : Int) (st : List Int × List Int) : stepL L b (l ++ [s]) st = addBs b (chainOf L L.length s) (stepL L b l st) := by unfold stepL; rw [List.foldl_append]; rfl
theorem fits_of {e : Ed} (h : Fits e) : st.Fits (setOf e) := ⟨h.1, h.2.1, h.2.2.1, h.2.2.2⟩
/-- a crowd that is only read -/
structure Here (X : Nat → Prop) (W : World) (c : Nat) (l : List Int) : Prop where
  lie : ∃ v0 ga ca v2, W.heap[c]? = some (.cells #[v0, .slice ga l.length ca, v2] 136 (0, 0)) ∧ Row X W iv ga ca l
  pc : X c
theorem Here.carry {X : Nat → Prop} {W W' : World} {c : Nat} {l : List Int} (h : Here X W c l) (k : Kp X W W') : Here X W' c l := by
  obtain ⟨v0, ga, ca, v2, h1, h2⟩ := h.lie
  exact ⟨⟨v0, ga, ca, v2, (k.2 c h.pc).trans h1, h2.carry k.2 (fun _ => id)⟩, h.pc⟩
end Go.Proofs.Ytkdkibnjfgcppaa.nf

namespace Go.Proofs.Ytkdkibnjfgcppaa.nf
open Go.RowKit Go.Shelf
set_option linter.unusedVariables false
open df (Kp Owns Row iv In IntsV)

def FreeIs (f : Nat) (x : Nfa) (l L : List Int) : Prop := ∀ o cap lo lcap w, Eds w o cap x.edges → Row (In w) w iv lo lcap l → Calls Try.prog f #[nfaV x.n x.s x.e o x.edges.length cap, .slice lo l.length lcap] w fun e w' => ∃ v, e = .returned v ∧ IntsV w' v L ∧ Below w.heap.size w w'
set_option maxHeartbeats 1000000 in
theorem free_no (x : Nfa) (l : List Int) (h : right x = false) : FreeIs 57 x l [] := by
  intro o cap lo lcap w hE hL
  have b0 := box_new w x.n x.s x.e o x.edges.length cap
  have h11 := right_any x false h.symm o cap _ (hE.later (below_alloc w (.cells #[.int .i64 x.n, .int .i64 x.s, .int .i64 x.e, .slice o x.edges.length cap] 52)))
  go_enter Try.func57, Try.ntmps57
  go_wp2_with (go_at_call 33; refine h11.mono ?_; rintro e w2 ⟨rfl, b2⟩)
  go_ret
  exact ⟨_, rfl, ⟨none, 0, rfl, Nat.le_refl _, by omega, fun i hi => by simp at hi⟩, chain (below_alloc _ _) b2⟩
theorem eds_keep {w W : World} {o : Option Addr} {cap : Nat} {l : List Ed} (h : Eds w o cap l) (hk : ∀ b, b < w.heap.size → W.heap[b]? = w.heap[b]?) (hs : w.heap.size ≤ W.heap.size) : Eds W o cap l :=
  ⟨h.fit, h.top, fun i hi => by
    obtain ⟨k, off, h1, h2, h3⟩ := h.lie i hi
    exact ⟨k, off, h1, Nat.lt_of_lt_of_le h2 hs, h3.same (hk k h2)⟩⟩
theorem more_of {N A C fb nb : Nat} (h1 : fb < C) (h2 : nb < C) (h3 : A ≤ fb) (h4 : A ≤ nb) : ∀ b, (b < N ∨ b = fb ∨ b = nb) → b < N ∨ (A ≤ b ∧ b < C) := by
  rintro b (h | h | h)
  · exact .inl h
  · exact .inr (by omega)
  · exact .inr (by omega)
theorem web_of {w W : World} {o : Option Addr} {cap n fb nb N : Nat} {l : List Ed} (h : Eds w o cap l) (hk : ∀ b, b < w.heap.size → W.heap[b]? = w.heap[b]?) (hN : w.heap.size ≤ N) (rf : IRow W fb (firsts l n l.length)) (rn : IRow W nb (nexts l l.length)) (hW : N ≤ W.heap.size) :
    WebAt (fun b => b < N ∨ b = fb ∨ b = nb) W l n o cap fb nb :=
  ⟨h.fit, h.top, fun i hi => by
    obtain ⟨k, off, h1, h2, h3⟩ := h.lie i hi
    exact ⟨k, off, h1, .inl (Nat.lt_of_lt_of_le h2 hN), h3.same (hk k h2)⟩, rf, rn, .inr (.inl rfl), .inr (.inr rfl), fun b hb => by
    rcases hb with h | h | h
    · omega
    · rw [h]; exact rf.lt
    · rw [h]; exact rn.lt⟩
end Go.Proofs.Ytkdkibnjfgcppaa.nf

namespace Go.Proofs.Ytkdkibnjfgcppaa.nf
open Go.RowKit Go.Shelf
set_option linter.unusedVariables false
open df (Kp Owns Row iv In IntsV)

def Fp (c sb : Nat) (va vw : Value) (b : Nat) : Prop := b = c ∨ b = sb ∨ some b = va.ownBlock ∨ some b = vw.ownBlock
/-- what a crowd keeps off: the rest, the other crowd's blocks, the row's block -/
def Off (X : Nat → Prop) (c sb : Nat) (va vw v : Value) (b : Nat) : Prop := X b ∨ Fp c sb va vw b ∨ some b = v.ownBlock
structure Mks (n : Nat) (m : List Bool) (l q : List Int) : Prop where
  ok : ∀ i, i < n → m[i]? = some (decide ((i : Int) ∈ l))
  nd : l.Nodup
  rg : ∀ t ∈ l, 0 ≤ t ∧ t < (n : Int)
  ql : q.length ≤ l.length
structure Pair (X : Nat → Prop) (W : World) (B c1 s1 c2 s2 n : Nat) (l1 q1 l2 q2 : List Int) (v : Value) (es : List Int) : Prop where
  lie : ∃ m1 a1 w1 m2 a2 w2, Crowd (Off X c2 s2 a2 w2 v) W B c1 s1 n m1 a1 w1 l1 q1 ∧ Crowd (Off X c1 s1 a1 w1 v) W B c2 s2 n m2 a2 w2 l2 q2 ∧ Mks n m1 l1 q1 ∧ Mks n m2 l2 q2
  row : Owns W B v es
  ap : ∀ b, X b → some b ≠ v.ownBlock
theorem Pair.swap {X : Nat → Prop} {W : World} {B c1 s1 c2 s2 n : Nat} {l1 q1 l2 q2 : List Int} {v : Value} {es : List Int} (h : Pair X W B c1 s1 c2 s2 n l1 q1 l2 q2 v es) : Pair X W B c2 s2 c1 s1 n l2 q2 l1 q1 v es := by
  obtain ⟨m1, a1, w1, m2, a2, w2, k1, k2, h1, h2⟩ := h.lie
  exact ⟨⟨m2, a2, w2, m1, a1, w1, k2, k1, h2, h1⟩, h.row, h.ap⟩
theorem Crowd.off {X Y : Nat → Prop} {W : World} {B c sb n : Nat} {m : List Bool} {va vw : Value} {l q : List Int} (h : Crowd X W B c sb n m va vw l q) (hy : ∀ b, Y b → b < W.heap.size ∧ b ≠ c ∧ b ≠ sb ∧ some b ≠ va.ownBlock ∧ some b ≠ vw.ownBlock) : Crowd Y W B c sb n m va vw l q :=
  ⟨h.blk, h.seen, h.ml, h.all, h.wait, h.two, h.bc, h.bs, hy⟩
theorem Crowd.fp_lt {X : Nat → Prop} {W : World} {B c sb n : Nat} {m : List Bool} {va vw : Value} {l q : List Int} (h : Crowd X W B c sb n m va vw l q) {b : Nat} (hb : Fp c sb va vw b) : b < W.heap.size := by
  rcases hb with rfl | rfl | e | e
  · exact h.lt
  · exact h.seen.lt
  · exact own_lt h.all e.symm
  · exact own_lt h.wait e.symm
theorem own_row {W : World} {B : Nat} {g : Option Addr} {k cap : Nat} {l : List Int} {P : Nat → Prop} (h : Owns W B (.slice g k cap) l) (hp : ∀ b, some b = (Value.slice g k cap).ownBlock → P b) : Row P W iv g cap l := by
  obtain ⟨e1, e2, e3⟩ := own_cap h
  refine ⟨e2, e3, fun i hi => ?_⟩
  obtain ⟨b, rfl, hc, hb⟩ := own_cell h i hi
  exact ⟨b, 0, rfl, hp b rfl, by rw [Nat.zero_add]; exact hc⟩
/-- a pair's first crowd may be worked on -/
theorem Pair.op {X : Nat → Prop} {W : World} {B c1 s1 c2 s2 n : Nat} {l1 q1 l2 q2 : List Int} {v : Value} {es : List Int} (h : Pair X W B c1 s1 c2 s2 n l1 q1 l2 q2 v es) :
    ∃ X1 : Nat → Prop, (∀ b, X b → X1 b) ∧ (∀ b, X1 b → b < W.heap.size) ∧ Cr X1 W B c1 s1 n l1 q1 ∧ Here X1 W c2 l2 ∧ ∀ W' l1' q1', Cr X1 W' B c1 s1 n l1' q1' → Moved X1 B W W' → Pair X W' B c1 s1 c2 s2 n l1' q1' l2 q2 v es := by
  obtain ⟨m1, a1, w1, m2, a2, w2, k1, k2, h1, h2⟩ := h.lie
  refine ⟨Off X c2 s2 a2 w2 v, fun b hb => .inl hb, fun b hb => (k1.ap b hb).1, ⟨⟨m1, a1, w1, k1, h1.ok⟩, h1.nd, h1.rg, h1.ql⟩, ?_, ?_⟩
  · obtain ⟨ga, ca, rfl⟩ := df.own_slice k2.all
    exact ⟨⟨_, ga, ca, w2, k2.blk, own_row k2.all (fun b hb => .inr (.inl (.inr (.inr (.inl hb)))))⟩, .inr (.inl (.inl rfl))⟩
  · intro W' l1' q1' hC hM
    obtain ⟨m, va, vw, K, hk⟩ := hC.lie
    have hsz := hM.kp.1
    have key : ∀ (v : Value) (l : List Int), Owns W B v l → (∀ b, some b = v.ownBlock → W'.heap[b]? = W.heap[b]?) → Owns W' B v l := fun v l ho hn => by
      refine ⟨ho.1, ?_⟩
      rcases ho.2 with h | ⟨g, cap, cur, rfl, hb, hg, hr⟩
      · exact .inl h
      · exact .inr ⟨g, cap, cur, rfl, hb, (hn g rfl).trans hg, hr⟩
    have k2' : Crowd (Off X c1 s1 a1 w1 v) W' B c2 s2 n m2 a2 w2 l2 q2 := k2.keep hsz (hM.kp.2 _ (.inr (.inl (.inl rfl)))) (hM.kp.2 _ (.inr (.inl (.inr (.inl rfl))))) (fun g e => hM.kp.2 _ (.inr (.inl (.inr (.inr (.inl e.symm)))))) (fun g e => hM.kp.2 _ (.inr (.inl (.inr (.inr (.inr e.symm))))))
    refine ⟨⟨m, va, vw, m2, a2, w2, K, k2'.off ?_, ⟨hk, hC.nd, hC.rg, hC.ql⟩, h2⟩, key v es h.row (fun b hb => hM.kp.2 b (.inr (.inr hb))), h.ap⟩
    intro b hb
    rcases hb with hb | hb | hb
    · exact k2'.ap b (.inl hb)
    · refine ⟨K.fp_lt hb, ?_⟩
      have f1 := K.ap c2 (.inr (.inl (.inl rfl)))
      have f2 := K.ap s2 (.inr (.inl (.inr (.inl rfl))))
      have f3 : ∀ b, some b = a2.ownBlock → b ≠ c1 ∧ b ≠ s1 ∧ some b ≠ va.ownBlock ∧ some b ≠ vw.ownBlock := fun b hb => (K.ap b (.inr (.inl (.inr (.inr (.inl hb)))))).2
      have f4 : ∀ b, some b = w2.ownBlock → b ≠ c1 ∧ b ≠ s1 ∧ some b ≠ va.ownBlock ∧ some b ≠ vw.ownBlock := fun b hb => (K.ap b (.inr (.inl (.inr (.inr (.inr hb)))))).2
      rcases hb with rfl | rfl | e | e
      · exact ⟨Ne.symm f1.2.1, Ne.symm f2.2.1, fun e => (f3 _ e).1 rfl, fun e => (f4 _ e).1 rfl⟩
      · exact ⟨Ne.symm f1.2.2.1, Ne.symm f2.2.2.1, fun e => (f3 _ e).2.1 rfl, fun e => (f4 _ e).2.1 rfl⟩
      · exact ⟨fun h => f1.2.2.2.1 (by rw [← h]; exact e), fun h => f2.2.2.2.1 (by rw [← h]; exact e), fun h => (f3 _ h).2.2.1 e, fun h => (f4 _ h).2.2.1 e⟩
      · exact ⟨fun h => f1.2.2.2.2 (by rw [← h]; exact e), fun h => f2.2.2.2.2 (by rw [← h]; exact e), fun h => (f3 _ h).2.2.2 e, fun h => (f4 _ h).2.2.2 e⟩
    · exact k2'.ap b (.inr (.inr hb))
theorem Pair.later {X : Nat → Prop} {W W' : World} {B c1 s1 c2 s2 n : Nat} {l1 q1 l2 q2 : List Int} {v : Value} {es : List Int} (h : Pair X W B c1 s1 c2 s2 n l1 q1 l2 q2 v es) (b : Below W.heap.size W W') : Pair X W' B c1 s1 c2 s2 n l1 q1 l2 q2 v es := by
  obtain ⟨m1, a1, w1, m2, a2, w2, k1, k2, h1, h2⟩ := h.lie
  refine ⟨⟨m1, a1, w1, m2, a2, w2, k1.later b, k2.later b, h1, h2⟩, ?_, h.ap⟩
  refine ⟨h.row.1, ?_⟩
  rcases h.row.2 with h | ⟨g, cap, cur, rfl, hb, hg, hr⟩
  · exact .inl h
  · exact .inr ⟨g, cap, cur, rfl, hb, (b.block g (Array.getElem?_eq_some_iff.1 hg).1).trans hg, hr⟩
theorem Pair.put {X : Nat → Prop} {W W' : World} {B c1 s1 c2 s2 n : Nat} {l1 q1 l2 q2 : List Int} {v : Value} {es es' : List Int} {g' k' cap' : Nat} (h : Pair X W B c1 s1 c2 s2 n l1 q1 l2 q2 v es) (ho : Owns W' B (.slice (some ⟨g', 0, none⟩) k' cap') es') (hg : W.grownBy W' v.ownBlock) (hw : some g' = v.ownBlock ∨ W.heap.size ≤ g') : Pair X W' B c1 s1 c2 s2 n l1 q1 l2 q2 (.slice (some ⟨g', 0, none⟩) k' cap') es' := by
  obtain ⟨m1, a1, w1, m2, a2, w2, k1, k2, h1, h2⟩ := h.lie
  have hsz : W.heap.size ≤ W'.heap.size := hg.size
  have hlt : g' < W'.heap.size := own_lt ho rfl
  have one : ∀ {Y Z : Nat → Prop} {c sb : Nat} {m : List Bool} {a u : Value} {l q : List Int}, Crowd Y W B c sb n m a u l q → (∀ b, some b = v.ownBlock → Y b) → (∀ b, Z b → Y b ∨ b = g') → Crowd Z W' B c sb n m a u l q := by
    intro Y Z c sb m a u l q k hv hz
    have fp : ∀ b, Fp c sb a u b → some b ≠ v.ownBlock := fun b hb e => by
      have := k.ap b (hv b e)
      rcases hb with r | r | r | r
      · exact this.2.1 r
      · exact this.2.2.1 r
      · exact this.2.2.2.1 r
      · exact this.2.2.2.2 r
    have k' : Crowd Y W' B c sb n m a u l q := k.keep hsz (hg.block c k.lt (fp _ (.inl rfl))) (hg.block sb k.seen.lt (fp _ (.inr (.inl rfl)))) (fun g e => hg.block g (own_lt k.all e) (fp _ (.inr (.inr (.inl e.symm))))) (fun g e => hg.block g (own_lt k.wait e) (fp _ (.inr (.inr (.inr e.symm)))))
    refine k'.off fun b hb => ?_
    rcases hz b hb with h | rfl
    · exact k'.ap b h
    · rcases hw with e | e
      · exact k'.ap b (hv b e)
      · have f := fun hb => k.fp_lt (b := b) hb
        exact ⟨hlt, fun h => by have := f (.inl h); omega, fun h => by have := f (.inr (.inl h)); omega, fun h => by have := f (.inr (.inr (.inl h))); omega, fun h => by have := f (.inr (.inr (.inr h))); omega⟩
  refine ⟨⟨m1, a1, w1, m2, a2, w2, one k1 (fun b hb => .inr (.inr hb)) ?_, one k2 (fun b hb => .inr (.inr hb)) ?_, h1, h2⟩, ho, fun b hb e => ?_⟩
  · rintro b (hb | hb | hb)
    · exact .inl (.inl hb)
    · exact .inl (.inr (.inl hb))
    · exact .inr (by simpa [Value.ownBlock] using hb)
  · rintro b (hb | hb | hb)
    · exact .inl (.inl hb)
    · exact .inl (.inr (.inl hb))
    · exact .inr (by simpa [Value.ownBlock] using hb)
  · have e' : b = g' := by simpa [Value.ownBlock] using e
    rcases hw with r | r
    · exact h.ap b hb (by rw [e']; exact r)
    · have := (k1.ap b (.inl hb)).1
      omega
theorem owns_lower {W : World} {B B' : Nat} {v : Value} {l : List Int} (h : Owns W B v l) (hB : B' ≤ B) : Owns W B' v l := by
  refine ⟨h.1, ?_⟩
  rcases h.2 with h | ⟨g, cap, cur, rfl, hb, hg, hr⟩
  · exact .inl h
  · exact .inr ⟨g, cap, cur, rfl, by omega, hg, hr⟩
theorem Pair.mk2 {W W' : World} {N c1 s1 c2 s2 n : Nat} (hN : N ≤ W.heap.size) (h1 : Cr (fun b => b < N) W N c1 s1 n [] []) (h2 : Cr (fun b => b < W.heap.size) W' W.heap.size c2 s2 n [] []) (b : Below W.heap.size W W') : Pair (fun b => b < N) W' N c1 s1 c2 s2 n [] [] [] [] (.slice none 0 0) [] := by
  obtain ⟨m1, a1, w1, k1, e1⟩ := h1.lie
  obtain ⟨m2, a2, w2, k2, e2⟩ := h2.lie
  have low : ∀ b, Fp c2 s2 a2 w2 b → W.heap.size ≤ b := fun b hb => by
    rcases hb with rfl | rfl | e | e
    · exact k2.bc
    · exact k2.bs
    · exact df.own_ge k2.all _ e.symm
    · exact df.own_ge k2.wait _ e.symm
  have k1' := k1.later b
  have k2' : Crowd (fun b => b < W.heap.size) W' N c2 s2 n m2 a2 w2 [] [] := ⟨k2.blk, k2.seen, k2.ml, owns_lower k2.all hN, owns_lower k2.wait hN, k2.two, Nat.le_trans hN k2.bc, Nat.le_trans hN k2.bs, k2.ap⟩
  refine ⟨⟨m1, a1, w1, m2, a2, w2, k1'.off fun b hb => ?_, k2'.off fun b hb => ?_, ⟨e1, h1.nd, h1.rg, h1.ql⟩, ⟨e2, h2.nd, h2.rg, h2.ql⟩⟩, World.ownsRow_nil _ _ _ _, fun b hb e => by cases e⟩
  · rcases hb with hb | hb | hb
    · exact k1'.ap b hb
    · have := low b hb
      have f := fun hb => k1.fp_lt (b := b) hb
      exact ⟨k2.fp_lt hb, fun h => by have := f (.inl h); omega, fun h => by have := f (.inr (.inl h)); omega, fun h => by have := f (.inr (.inr (.inl h))); omega, fun h => by have := f (.inr (.inr (.inr h))); omega⟩
    · cases hb
  · rcases hb with hb | hb | hb
    · exact k2'.ap b (by show b < W.heap.size; have : b < N := hb; omega)
    · exact k2'.ap b (k1.fp_lt hb)
    · cases hb
theorem WebAt.up {P Q : Nat → Prop} {W : World} {l : List Ed} {n : Nat} {o : Option Addr} {cap fb nb : Nat} (h : WebAt P W l n o cap fb nb) (hq : ∀ b, P b → Q b) (hl : ∀ b, Q b → b < W.heap.size) : WebAt Q W l n o cap fb nb :=
  ⟨h.fit, h.top, fun i hi => by obtain ⟨b, off, e, hp, hc⟩ := h.lie i hi; exact ⟨b, off, e, hq b hp, hc⟩, h.fr, h.nr, hq _ h.pf, hq _ h.pn, hl⟩

theorem WebAt.at' {N : Nat} {W W' : World} {l : List Ed} {n : Nat} {o : Option Addr} {cap fb nb : Nat} (h : WebAt (fun b => b < N) W l n o cap fb nb) (b : Below N W W') : WebAt (fun b => b < N) W' l n o cap fb nb := h.carry ⟨b.size, fun k hk => b.block k hk⟩

/-! what an nfa takes -/
def Over (x : Nfa) (b : Nat) (S : Int → Prop) (t : Int) : Prop := ∃ e ∈ x.edges, e.free = false ∧ hasE e b = true ∧ e.to = t ∧ S e.fr
/-- where it may be, over nothing yet, before the j-th byte -/
def Base (x : Nfa) (d : Nat → Nat) (at' : Nat) : Nat → Int → Prop
  | 0 => fun t => t = x.s
  | j + 1 => Over x (d (at' + j)) (Reach x (Base x d at' j))
structure IsRuns (x : Nfa) (d : Nat → Nat) (at' len : Nat) (L : List Int) : Prop where
  up : L.Pairwise (· < ·)
  mem : ∀ t, t ∈ L ↔ ∃ j, at' + j ≤ len ∧ t = ((at' + j : Nat) : Int) ∧ Reach x (Base x d at' j) x.e
structure SoFar (x : Nfa) (d : Nat → Nat) (at' k : Nat) (L : List Int) : Prop where
  up : L.Pairwise (· < ·)
  mem : ∀ t, t ∈ L ↔ ∃ j, j < k ∧ t = ((at' + j : Nat) : Int) ∧ Reach x (Base x d at' j) x.e
  len : L.length ≤ k
theorem SoFar.zero (x : Nfa) (d : Nat → Nat) (at' : Nat) : SoFar x d at' 0 [] := ⟨List.Pairwise.nil, fun t => by simp, Nat.le_refl _⟩
theorem SoFar.no {x : Nfa} {d : Nat → Nat} {at' k : Nat} {L : List Int} (h : SoFar x d at' k L) (hn : ¬ Reach x (Base x d at' k) x.e) : SoFar x d at' (k + 1) L :=
  ⟨h.up, fun t => (h.mem t).trans ⟨fun ⟨j, a, b, c⟩ => ⟨j, by omega, b, c⟩, fun ⟨j, a, b, c⟩ => ⟨j, by
    rcases Nat.lt_or_ge j k with h | h
    · exact h
    · have : j = k := by omega
      subst this; exact absurd c hn, b, c⟩⟩, Nat.le_succ_of_le h.len⟩
theorem SoFar.yes {x : Nfa} {d : Nat → Nat} {at' k : Nat} {L : List Int} (h : SoFar x d at' k L) (hn : Reach x (Base x d at' k) x.e) : SoFar x d at' (k + 1) (L ++ [((at' + k : Nat) : Int)]) := by
  refine ⟨List.pairwise_append.2 ⟨h.up, List.pairwise_singleton _ _, fun a ha b hb => ?_⟩, fun t => ?_, by have := h.len; simp; omega⟩
  · obtain ⟨j, h1, h2, _⟩ := (h.mem a).1 ha
    rw [List.mem_singleton.1 hb, h2]
    omega
  · rw [List.mem_append, List.mem_singleton, h.mem t]
    constructor
    · rintro (⟨j, a, b, c⟩ | e)
      · exact ⟨j, by omega, b, c⟩
      · exact ⟨k, by omega, e, hn⟩
    · rintro ⟨j, a, b, c⟩
      rcases Nat.lt_or_ge j k with h | h
      · exact .inl ⟨j, h, b, c⟩
      · have : j = k := by omega
        subst this; exact .inr b
theorem reach_none {x : Nfa} {P : Int → Prop} (h : ∀ t, ¬ P t) (t : Int) : ¬ Reach x P t := fun r => r.least (Q := fun _ => False) h (fun _ _ _ h => h)
theorem base_none {x : Nfa} {d : Nat → Nat} {at' k : Nat} (h : ∀ t, ¬ Base x d at' k t) : ∀ i t, ¬ Base x d at' (k + i) t
  | 0, t => h t
  | i + 1, t => fun ⟨e, _, _, _, _, r⟩ => reach_none (base_none h i) _ r
theorem SoFar.none {x : Nfa} {d : Nat → Nat} {at' k len : Nat} {L : List Int} (h : SoFar x d at' k L) (hk : at' + k ≤ len + 1) (hn : ∀ t, ¬ Base x d at' k t) : IsRuns x d at' len L :=
  ⟨h.up, fun t => (h.mem t).trans ⟨fun ⟨j, a, b, c⟩ => ⟨j, by omega, b, c⟩, fun ⟨j, a, b, c⟩ => ⟨j, by
    rcases Nat.lt_or_ge j k with h | h
    · exact h
    · obtain ⟨i, rfl⟩ := Nat.exists_eq_add_of_le h
      exact absurd c (reach_none (base_none hn i) _), b, c⟩⟩⟩
theorem SoFar.all {x : Nfa} {d : Nat → Nat} {at' k len : Nat} {L : List Int} (h : SoFar x d at' k L) (hk : at' + k = len + 1) : IsRuns x d at' len L :=
  ⟨h.up, fun t => (h.mem t).trans ⟨fun ⟨j, a, b, c⟩ => ⟨j, by omega, b, c⟩, fun ⟨j, a, b, c⟩ => ⟨j, by omega, b, c⟩⟩⟩
theorem addBs_mem (b : Nat) (es : List Ed) : ∀ st : List Int × List Int, st.1 = st.2 → (addBs b es st).1 = (addBs b es st).2 ∧ ∀ t, t ∈ (addBs b es st).1 ↔ t ∈ st.1 ∨ ∃ e ∈ es, e.free = false ∧ hasE e b = true ∧ e.to = t := by
  induction es with
  | nil => intro st h; exact ⟨h, fun t => by simp [addBs]⟩
  | cons e es ih =>
    intro st h
    have h1 : (addB b st e).1 = (addB b st e).2 := by
      unfold addB addE
      split
      · split
        · exact h
        · simp [h]
      · exact h
    obtain ⟨i1, i2⟩ := ih (addB b st e) h1
    refine ⟨i1, fun t => (i2 t).trans ?_⟩
    have h2 : ∀ t, t ∈ (addB b st e).1 ↔ t ∈ st.1 ∨ (e.free = false ∧ hasE e b = true ∧ e.to = t) := by
      intro t
      unfold addB addE
      split
      · next hh =>
        split
        · next hm => exact ⟨.inl, fun r => r.elim id (fun ⟨_, _, r⟩ => r ▸ hm)⟩
        · simp [hh.1, hh.2]; exact ⟨fun r => r.imp id Eq.symm, fun r => r.imp id Eq.symm⟩
      · next hh => exact ⟨.inl, fun r => r.elim id (fun ⟨a, b, _⟩ => absurd ⟨a, b⟩ hh)⟩
    rw [h2]
    constructor
    · rintro ((h | h) | ⟨e', m, h⟩)
      · exact .inl h
      · exact .inr ⟨e, List.mem_cons_self, h⟩
      · exact .inr ⟨e', List.mem_cons_of_mem _ m, h⟩
    · rintro (h | ⟨e', m, h⟩)
      · exact .inl (.inl h)
      · rcases List.mem_cons.1 m with rfl | m
        · exact .inl (.inr h)
        · exact .inr ⟨e', m, h⟩
theorem stepL_mem (L : List Ed) (b : Nat) (l : List Int) : ∀ st : List Int × List Int, st.1 = st.2 → (stepL L b l st).1 = (stepL L b l st).2 ∧ ∀ t, t ∈ (stepL L b l st).1 ↔ t ∈ st.1 ∨ ∃ e ∈ L, e.free = false ∧ hasE e b = true ∧ e.to = t ∧ e.fr ∈ l := by
  induction l with
  | nil => intro st h; exact ⟨h, fun t => by simp [stepL]⟩
  | cons s l ih =>
    intro st h
    obtain ⟨a1, a2⟩ := addBs_mem b (chainOf L L.length s) st h
    obtain ⟨i1, i2⟩ := ih _ a1
    refine ⟨i1, fun t => (i2 t).trans ?_⟩
    rw [a2]
    constructor
    · rintro ((h | ⟨e, m, h1, h2, h3⟩) | ⟨e, m, h1, h2, h3, h4⟩)
      · exact .inl h
      · obtain ⟨m1, m2⟩ := (mem_chain L s e L.length (Nat.le_refl _)).1 m
        exact .inr ⟨e, List.mem_of_mem_take m1, h1, h2, h3, by rw [m2]; exact List.mem_cons_self⟩
      · exact .inr ⟨e, m, h1, h2, h3, List.mem_cons_of_mem _ h4⟩
    · rintro (h | ⟨e, m, h1, h2, h3, h4⟩)
      · exact .inl (.inl h)
      · rcases List.mem_cons.1 h4 with h4 | h4
        · exact .inl (.inr ⟨e, (mem_chain L s e L.length (Nat.le_refl _)).2 ⟨by rw [List.take_length]; exact m, h4⟩, h1, h2, h3⟩)
        · exact .inr ⟨e, m, h1, h2, h3, h4⟩
end Go.Proofs.Ytkdkibnjfgcppaa.nf

namespace Go.Proofs.Ytkdkibnjfgcppaa.nb
open st (Tr Q4 nodesOf goods okNode)
open nf (Ed)
set_option linter.unusedVariables false

/-- a text: its bytes, its length -/
structure Tx where
  d : Nat → Nat
  len : Nat
/-- what an edge does -/
def EdS (x : Tx) (e : Ed) : Rl := fun a b => e.fr = (a.1 : Int) ∧ e.to = (b.1 : Int) ∧ ((e.free = true ∧ a.2 = b.2) ∨ (e.free = false ∧ a.2 < x.len ∧ b.2 = a.2 + 1 ∧ nf.hasE e (x.d a.2) = true))
def EdR (x : Tx) (l : List Ed) : Rl := fun a b => ∃ e ∈ l, EdS x e a b
theorem edR_nil (x : Tx) (a b : Cf) : ¬ EdR x [] a b := fun ⟨e, he, _⟩ => by cases he
theorem edR_append (x : Tx) (l k : List Ed) (a b : Cf) : EdR x (l ++ k) a b ↔ Un (EdR x l) (EdR x k) a b := by
  unfold EdR Un
  constructor
  · rintro ⟨e, he, h⟩
    rcases List.mem_append.1 he with he | he
    · exact .inl ⟨e, he, h⟩
    · exact .inr ⟨e, he, h⟩
  · rintro (⟨e, he, h⟩ | ⟨e, he, h⟩)
    · exact ⟨e, List.mem_append_left _ he, h⟩
    · exact ⟨e, List.mem_append_right _ he, h⟩
/-- states that have come between two stages -/
def Bt (a b s : Nat) : Prop := a ≤ s ∧ s < b
/-- an edge between these states and two others -/
def Tch (f t a b : Nat) (e : Ed) : Prop := ∃ u v : Nat, e.fr = (u : Int) ∧ e.to = (v : Int) ∧ (u = f ∨ u = t ∨ Bt a b u) ∧ (v = f ∨ v = t ∨ Bt a b v)
theorem Tch.up {f t a b f' t' a' b' : Nat} {e : Ed} (h : Tch f t a b e) (hf : f = f' ∨ f = t' ∨ Bt a' b' f) (ht : t = f' ∨ t = t' ∨ Bt a' b' t) (h1 : a' ≤ a) (h2 : b ≤ b') : Tch f' t' a' b' e := by
  obtain ⟨u, v, e1, e2, hu, hv⟩ := h
  have key : ∀ s, (s = f ∨ s = t ∨ Bt a b s) → (s = f' ∨ s = t' ∨ Bt a' b' s) := by
    rintro s (rfl | rfl | ⟨h3, h4⟩)
    · exact hf
    · exact ht
    · exact .inr (.inr ⟨by omega, by omega⟩)
  exact ⟨u, v, e1, e2, key u hu, key v hv⟩
theorem tch_off {x : Tx} {l : List Ed} {f t a b : Nat} (h : ∀ e ∈ l, Tch f t a b e) (F : Nat → Prop) (hf : ¬ F f) (ht : ¬ F t) (hb : ∀ s, Bt a b s → ¬ F s) : Off F (EdR x l) := by
  rintro p q ⟨e, he, h1, h2, _⟩
  obtain ⟨u, v, e1, e2, hu, hv⟩ := h e he
  have eu : u = p.1 := by omega
  have ev : v = q.1 := by omega
  subst eu ev
  have key : ∀ s, (s = f ∨ s = t ∨ Bt a b s) → ¬ F s := by
    rintro s (rfl | rfl | h)
    · exact hf
    · exact ht
    · exact hb s h
  exact ⟨key _ hu, key _ hv⟩
theorem mc_off {f t : Nat} {T : Nat → Nat → Prop} (F : Nat → Prop) (hf : ¬ F f) (ht : ¬ F t) : Off F (Mc f t T) := fun a b h => ⟨by rw [h.1]; exact hf, by rw [h.2.1]; exact ht⟩

/-- between two stages something was laid that does what one edge would do -/
structure Fr (x : Tx) (y z : St) (f t : Nat) (T : Nat → Nat → Prop) (new : List Ed) : Prop where
  es : z.es = y.es ++ new
  n : y.n ≤ z.n
  tch : ∀ e ∈ new, Tch f t y.n z.n e
  same : Same (Bt y.n z.n) (EdR x new) (Mc f t T)
def Frx (x : Tx) (y z : St) (f t : Nat) (T : Nat → Nat → Prop) : Prop := ∃ new, Fr x y z f t T new
theorem Frx.to {x : Tx} {y z : St} {f t : Nat} {T U : Nat → Nat → Prop} (h : Frx x y z f t T) (k : ∀ i j, T i j ↔ U i j) : Frx x y z f t U := by
  obtain ⟨new, h⟩ := h
  exact ⟨new, h.es, h.n, h.tch, h.same.trans (Same.of fun a b => and_congr Iff.rfl (and_congr Iff.rfl (k _ _)))⟩
theorem edR_one (x : Tx) (e : Ed) (a b : Cf) : EdR x [e] a b ↔ EdS x e a b := ⟨fun ⟨u, hu, h⟩ => by rw [List.mem_singleton] at hu; rw [← hu]; exact h, fun h => ⟨e, List.mem_singleton.2 rfl, h⟩⟩
theorem edS_free (x : Tx) (f t : Nat) (a b : Cf) : EdS x ⟨f, t, true, 0, 0, 0, 0⟩ a b ↔ Mc f t Eq a b := by
  unfold EdS Mc
  constructor
  · rintro ⟨h1, h2, ⟨_, h3⟩ | ⟨h3, _⟩⟩
    · exact ⟨by simp only [] at h1; omega, by simp only [] at h2; omega, h3⟩
    · cases h3
  · rintro ⟨h1, h2, h3⟩
    exact ⟨by simp only []; omega, by simp only []; omega, .inl ⟨rfl, h3⟩⟩
theorem fr_free (x : Tx) (y : St) (f t : Nat) : Frx x y (y.free f t) f t Eq :=
  ⟨[⟨f, t, true, 0, 0, 0, 0⟩], rfl, Nat.le_refl _, fun e he => by rw [List.mem_singleton] at he; subst he; exact ⟨f, t, rfl, rfl, .inl rfl, .inr (.inl rfl)⟩, Same.of fun a b => (edR_one x _ a b).trans (edS_free x f t a b)⟩
/-- over one byte of a set -/
def OvS (x : Tx) (q : Q4) (i j : Nat) : Prop := i < x.len ∧ j = i + 1 ∧ nf.hasE ⟨0, 0, false, q.a, q.b, q.c, q.d⟩ (x.d i) = true
theorem fr_over (x : Tx) (y : St) (q : Q4) (f t : Nat) : Frx x y (y.over q f t) f t (OvS x q) :=
  ⟨[⟨f, t, false, q.a, q.b, q.c, q.d⟩], rfl, Nat.le_refl _, fun e he => by rw [List.mem_singleton] at he; subst he; exact ⟨f, t, rfl, rfl, .inl rfl, .inr (.inl rfl)⟩, Same.of fun a b => (edR_one x _ a b).trans (by
    unfold EdS Mc OvS
    constructor
    · rintro ⟨h1, h2, ⟨h3, _⟩ | ⟨_, h3, h4, h5⟩⟩
      · cases h3
      · exact ⟨by simp only [] at h1; omega, by simp only [] at h2; omega, h3, h4, h5⟩
    · rintro ⟨h1, h2, h3, h4, h5⟩
      exact ⟨by simp only []; omega, by simp only []; omega, .inr ⟨rfl, h3, h4, h5⟩⟩)⟩
/-- nothing is laid -/
theorem fr_none (x : Tx) (y : St) (f t : Nat) : Frx x y y f t (fun _ _ => False) :=
  ⟨[], by simp, Nat.le_refl _, fun e he => absurd he (by simp), Same.of fun a b => ⟨fun h => absurd h (edR_nil x a b), fun h => h.2.2.elim⟩⟩
/-- one beside the other -/
theorem Frx.or {x : Tx} {y z u : St} {f t : Nat} {T U : Nat → Nat → Prop} (h : Frx x y z f t T) (k : Frx x z u f t U) (hf : f < y.n) (ht : t < y.n) : Frx x y u f t (Or2 T U) := by
  obtain ⟨l, h⟩ := h
  obtain ⟨m, k⟩ := k
  have hn := h.n
  have kn := k.n
  refine ⟨l ++ m, by rw [k.es, h.es, List.append_assoc], by omega, fun e he => ?_, ?_⟩
  · rcases List.mem_append.1 he with he | he
    · exact (h.tch e he).up (.inl rfl) (.inr (.inl rfl)) (Nat.le_refl _) kn
    · exact (k.tch e he).up (.inl rfl) (.inr (.inl rfl)) hn (Nat.le_refl _)
  · have b := (h.same).both (k.same) (tch_off k.tch _ (fun s => by unfold Bt at s; omega) (fun s => by unfold Bt at s; omega) (fun s h1 h2 => by unfold Bt at h1 h2; omega)) (mc_off _ (fun s => by unfold Bt at s; omega) (fun s => by unfold Bt at s; omega))
    exact ((Same.of (edR_append x l m)).trans (b.up (fun s h1 => by unfold Bt at h1 ⊢; omega))).trans (Same.of (mc_or f t T U))
/-- one behind the other, over a new state -/
theorem Frx.seq {x : Tx} {y z u : St} {f t : Nat} {T U : Nat → Nat → Prop} (h : Frx x y.new z f y.n T) (k : Frx x z u y.n t U) (hf : f < y.n) (ht : t < y.n) : Frx x y u f t (Sq T U) := by
  obtain ⟨l, h⟩ := h
  obtain ⟨m, k⟩ := k
  have hn : y.n + 1 ≤ z.n := h.n
  have kn := k.n
  have h0 : y.new.n = y.n + 1 := rfl
  refine ⟨l ++ m, by rw [k.es, h.es, List.append_assoc]; rfl, by omega, fun e he => ?_, ?_⟩
  · rcases List.mem_append.1 he with he | he
    · exact (h.tch e he).up (.inl rfl) (.inr (.inr ⟨Nat.le_refl _, by omega⟩)) (by omega) kn
    · exact (k.tch e he).up (.inr (.inr ⟨Nat.le_refl _, by omega⟩)) (.inr (.inl rfl)) (by omega) (Nat.le_refl _)
  · have b := (h.same).both (k.same) (tch_off k.tch _ (fun s => by unfold Bt at s; omega) (fun s => by unfold Bt at s; omega) (fun s h1 h2 => by unfold Bt at h1 h2; omega)) (mc_off _ (fun s => by unfold Bt at s; omega) (fun s => by unfold Bt at s; omega))
    have c := mc_seq f y.n t T U (by omega) (by omega)
    exact ((Same.of (edR_append x l m)).trans (b.up (fun s h1 => by unfold Bt at h1 ⊢; omega))).trans (c.up (fun s h1 => by unfold Bt; omega))
/-- again and again -/
theorem Frx.star {x : Tx} {y z : St} {f t : Nat} {T : Nat → Nat → Prop} (h : Frx x (y.new.free f y.n) z y.n y.n T) (hf : f < y.n) (ht : t < y.n) : Frx x y (z.free y.n t) f t (Star T) := by
  obtain ⟨l, h⟩ := h
  have hn : y.n + 1 ≤ z.n := h.n
  have h0 : (y.new.free f y.n).n = y.n + 1 := rfl
  refine ⟨⟨f, y.n, true, 0, 0, 0, 0⟩ :: (l ++ [⟨y.n, t, true, 0, 0, 0, 0⟩]), ?_, by show y.n ≤ z.n; omega, fun e he => ?_, ?_⟩
  · show z.es ++ _ = _
    rw [h.es]
    simp [St.free, St.new]
  · show Tch f t y.n z.n e
    rcases List.mem_cons.1 he with rfl | he
    · exact ⟨f, y.n, rfl, rfl, .inl rfl, .inr (.inr ⟨Nat.le_refl _, by omega⟩)⟩
    · rcases List.mem_append.1 he with he | he
      · exact (h.tch e he).up (.inr (.inr ⟨Nat.le_refl _, by omega⟩)) (.inr (.inr ⟨Nat.le_refl _, by omega⟩)) (by omega) (Nat.le_refl _)
      · rw [List.mem_singleton] at he
        subst he
        exact ⟨y.n, t, rfl, rfl, .inr (.inr ⟨Nat.le_refl _, by omega⟩), .inr (.inl rfl)⟩
  · have s1 : Same (Bt (y.n + 1) z.n) (Un (EdR x l) (Un (Mc f y.n Eq) (Mc y.n t Eq))) (Un (Mc y.n y.n T) (Un (Mc f y.n Eq) (Mc y.n t Eq))) := by
      have b := (h.same).both (Same.refl (fun _ => False) (Un (Mc f y.n Eq) (Mc y.n t Eq))) ((mc_off _ (fun s => by unfold Bt at s; omega) (fun s => by unfold Bt at s; omega)).un (mc_off _ (fun s => by unfold Bt at s; omega) (fun s => by unfold Bt at s; omega))) (fun _ _ _ => ⟨fun h => h, fun h => h⟩)
      exact b.up (fun s h1 => h1.elim (fun h => h) (fun h => h.elim))
    have c := mc_star f y.n t Eq T Eq (by omega) (by omega)
    have e1 : ∀ a b, EdR x (⟨f, y.n, true, 0, 0, 0, 0⟩ :: (l ++ [⟨y.n, t, true, 0, 0, 0, 0⟩])) a b ↔ Un (EdR x l) (Un (Mc f y.n Eq) (Mc y.n t Eq)) a b := fun a b => by
      rw [← List.singleton_append, edR_append]
      unfold Un
      rw [edR_append, edR_one, edS_free]
      unfold Un
      rw [edR_one, edS_free]
      exact ⟨fun h => h.elim (fun h => .inr (.inl h)) fun h => h.elim .inl fun h => .inr (.inr h), fun h => h.elim (fun h => .inr (.inl h)) fun h => h.elim .inl fun h => .inr (.inr h)⟩
    have e2 : ∀ a b, Un (Mc y.n y.n T) (Un (Mc f y.n Eq) (Mc y.n t Eq)) a b ↔ Un (Mc f y.n Eq) (Un (Mc y.n y.n T) (Mc y.n t Eq)) a b := fun a b => or_left_comm
    refine ((((Same.of e1).trans (s1.up (fun s h1 => by unfold Bt at h1 ⊢; show y.n ≤ s ∧ s < z.n; omega))).trans (Same.of e2)).trans (c.up (fun s h1 => by unfold Bt; show y.n ≤ s ∧ s < z.n; omega))).trans (Same.of fun a b => ?_)
    unfold Mc Sq
    constructor
    · rintro ⟨h1, h2, k, rfl, j, h3, rfl⟩
      exact ⟨h1, h2, h3⟩
    · rintro ⟨h1, h2, h3⟩
      exact ⟨h1, h2, _, rfl, _, h3, rfl⟩
/-- once, and again and again -/
theorem Frx.plus {x : Tx} {y z : St} {f t : Nat} {T : Nat → Nat → Prop} (h : Frx x ((y.new.free f y.n).new.free (y.n + 1) y.n) z y.n (y.n + 1) T) (hf : f < y.n) (ht : t < y.n) : Frx x y (z.free (y.n + 1) t) f t (Sq (Star T) T) := by
  obtain ⟨l, h⟩ := h
  have hn : y.n + 2 ≤ z.n := h.n
  have h0 : ((y.new.free f y.n).new.free (y.n + 1) y.n).n = y.n + 2 := rfl
  refine ⟨⟨f, y.n, true, 0, 0, 0, 0⟩ :: ⟨(y.n + 1 : Nat), y.n, true, 0, 0, 0, 0⟩ :: (l ++ [⟨(y.n + 1 : Nat), t, true, 0, 0, 0, 0⟩]), ?_, by show y.n ≤ z.n; omega, fun e he => ?_, ?_⟩
  · show z.es ++ _ = _
    rw [h.es]
    simp [St.free, St.new]
  · show Tch f t y.n z.n e
    rcases List.mem_cons.1 he with rfl | he
    · exact ⟨f, y.n, rfl, rfl, .inl rfl, .inr (.inr ⟨Nat.le_refl _, by omega⟩)⟩
    · rcases List.mem_cons.1 he with rfl | he
      · exact ⟨y.n + 1, y.n, rfl, rfl, .inr (.inr ⟨by omega, by omega⟩), .inr (.inr ⟨Nat.le_refl _, by omega⟩)⟩
      · rcases List.mem_append.1 he with he | he
        · exact (h.tch e he).up (.inr (.inr ⟨Nat.le_refl _, by omega⟩)) (.inr (.inr ⟨by omega, by omega⟩)) (by omega) (Nat.le_refl _)
        · rw [List.mem_singleton] at he
          subst he
          exact ⟨y.n + 1, t, rfl, rfl, .inr (.inr ⟨by omega, by omega⟩), .inr (.inl rfl)⟩
  · obtain ⟨c, hc⟩ : ∃ c, c = y.n := ⟨_, rfl⟩
    obtain ⟨d, hd⟩ : ∃ d, d = y.n + 1 := ⟨_, rfl⟩
    have s1 : Same (Bt (y.n + 2) z.n) (Un (EdR x l) (Un (Mc f c Eq) (Un (Mc d c Eq) (Mc d t Eq)))) (Un (Mc c d T) (Un (Mc f c Eq) (Un (Mc d c Eq) (Mc d t Eq)))) := by
      have hs := h.same
      rw [← hd, ← hc] at hs
      have nb : ∀ s, s < y.n + 2 → ¬ Bt (y.n + 2) z.n s := fun s h1 h2 => by unfold Bt at h2; omega
      have b := hs.both (Same.refl (fun _ => False) (Un (Mc f c Eq) (Un (Mc d c Eq) (Mc d t Eq)))) ((mc_off _ (nb f (by omega)) (nb c (by omega))).un ((mc_off _ (nb d (by omega)) (nb c (by omega))).un (mc_off _ (nb d (by omega)) (nb t (by omega))))) (fun _ _ _ => ⟨fun h => h, fun h => h⟩)
      exact b.up (fun s h1 => h1.elim (fun h => h) (fun h => h.elim))
    have s2 : Same (fun s => s = d) (Un (Un (Mc c d T) (Un (Mc d c Eq) (Mc d t Eq))) (Mc f c Eq)) (Un (Un (Mc c c T) (Mc c t T)) (Mc f c Eq)) := by
      have b := (mc_fork c d t T (by omega) (by omega)).both (Same.refl (fun _ => False) (Mc f c Eq)) (mc_off _ (by omega) (by omega)) (fun _ _ _ => ⟨fun h => h, fun h => h⟩)
      exact b.up (fun s h1 => h1.elim (fun h => h) (fun h => h.elim))
    have s3 := mc_star f c t Eq T T (by omega) (by omega)
    have e1 : ∀ a b, EdR x (⟨f, y.n, true, 0, 0, 0, 0⟩ :: ⟨(y.n + 1 : Nat), y.n, true, 0, 0, 0, 0⟩ :: (l ++ [⟨(y.n + 1 : Nat), t, true, 0, 0, 0, 0⟩])) a b ↔ Un (EdR x l) (Un (Mc f c Eq) (Un (Mc d c Eq) (Mc d t Eq))) a b := fun a b => by
      rw [← List.singleton_append, edR_append]
      unfold Un
      rw [← List.singleton_append (x := (⟨(y.n + 1 : Nat), y.n, true, 0, 0, 0, 0⟩ : Ed)), edR_append, edR_one, edS_free]
      unfold Un
      rw [edR_append, edR_one, edS_free]
      unfold Un
      rw [edR_one, edS_free, ← hd, ← hc]
      exact ⟨fun h => h.elim (fun h => .inr (.inl h)) fun h => h.elim (fun h => .inr (.inr (.inl h))) fun h => h.elim .inl fun h => .inr (.inr (.inr h)), fun h => h.elim (fun h => .inr (.inr (.inl h))) fun h => h.elim .inl fun h => h.elim (fun h => .inr (.inl h)) fun h => .inr (.inr (.inr h))⟩
    have e2 : ∀ a b, Un (Mc c d T) (Un (Mc f c Eq) (Un (Mc d c Eq) (Mc d t Eq))) a b ↔ Un (Un (Mc c d T) (Un (Mc d c Eq) (Mc d t Eq))) (Mc f c Eq) a b := fun a b =>
      ⟨fun h => h.elim (fun h => .inl (.inl h)) fun h => h.elim .inr fun h => .inl (.inr h), fun h => h.elim (fun h => h.elim .inl fun h => .inr (.inr h)) fun h => .inr (.inl h)⟩
    have e3 : ∀ a b, Un (Un (Mc c c T) (Mc c t T)) (Mc f c Eq) a b ↔ Un (Mc f c Eq) (Un (Mc c c T) (Mc c t T)) a b := fun a b => or_comm
    have up : ∀ s, (Bt (y.n + 2) z.n s ∨ s = d ∨ s = c) → Bt y.n z.n s := fun s h1 => by unfold Bt at h1 ⊢; omega
    show Same (Bt y.n z.n) _ _
    refine ((((((Same.of e1).trans (s1.up (fun s h1 => up s (.inl h1)))).trans (Same.of e2)).trans (s2.up (fun s h1 => up s (.inr (.inl h1))))).trans (Same.of e3)).trans (s3.up (fun s h1 => up s (.inr (.inr h1))))).trans (Same.of fun a b => ?_)
    unfold Mc Sq
    constructor
    · rintro ⟨h1, h2, k, rfl, h3⟩
      exact ⟨h1, h2, h3⟩
    · rintro ⟨h1, h2, h3⟩
      exact ⟨h1, h2, _, rfl, h3⟩
end Go.Proofs.Ytkdkibnjfgcppaa.nb

namespace Go.Proofs.Ytkdkibnjfgcppaa.nb
open st (Tr Q4 nodesOf goods okNode)
open nf (Ed)
set_option linter.unusedVariables false

def Pow (T : Nat → Nat → Prop) : Nat → Nat → Nat → Prop
  | 0, i, j => i = j
  | n + 1, i, j => ∃ k, T i k ∧ Pow T n k j
mutual
/-- from a place to a place -/
def Tk (x : Tx) : Tr → Nat → Nat → Prop
  | .node k q mn mx l, i, j =>
    if k = 1 then OvS x q i j
    else if k = 2 then TkC x l i j
    else if k = 3 then TkA x l i j
    else if k = 4 then (∃ n, mn.toNat ≤ n ∧ (mx = -1 ∨ n ≤ mx.toNat) ∧ Pow (TkH x l) n i j)
    else False
def TkC (x : Tx) : List Tr → Nat → Nat → Prop
  | [], i, j => i = j
  | t :: l, i, j => ∃ k, Tk x t i k ∧ TkC x l k j
def TkA (x : Tx) : List Tr → Nat → Nat → Prop
  | [], i, j => False
  | t :: l, i, j => Tk x t i j ∨ TkA x l i j
def TkH (x : Tx) : List Tr → Nat → Nat → Prop
  | [], i, j => False
  | t :: _, i, j => Tk x t i j
end
theorem Pow.snoc {T : Nat → Nat → Prop} : ∀ {n i j k : Nat}, Pow T n i j → T j k → Pow T (n + 1) i k
  | 0, i, j, k, h, t => by cases h; exact ⟨k, t, rfl⟩
  | n + 1, i, j, k, ⟨m, h1, h2⟩, t => ⟨m, h1, Pow.snoc h2 t⟩
theorem Pow.unsnoc {T : Nat → Nat → Prop} : ∀ {n i k : Nat}, Pow T (n + 1) i k → ∃ j, Pow T n i j ∧ T j k
  | 0, i, k, ⟨m, h1, h2⟩ => by cases h2; exact ⟨i, rfl, h1⟩
  | n + 1, i, k, ⟨m, h1, h2⟩ => by
    obtain ⟨j, h3, h4⟩ := Pow.unsnoc h2
    exact ⟨j, ⟨m, h1, h3⟩, h4⟩
theorem pow_add {T : Nat → Nat → Prop} : ∀ (m n i j : Nat), Pow T (m + n) i j ↔ Sq (Pow T m) (Pow T n) i j
  | 0, n, i, j => by
    rw [Nat.zero_add]
    exact ⟨fun h => ⟨i, rfl, h⟩, fun ⟨k, h1, h2⟩ => by cases h1; exact h2⟩
  | m + 1, n, i, j => by
    rw [show m + 1 + n = (m + n) + 1 by omega]
    constructor
    · rintro ⟨k, h1, h2⟩
      obtain ⟨c, h3, h4⟩ := (pow_add m n k j).1 h2
      exact ⟨c, ⟨k, h1, h3⟩, h4⟩
    · rintro ⟨c, ⟨k, h1, h3⟩, h4⟩
      exact ⟨k, h1, (pow_add m n k j).2 ⟨c, h3, h4⟩⟩
theorem star_pow {T : Nat → Nat → Prop} (i j : Nat) : Star T i j ↔ ∃ n, Pow T n i j := by
  constructor
  · intro h
    induction h with
    | refl i => exact ⟨0, rfl⟩
    | step t _ ih =>
      obtain ⟨n, hn⟩ := ih
      exact ⟨n + 1, _, t, hn⟩
  · rintro ⟨n, h⟩
    induction n generalizing i with
    | zero => cases h; exact .refl _
    | succ n ih =>
      obtain ⟨k, h1, h2⟩ := h
      exact .step h1 (ih k h2)
/-- no less than it was -/
def Ge (x y : St) : Prop := x.n ≤ y.n ∧ x.es.length ≤ y.es.length
theorem Ge.refl (x : St) : Ge x x := ⟨Nat.le_refl _, Nat.le_refl _⟩
theorem Ge.trans {x y z : St} (h : Ge x y) (k : Ge y z) : Ge x z := ⟨Nat.le_trans h.1 k.1, Nat.le_trans h.2 k.2⟩
theorem ge_new (x : St) : Ge x x.new := ⟨Nat.le_succ _, Nat.le_refl _⟩
theorem ge_free (x : St) (f t : Nat) : Ge x (x.free f t) := ⟨Nat.le_refl _, by simp [St.free]⟩
theorem Ge.full {x y : St} (h : Ge x y) (k : y.full = false) : x.full = false := by
  simp [St.full] at k ⊢
  have := h.1
  have := h.2
  omega
def Gr (L : Lay) : Prop := ∀ f t x, Ge x (L f t x)
theorem times_gr {L : Lay} (h : Gr L) : ∀ (k f : Nat) (x : St), Ge x (times L k f x).2
  | 0, f, x => Ge.refl _
  | k + 1, f, x => ((ge_new x).trans (h f x.n x.new)).trans (times_gr h k x.n _)
theorem upTo_gr {L : Lay} (h : Gr L) (least to : Nat) : ∀ (k i f : Nat) (x : St), Ge x (upTo L least to k i f x)
  | 0, i, f, x => ge_free x f to
  | k + 1, i, f, x => by
    unfold upTo
    dsimp only
    refine Ge.trans ?_ (((ge_new _).trans (h f _ _)).trans (upTo_gr h least to k (i + 1) _ _))
    split
    · exact ge_free x f to
    · exact Ge.refl _
theorem again_gr {L : Lay} (h : Gr L) (least f to : Nat) (x : St) : Ge x (again L least f to x) := by
  have h1 := times_gr h (least - 1) f x
  unfold again
  dsimp only
  split
  · exact h1.trans ((((((ge_new _).trans (ge_free _ _ _)).trans (ge_new _)).trans (ge_free _ _ _)).trans (h _ _ _)).trans (ge_free _ _ _))
  · exact h1.trans ((((ge_new _).trans (ge_free _ _ _)).trans (h _ _ _)).trans (ge_free _ _ _))
mutual
theorem lay_gr : ∀ (t : Tr), Gr (layT t)
  | .node k q mn mx l => by
    intro f t x
    rw [layT]
    split
    · exact Ge.refl _
    · split
      · exact ⟨Nat.le_refl _, by simp [St.over]⟩
      · split
        · exact (row_gr l f x).trans (ge_free _ _ _)
        · split
          · exact alt_gr l f t x
          · split
            · split
              · exact again_gr (head_gr l) _ f t x
              · exact upTo_gr (head_gr l) _ t _ _ f x
            · exact Ge.refl _
theorem row_gr : ∀ (l : List Tr) (f : Nat) (x : St), Ge x (rowT l f x).2
  | [], f, x => Ge.refl _
  | t :: l, f, x => by
    rw [rowT]
    exact ((ge_new x).trans (lay_gr t f x.n x.new)).trans (row_gr l x.n _)
theorem alt_gr : ∀ (l : List Tr), Gr (altT l)
  | [] => fun f t x => Ge.refl _
  | k :: l => fun f t x => by
    rw [altT]
    exact (lay_gr k f t x).trans (alt_gr l f t _)
theorem head_gr : ∀ (l : List Tr), Gr (headT l)
  | [] => fun f t x => Ge.refl _
  | k :: _ => lay_gr k
end
/-- what it lays, where it has room, does what one edge would do -/
def Does (x : Tx) (L : Lay) (T : Nat → Nat → Prop) : Prop := ∀ f t y, f < y.n → t < y.n → (L f t y).full = false → Frx x y (L f t y) f t T
/-- up to so many times -/
def Ut (T : Nat → Nat → Prop) (least : Nat) : Nat → Nat → Nat → Nat → Prop
  | 0, i => Eq
  | k + 1, i => Or2 (fun a b => least ≤ i ∧ a = b) (Sq T (Ut T least k (i + 1)))
theorem upTo_does {x : Tx} {L : Lay} {T : Nat → Nat → Prop} (h : Does x L T) (hr : Gr L) (least to : Nat) : ∀ (k i f : Nat) (y : St), f < y.n → to < y.n → (upTo L least to k i f y).full = false → Frx x y (upTo L least to k i f y) f to (Ut T least k i)
  | 0, i, f, y, hf, ht, _ => fr_free x y f to
  | k + 1, i, f, y, hf, ht, hfu => by
    unfold upTo at hfu ⊢
    dsimp only at hfu ⊢
    by_cases hi : least ≤ i
    · rw [if_pos hi] at hfu ⊢
      have g1 := upTo_gr hr least to k (i + 1) (y.free f to).n (L f (y.free f to).n (y.free f to).new)
      have a1 := h f (y.free f to).n (y.free f to).new (by show f < y.n + 1; omega) (by show y.n < y.n + 1; omega) (g1.full hfu)
      have g2 := hr f (y.free f to).n (y.free f to).new
      have g3 : y.n + 1 ≤ (L f (y.free f to).n (y.free f to).new).n := g2.1
      have a2 := upTo_does h hr least to k (i + 1) (y.free f to).n (L f (y.free f to).n (y.free f to).new) (by show y.n < _; omega) (by omega) hfu
      have a3 := Frx.seq (y := y.free f to) a1 a2 (by show f < y.n; omega) (by show to < y.n; omega)
      refine ((fr_free x y f to).or a3 hf ht).to fun a b => or_congr ⟨fun e => ⟨hi, e⟩, fun e => e.2⟩ Iff.rfl
    · rw [if_neg hi] at hfu ⊢
      have g1 := upTo_gr hr least to k (i + 1) y.n (L f y.n y.new)
      have a1 := h f y.n y.new (by show f < y.n + 1; omega) (by show y.n < y.n + 1; omega) (g1.full hfu)
      have g3 : y.n + 1 ≤ (L f y.n y.new).n := (hr f y.n y.new).1
      have a2 := upTo_does h hr least to k (i + 1) y.n (L f y.n y.new) (by omega) (by omega) hfu
      have a3 := Frx.seq a1 a2 hf ht
      exact a3.to fun a b => ⟨fun e => .inr e, fun e => e.elim (fun e => absurd e.1 hi) id⟩
theorem ut_pow {T : Nat → Nat → Prop} (least : Nat) : ∀ (k i a b : Nat), least ≤ i + k → (Ut T least k i a b ↔ ∃ n, n ≤ k ∧ least ≤ i + n ∧ Pow T n a b)
  | 0, i, a, b, h => ⟨fun e => ⟨0, Nat.le_refl _, h, e⟩, fun ⟨n, h1, h2, h3⟩ => by
      obtain rfl : n = 0 := by omega
      exact h3⟩
  | k + 1, i, a, b, h => by
    constructor
    · rintro (⟨h1, rfl⟩ | ⟨c, h1, h2⟩)
      · exact ⟨0, Nat.zero_le _, h1, rfl⟩
      · obtain ⟨n, h3, h4, h5⟩ := (ut_pow least k (i + 1) c b (by omega)).1 h2
        exact ⟨n + 1, by omega, by omega, c, h1, h5⟩
    · rintro ⟨n, h1, h2, h3⟩
      cases n with
      | zero => exact .inl ⟨h2, h3⟩
      | succ n =>
        obtain ⟨c, h4, h5⟩ := h3
        exact .inr ⟨c, h4, (ut_pow least k (i + 1) c b (by omega)).2 ⟨n, by omega, by omega, h5⟩⟩
/-- the last copy, which is gone through again and again -/
def lastL (L : Lay) (f to : Nat) (x : St) : St := (L x.n (x.n + 1) ((x.new.free f x.n).new.free (x.n + 1) x.n)).free (x.n + 1) to
theorem again_succ (L : Lay) (k f to : Nat) (x : St) : again L (k + 1) f to x = lastL L (times L k f x).1 to (times L k f x).2 := by
  unfold again lastL
  rw [if_pos (Nat.succ_pos _)]
  rfl
theorem again_zero (L : Lay) (f to : Nat) (x : St) : again L 0 f to x = (L x.n x.n (x.new.free f x.n)).free x.n to := by
  unfold again
  rw [if_neg (Nat.lt_irrefl _)]
  rfl
theorem last_gr {L : Lay} (hr : Gr L) (f to : Nat) (x : St) : Ge x (lastL L f to x) := ((((((ge_new _).trans (ge_free _ _ _)).trans (ge_new _)).trans (ge_free _ _ _)).trans (hr _ _ _)).trans (ge_free _ _ _))
theorem last_does {x : Tx} {L : Lay} {T : Nat → Nat → Prop} (h : Does x L T) (hr : Gr L) (f to : Nat) (y : St) (hf : f < y.n) (ht : to < y.n) (hfu : (lastL L f to y).full = false) : Frx x y (lastL L f to y) f to (Sq (Star T) T) := by
  have a1 := h y.n (y.n + 1) ((y.new.free f y.n).new.free (y.n + 1) y.n) (by show y.n < y.n + 1 + 1; omega) (by show y.n + 1 < y.n + 1 + 1; omega) ((ge_free _ _ _).full hfu)
  exact a1.plus hf ht
theorem times_does {x : Tx} {L : Lay} {T : Nat → Nat → Prop} (h : Does x L T) (hr : Gr L) (to : Nat) : ∀ (k f : Nat) (y : St), f < y.n → to < y.n → (lastL L (times L k f y).1 to (times L k f y).2).full = false → Frx x y (lastL L (times L k f y).1 to (times L k f y).2) f to (Sq (Pow T k) (Sq (Star T) T))
  | 0, f, y, hf, ht, hfu => (last_does h hr f to y hf ht hfu).to fun a b => ⟨fun e => ⟨a, rfl, e⟩, fun ⟨c, h1, h2⟩ => by cases h1; exact h2⟩
  | k + 1, f, y, hf, ht, hfu => by
    unfold times at hfu ⊢
    have g1 := (times_gr hr k y.n (L f y.n y.new)).trans (last_gr hr (times L k y.n (L f y.n y.new)).1 to (times L k y.n (L f y.n y.new)).2)
    have a1 := h f y.n y.new (by show f < y.n + 1; omega) (by show y.n < y.n + 1; omega) (g1.full hfu)
    have g3 : y.n + 1 ≤ (L f y.n y.new).n := (hr f y.n y.new).1
    have a2 := times_does h hr to k y.n (L f y.n y.new) (by omega) (by omega) hfu
    refine (Frx.seq a1 a2 hf ht).to fun a b => ?_
    constructor
    · rintro ⟨c, h1, d, h2, h3⟩
      exact ⟨d, ⟨c, h1, h2⟩, h3⟩
    · rintro ⟨d, ⟨c, h1, h2⟩, h3⟩
      exact ⟨c, h1, d, h2, h3⟩
theorem again_does {x : Tx} {L : Lay} {T : Nat → Nat → Prop} (h : Does x L T) (hr : Gr L) (least f to : Nat) (y : St) (hf : f < y.n) (ht : to < y.n) (hfu : (again L least f to y).full = false) : Frx x y (again L least f to y) f to (fun i j => ∃ n, least ≤ n ∧ Pow T n i j) := by
  cases least with
  | zero =>
    rw [again_zero] at hfu ⊢
    have a1 := h y.n y.n (y.new.free f y.n) (by show y.n < y.n + 1; omega) (by show y.n < y.n + 1; omega) ((ge_free _ _ _).full hfu)
    exact (a1.star hf ht).to fun a b => (star_pow a b).trans ⟨fun ⟨n, h⟩ => ⟨n, Nat.zero_le _, h⟩, fun ⟨n, _, h⟩ => ⟨n, h⟩⟩
  | succ k =>
    rw [again_succ] at hfu ⊢
    refine (times_does h hr to k f y hf ht hfu).to fun a b => ?_
    constructor
    · rintro ⟨c, h1, d, h2, h3⟩
      obtain ⟨n, hn⟩ := (star_pow c d).1 h2
      exact ⟨k + n + 1, by omega, Pow.snoc ((pow_add k n a d).2 ⟨c, h1, hn⟩) h3⟩
    · rintro ⟨n, hn, hp⟩
      obtain ⟨m, rfl⟩ : ∃ m, n = (k + m) + 1 := ⟨n - k - 1, by omega⟩
      obtain ⟨d, h1, h2⟩ := Pow.unsnoc hp
      obtain ⟨c, h3, h4⟩ := (pow_add k m a d).1 h1
      exact ⟨c, h3, d, (star_pow c d).2 ⟨m, h4⟩, h2⟩
theorem times_ok (t : Tr) (h : okNode t = true) (hk : t.kind = 4) : t.kids.length = 1 ∧ 0 ≤ t.min ∧ (t.max = -1 ∨ t.min ≤ t.max) := by
  unfold okNode st.timesOk at h
  rw [if_neg (by omega), if_neg (by omega), if_neg (by omega), if_pos hk] at h
  simp at h
  omega
mutual
theorem lay_does (x : Tx) : ∀ (t : Tr), t.good = true → Does x (layT t) (Tk x t)
  | .node k q mn mx l, hgd => by
    intro f t y hf ht hfu
    have hg2 := hgd
    rw [Tr.good_eq, Bool.and_eq_true] at hg2
    have hkid := hg2.2
    have htm := times_ok _ hg2.1
    simp only [Tr.kids, Tr.kind, Tr.min, Tr.max] at hkid htm
    rw [layT] at hfu ⊢
    have hyf : ¬ y.full = true := by
      intro e
      rw [if_pos e] at hfu
      rw [e] at hfu
      cases hfu
    rw [if_neg hyf] at hfu ⊢
    by_cases k1 : k = 1
    · rw [if_pos k1] at hfu ⊢
      exact (fr_over x y q f t).to fun a b => by rw [Tk, if_pos k1]
    · rw [if_neg k1] at hfu ⊢
      by_cases k2 : k = 2
      · rw [if_pos k2] at hfu ⊢
        exact (row_does x l hkid f t y hf ht hfu).to fun a b => by rw [Tk, if_neg k1, if_pos k2]
      · rw [if_neg k2] at hfu ⊢
        by_cases k3 : k = 3
        · rw [if_pos k3] at hfu ⊢
          exact (alt_does x l hkid f t y hf ht hfu).to fun a b => by rw [Tk, if_neg k1, if_neg k2, if_pos k3]
        · rw [if_neg k3] at hfu ⊢
          by_cases k4 : k = 4
          · rw [if_pos k4] at hfu ⊢
            obtain ⟨_, hm0, hm1⟩ := htm k4
            by_cases m1 : mx = -1
            · rw [if_pos m1] at hfu ⊢
              refine (again_does (head_does x l hkid) (head_gr l) mn.toNat f t y hf ht hfu).to fun a b => ?_
              rw [Tk, if_neg k1, if_neg k2, if_neg k3, if_pos k4]
              exact ⟨fun ⟨n, h1, h2⟩ => ⟨n, h1, .inl m1, h2⟩, fun ⟨n, h1, _, h2⟩ => ⟨n, h1, h2⟩⟩
            · rw [if_neg m1] at hfu ⊢
              refine (upTo_does (head_does x l hkid) (head_gr l) mn.toNat t mx.toNat 0 f y hf ht hfu).to fun a b => ?_
              rw [Tk, if_neg k1, if_neg k2, if_neg k3, if_pos k4, ut_pow mn.toNat mx.toNat 0 a b (by omega)]
              exact ⟨fun ⟨n, h1, h2, h3⟩ => ⟨n, by omega, .inr h1, h3⟩, fun ⟨n, h1, h2, h3⟩ => ⟨n, h2.elim (fun e => absurd e m1) id, by omega, h3⟩⟩
          · rw [if_neg k4] at hfu ⊢
            exact (fr_none x y f t).to fun a b => by rw [Tk, if_neg k1, if_neg k2, if_neg k3, if_neg k4]
theorem row_does (x : Tx) : ∀ (l : List Tr), goods l = true → ∀ (f t : Nat) (y : St), f < y.n → t < y.n → ((rowT l f y).2.free (rowT l f y).1 t).full = false → Frx x y ((rowT l f y).2.free (rowT l f y).1 t) f t (TkC x l)
  | [], _, f, t, y, hf, ht, _ => (fr_free x y f t).to fun a b => by rw [TkC]
  | u :: l, hg, f, t, y, hf, ht, hfu => by
    rw [goods, Bool.and_eq_true] at hg
    rw [rowT] at hfu ⊢
    have g1 := (row_gr l y.n (layT u f y.n y.new)).trans (ge_free _ (rowT l y.n (layT u f y.n y.new)).1 t)
    have a1 := lay_does x u hg.1 f y.n y.new (by show f < y.n + 1; omega) (by show y.n < y.n + 1; omega) (g1.full hfu)
    have g3 : y.n + 1 ≤ (layT u f y.n y.new).n := (lay_gr u f y.n y.new).1
    have a2 := row_does x l hg.2 y.n t (layT u f y.n y.new) (by omega) (by omega) hfu
    exact (Frx.seq a1 a2 hf ht).to fun a b => by rw [TkC]; rfl
theorem alt_does (x : Tx) : ∀ (l : List Tr), goods l = true → Does x (altT l) (TkA x l)
  | [], _ => fun f t y hf ht _ => (fr_none x y f t).to fun a b => by rw [TkA]
  | u :: l, hg => by
    rw [goods, Bool.and_eq_true] at hg
    intro f t y hf ht hfu
    rw [altT] at hfu ⊢
    have a1 := lay_does x u hg.1 f t y hf ht ((alt_gr l f t _).full hfu)
    have g3 : y.n ≤ (layT u f t y).n := (lay_gr u f t y).1
    have a2 := alt_does x l hg.2 f t (layT u f t y) (by omega) (by omega) hfu
    exact (a1.or a2 hf ht).to fun a b => by rw [TkA]; rfl
theorem head_does (x : Tx) : ∀ (l : List Tr), goods l = true → Does x (headT l) (TkH x l)
  | [], _ => fun f t y hf ht _ => (fr_none x y f t).to fun a b => by rw [TkH]
  | u :: l, hg => by
    rw [goods, Bool.and_eq_true] at hg
    intro f t y hf ht hfu
    rw [headT] at hfu ⊢
    exact (lay_does x u hg.1 f t y hf ht hfu).to fun a b => by rw [TkH]
end
end Go.Proofs.Ytkdkibnjfgcppaa.nb
