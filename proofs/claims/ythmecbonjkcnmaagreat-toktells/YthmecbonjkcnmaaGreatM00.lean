/-
  Texts put together: Plain mathematics, no program: a set of bytes as four numbers below 2^64; what is in it, and what sets are made of it. Plain mathematics, no program: a tree of an expression; how deep it is, how many nodes it has, whether it is an expression's. Plain mathematics and memory: an edge, an nfa, and how its edges lie; contracts over this program: which nfa may be (nfa.isState, nfa.Right). Plain mathematics, no program beside the edges' form: the nfa that is laid for an expression, as the builder lays it, step by step; how many states and edges it may come to; that every edge goes between states that are. Plain mathematics: every edge of the nfa that is laid goes between states that are; so what Build answers is an nfa that may be. Plain mathematics, no program: steps between states at places of a text; what is done by many edges over states that nothing else touches is done by one edge that takes a whole expression. Plain mathematics, no program: a search along a text that goes on from no state at a place twice, and keeps what it has met from one search to the next; the last place at which the end is met.
-/
import Derived.WalkKit
import Derived.Test.YthmecbonjkcnmaaGreatRows
import Derived.ChangeAt
import Derived.Below
import Derived.Lib.OthersKept
namespace Go.Proofs.YthmecbonjkcnmaaGreat.st
set_option linter.unusedVariables false

structure Q4 where
  a : Nat
  b : Nat
  c : Nat
  d : Nat

def word (q : Q4) : Nat → Nat
  | 0 => q.a
  | 1 => q.b
  | 2 => q.c
  | 3 => q.d
  | _ => 0
def mk4 (f : Nat → Nat) : Q4 := ⟨f 0, f 1, f 2, f 3⟩
def two64 : Nat := 18446744073709551616
theorem two64_pow : two64 = 2 ^ 64 := by decide
structure Fits (q : Q4) : Prop where
  a : q.a < 18446744073709551616
  b : q.b < 18446744073709551616
  c : q.c < 18446744073709551616
  d : q.d < 18446744073709551616

def has (q : Q4) (n : Nat) : Bool := (word q (n / 64)).testBit (n % 64)

theorem word_mk4 (f : Nat → Nat) (i : Nat) (h : i < 4) : word (mk4 f) i = f i := by
  match i, h with
  | 0, _ => rfl
  | 1, _ => rfl
  | 2, _ => rfl
  | 3, _ => rfl
  | n + 4, h => omega
theorem has_mk4 (f : Nat → Nat) (n : Nat) (h : n < 256) : has (mk4 f) n = (f (n / 64)).testBit (n % 64) := by
  unfold has
  rw [word_mk4 f _ (by omega)]
theorem Fits.word {q : Q4} (h : Fits q) (i : Nat) : word q i < 2 ^ 64 := by
  have := h.a; have := h.b; have := h.c; have := h.d
  match i with
  | 0 => simp only [st.word]; omega
  | 1 => simp only [st.word]; omega
  | 2 => simp only [st.word]; omega
  | 3 => simp only [st.word]; omega
  | n + 4 => simp only [st.word]; omega
theorem fits_mk4 {f : Nat → Nat} (h : ∀ i, f i < 2 ^ 64) : Fits (mk4 f) :=
  ⟨Nat.lt_of_lt_of_le (h 0) (by decide), Nat.lt_of_lt_of_le (h 1) (by decide), Nat.lt_of_lt_of_le (h 2) (by decide), Nat.lt_of_lt_of_le (h 3) (by decide)⟩

theorem word_ext {x y : Nat} (hx : x < 2 ^ 64) (hy : y < 2 ^ 64) (h : ∀ j, j < 64 → x.testBit j = y.testBit j) : x = y := by
  apply Nat.eq_of_testBit_eq
  intro j
  by_cases hj : j < 64
  · exact h j hj
  · rw [Nat.testBit_lt_two_pow (Nat.lt_of_lt_of_le hx (Nat.pow_le_pow_right (by omega) (by omega))), Nat.testBit_lt_two_pow (Nat.lt_of_lt_of_le hy (Nat.pow_le_pow_right (by omega) (by omega)))]

theorem ext {q r : Q4} (hq : Fits q) (hr : Fits r) (h : ∀ n, n < 256 → has q n = has r n) : q = r := by
  have key : ∀ i, i < 4 → word q i = word r i := by
    intro i hi
    refine word_ext (hq.word i) (hr.word i) fun j hj => ?_
    have := h (64 * i + j) (by omega)
    unfold has at this
    rw [show (64 * i + j) / 64 = i from by omega, show (64 * i + j) % 64 = j from by omega] at this
    exact this
  have h0 := key 0 (by omega)
  have h1 := key 1 (by omega)
  have h2 := key 2 (by omega)
  have h3 := key 3 (by omega)
  cases q; cases r
  simp only [word] at h0 h1 h2 h3
  rw [h0, h1, h2, h3]

def none4 : Q4 := ⟨0, 0, 0, 0⟩
theorem fits_none : Fits none4 := ⟨by decide, by decide, by decide, by decide⟩
theorem has_none (n : Nat) : has none4 n = false := by
  unfold has
  have : word none4 (n / 64) = 0 := by
    generalize n / 64 = i
    match i with
    | 0 => rfl
    | 1 => rfl
    | 2 => rfl
    | 3 => rfl
    | n + 4 => rfl
  rw [this, Nat.zero_testBit]

/-- a set, and a byte -/
def wth (q : Q4) (n : Nat) : Q4 := mk4 fun i => if i = n / 64 then word q i ||| 2 ^ (n % 64) else word q i
theorem fits_wth {q : Q4} (h : Fits q) (n : Nat) : Fits (wth q n) := by
  refine fits_mk4 fun i => ?_
  split
  · exact Nat.or_lt_two_pow (h.word i) (Nat.pow_lt_pow_right (by omega) (by omega))
  · exact h.word i
theorem has_wth (q : Q4) (n m : Nat) (hm : m < 256) : has (wth q n) m = (decide (m = n) || has q m) := by
  unfold wth
  rw [has_mk4 _ _ hm]
  by_cases h : m / 64 = n / 64
  · rw [if_pos h, Nat.testBit_or, Nat.testBit_two_pow, Bool.or_comm]
    unfold has
    congr 1
    rw [decide_eq_decide]
    omega
  · rw [if_neg h]
    have : decide (m = n) = false := by simp; intro e; exact h (by rw [e])
    rw [this, Bool.false_or]
    rfl

def ofl (l : List Nat) : Q4 := l.foldl wth none4
theorem foldl_fits (l : List Nat) (q : Q4) (h : Fits q) : Fits (l.foldl wth q) := by
  induction l generalizing q with
  | nil => exact h
  | cons x l ih => exact ih _ (fits_wth h x)
theorem foldl_has (l : List Nat) (q : Q4) (m : Nat) (hm : m < 256) : has (l.foldl wth q) m = (decide (m ∈ l) || has q m) := by
  induction l generalizing q with
  | nil => simp
  | cons x l ih =>
    rw [List.foldl_cons, ih, has_wth q x m hm]
    by_cases h1 : m = x <;> by_cases h2 : m ∈ l <;> simp [h1, h2]
theorem fits_ofl (l : List Nat) : Fits (ofl l) := foldl_fits l _ fits_none
theorem has_ofl (l : List Nat) (m : Nat) (hm : m < 256) : has (ofl l) m = decide (m ∈ l) := by
  unfold ofl
  rw [foldl_has l _ m hm, has_none, Bool.or_false]

/-- the bytes of a set, rising -/
def mem (q : Q4) : List Nat := (List.range 256).filter (has q)
theorem ofl_mem {q : Q4} (h : Fits q) : ofl (mem q) = q := by
  refine ext (fits_ofl _) h fun n hn => ?_
  rw [has_ofl _ _ hn]
  unfold mem
  cases hh : has q n <;> simp [hh, hn]
theorem mem_lt {q : Q4} {n : Nat} (h : n ∈ mem q) : n < 256 := by
  unfold mem at h
  simpa using (List.mem_filter.1 h).1

def jn (q r : Q4) : Q4 := mk4 fun i => word q i ||| word r i
def mt (q r : Q4) : Q4 := mk4 fun i => word q i &&& word r i
def nt (q : Q4) : Q4 := mk4 fun i => 2 ^ 64 - (word q i + 1)
theorem fits_jn {q r : Q4} (hq : Fits q) (hr : Fits r) : Fits (jn q r) := fits_mk4 fun i => Nat.or_lt_two_pow (hq.word i) (hr.word i)
theorem fits_mt {q r : Q4} (hq : Fits q) (hr : Fits r) : Fits (mt q r) := fits_mk4 fun i => Nat.and_lt_two_pow _ (hr.word i)
theorem fits_nt (q : Q4) : Fits (nt q) := fits_mk4 fun i => by have : 0 < 2 ^ 64 := by decide
                                                               omega
theorem has_jn (q r : Q4) (n : Nat) (h : n < 256) : has (jn q r) n = (has q n || has r n) := by
  unfold jn
  rw [has_mk4 _ _ h, Nat.testBit_or]
  rfl
theorem has_mt (q r : Q4) (n : Nat) (h : n < 256) : has (mt q r) n = (has q n && has r n) := by
  unfold mt
  rw [has_mk4 _ _ h, Nat.testBit_and]
  rfl
theorem has_nt {q : Q4} (hq : Fits q) (n : Nat) (h : n < 256) : has (nt q) n = !has q n := by
  unfold nt
  rw [has_mk4 _ _ h, Nat.testBit_two_pow_sub_succ (hq.word _)]
  have : decide (n % 64 < 64) = true := by simp; omega
  rw [this, Bool.true_and]
  rfl

/-! ### how many -/
def cnt (q : Q4) : Nat := (mem q).length
def ones (x : Nat) : Nat := (List.range 64).countP (fun j => x.testBit j)
theorem countP_add (p : Nat → Bool) (n m : Nat) : (List.range (n + m)).countP p = (List.range n).countP p + (List.range m).countP (fun j => p (n + j)) := by
  induction m with
  | zero => simp
  | succ m ih => rw [← Nat.add_assoc, List.range_succ, List.range_succ, List.countP_append, List.countP_append, ih]; simp [List.countP_cons]; omega
theorem countP_cong {p r : Nat → Bool} (n : Nat) (h : ∀ j, j < n → p j = r j) : (List.range n).countP p = (List.range n).countP r := by
  induction n with
  | zero => rfl
  | succ n ih =>
    rw [List.range_succ, List.countP_append, List.countP_append, ih (fun j hj => h j (by omega))]
    simp [List.countP_cons, h n (by omega)]
theorem cnt_words (q : Q4) : cnt q = ones q.a + ones q.b + ones q.c + ones q.d := by
  unfold cnt mem
  rw [← List.countP_eq_length_filter, show 256 = 64 + (64 + (64 + 64)) from rfl, countP_add, countP_add, countP_add]
  have e0 : (List.range 64).countP (has q) = ones q.a := countP_cong 64 fun j hj => by
    unfold has
    rw [show j / 64 = 0 from by omega, show j % 64 = j from by omega]; rfl
  have e1 : (List.range 64).countP (fun j => has q (64 + j)) = ones q.b := countP_cong 64 fun j hj => by
    unfold has
    rw [show (64 + j) / 64 = 1 from by omega, show (64 + j) % 64 = j from by omega]; rfl
  have e2 : (List.range 64).countP (fun j => has q (64 + (64 + j))) = ones q.c := countP_cong 64 fun j hj => by
    unfold has
    rw [show (64 + (64 + j)) / 64 = 2 from by omega, show (64 + (64 + j)) % 64 = j from by omega]; rfl
  have e3 : (List.range 64).countP (fun j => has q (64 + (64 + (64 + j)))) = ones q.d := countP_cong 64 fun j hj => by
    unfold has
    rw [show (64 + (64 + (64 + j))) / 64 = 3 from by omega, show (64 + (64 + (64 + j))) % 64 = j from by omega]; rfl
  rw [e0, e1, e2, e3]
  omega
theorem cnt_le (q : Q4) : cnt q ≤ 256 := by
  have := List.length_filter_le (has q) (List.range 256)
  unfold cnt mem
  simpa using this

theorem cnt_two {q r s : Q4} {f : Bool → Bool → Bool} (n : Nat) (p1 p2 p3 p4 : Nat → Bool) (h : ∀ j, j < n → (if p1 j then 1 else 0) + (if p2 j then 1 else 0) = (if p3 j then 1 else 0) + (if p4 j then 1 else 0)) :
    (List.range n).countP p1 + (List.range n).countP p2 = (List.range n).countP p3 + (List.range n).countP p4 := by
  induction n with
  | zero => rfl
  | succ n ih =>
    have h1 := ih (fun j hj => h j (by omega))
    have h2 := h n (by omega)
    rw [List.range_succ, List.countP_append, List.countP_append, List.countP_append, List.countP_append]
    simp only [List.countP_cons, List.countP_nil]
    omega
theorem cnt_nt {q : Q4} (hq : Fits q) : cnt q + cnt (nt q) = 256 := by
  have := cnt_two (q := q) (r := q) (s := q) (f := fun a _ => a) 256 (has q) (has (nt q)) (fun _ => true) (fun _ => false) (by
    intro j hj
    rw [has_nt hq j hj]
    cases has q j <;> rfl)
  unfold cnt mem
  rw [← List.countP_eq_length_filter, ← List.countP_eq_length_filter, this]
  simp
theorem cnt_jn (q r : Q4) : cnt (jn q r) + cnt (mt q r) = cnt q + cnt r := by
  have := cnt_two (q := q) (r := q) (s := q) (f := fun a _ => a) 256 (has (jn q r)) (has (mt q r)) (has q) (has r) (by
    intro j hj
    rw [has_jn q r j hj, has_mt q r j hj]
    cases has q j <;> cases has r j <;> rfl)
  unfold cnt mem
  rw [← List.countP_eq_length_filter, ← List.countP_eq_length_filter, ← List.countP_eq_length_filter, ← List.countP_eq_length_filter, this]

/-! ### the rules of sets -/
theorem rule1 {q r : Q4} (hq : Fits q) (hr : Fits r) : nt (jn q r) = mt (nt q) (nt r) :=
  ext (fits_nt _) (fits_mt (fits_nt _) (fits_nt _)) fun n h => by
    rw [has_nt (fits_jn hq hr) n h, has_jn _ _ n h, has_mt _ _ n h, has_nt hq n h, has_nt hr n h, Bool.not_or]
theorem rule2 {q r : Q4} (hq : Fits q) (hr : Fits r) : jn q (mt q r) = q :=
  ext (fits_jn hq (fits_mt hq hr)) hq fun n h => by
    rw [has_jn _ _ n h, has_mt _ _ n h]
    cases has q n <;> simp
theorem rule3 {q r : Q4} (hq : Fits q) (hr : Fits r) : mt q (jn q r) = q :=
  ext (fits_mt hq (fits_jn hq hr)) hq fun n h => by
    rw [has_mt _ _ n h, has_jn _ _ n h]
    cases has q n <;> simp
theorem rule4 {q r s : Q4} (hq : Fits q) (hr : Fits r) (hs : Fits s) : mt q (jn r s) = jn (mt q r) (mt q s) :=
  ext (fits_mt hq (fits_jn hr hs)) (fits_jn (fits_mt hq hr) (fits_mt hq hs)) fun n h => by
    rw [has_mt _ _ n h, has_jn _ _ n h, has_jn _ _ n h, has_mt _ _ n h, has_mt _ _ n h, Bool.and_or_distrib_left]
theorem rule5 {q : Q4} (hq : Fits q) : nt (nt q) = q :=
  ext (fits_nt _) hq fun n h => by rw [has_nt (fits_nt _) n h, has_nt hq n h, Bool.not_not]
theorem rule6 (q r : Q4) (hq : Fits q) (hr : Fits r) : jn q r = jn r q :=
  ext (fits_jn hq hr) (fits_jn hr hq) fun n h => by rw [has_jn _ _ n h, has_jn _ _ n h, Bool.or_comm]
end Go.Proofs.YthmecbonjkcnmaaGreat.st

namespace Go.Proofs.YthmecbonjkcnmaaGreat.st
set_option linter.unusedVariables false

inductive Tr where
  | node (k : Int) (q : Q4) (mn mx : Int) (kids : List Tr)

def Tr.kind : Tr → Int | .node k _ _ _ _ => k
def Tr.set : Tr → Q4 | .node _ q _ _ _ => q
def Tr.min : Tr → Int | .node _ _ m _ _ => m
def Tr.max : Tr → Int | .node _ _ _ m _ => m
def Tr.kids : Tr → List Tr | .node _ _ _ _ l => l
def Tr.zero : Tr := .node 0 ⟨0, 0, 0, 0⟩ 0 0 []
instance : Inhabited Tr := ⟨Tr.zero⟩
theorem Tr.eta (t : Tr) : t = .node t.kind t.set t.min t.max t.kids := by cases t; rfl
def nthT (l : List Tr) (i : Nat) : Tr := l.getD i Tr.zero
theorem nthT_lt (l : List Tr) (i : Nat) (h : i < l.length) : nthT l i = l[i] := by
  unfold nthT
  rw [List.getD_eq_getElem?_getD, List.getElem?_eq_getElem h]
  rfl
theorem nthT_mem (l : List Tr) (i : Nat) (h : i < l.length) : nthT l i ∈ l := by
  rw [nthT_lt l i h]
  exact List.getElem_mem h
theorem take_nthT (l : List Tr) (i : Nat) (h : i < l.length) : l.take (i + 1) = l.take i ++ [nthT l i] := by
  rw [List.take_succ_eq_append_getElem h, nthT_lt l i h]
theorem drop_nthT (l : List Tr) (i : Nat) (h : i < l.length) : l.drop i = nthT l i :: l.drop (i + 1) := by
  rw [List.drop_eq_getElem_cons h, nthT_lt l i h]

mutual
def Tr.depth : Tr → Nat
  | .node _ _ _ _ l => depths l + 1
def depths : List Tr → Nat
  | [] => 0
  | t :: l => Max.max t.depth (depths l)
end
mutual
def Tr.nodes : Tr → Nat
  | .node _ _ _ _ l => nodesOf l + 1
def nodesOf : List Tr → Nat
  | [] => 0
  | t :: l => t.nodes + nodesOf l
end

theorem depths_append (a b : List Tr) : depths (a ++ b) = Max.max (depths a) (depths b) := by
  induction a with
  | nil => simp [depths]
  | cons t a ih => simp only [List.cons_append, depths, ih]; omega
theorem nodesOf_append (a b : List Tr) : nodesOf (a ++ b) = nodesOf a + nodesOf b := by
  induction a with
  | nil => simp [nodesOf]
  | cons t a ih => simp only [List.cons_append, nodesOf, ih]; omega
theorem depths_take (l : List Tr) (i : Nat) (h : i < l.length) : depths (l.take (i + 1)) = Max.max (depths (l.take i)) (nthT l i).depth := by
  rw [take_nthT l i h, depths_append]
  simp [depths]
theorem nodesOf_take (l : List Tr) (i : Nat) (h : i < l.length) : nodesOf (l.take (i + 1)) = nodesOf (l.take i) + (nthT l i).nodes := by
  rw [take_nthT l i h, nodesOf_append]
  simp [nodesOf]
theorem depths_le (l : List Tr) (i : Nat) : depths (l.take i) ≤ depths l := by
  have := depths_append (l.take i) (l.drop i)
  rw [List.take_append_drop] at this
  omega
theorem nodesOf_le (l : List Tr) (i : Nat) : nodesOf (l.take i) ≤ nodesOf l := by
  have := nodesOf_append (l.take i) (l.drop i)
  rw [List.take_append_drop] at this
  omega
theorem depth_nth (l : List Tr) (i : Nat) (h : i < l.length) : (nthT l i).depth ≤ depths l := by
  have := depths_le l (i + 1)
  rw [depths_take l i h] at this
  omega
theorem nodes_nth (l : List Tr) (i : Nat) (h : i < l.length) : nodesOf (l.take i) + (nthT l i).nodes ≤ nodesOf l := by
  have := nodesOf_le l (i + 1)
  rw [nodesOf_take l i h] at this
  omega
theorem Tr.depth_eq (t : Tr) : t.depth = depths t.kids + 1 := by cases t; rfl
theorem Tr.nodes_eq (t : Tr) : t.nodes = nodesOf t.kids + 1 := by cases t; rfl

def noSet (q : Q4) : Bool := decide (q.a = 0) && decide (q.b = 0) && decide (q.c = 0) && decide (q.d = 0)
def anyKind (k : Int) (l : List Tr) : Bool := l.any fun t => decide (t.kind = k)
def timesOk (mn mx : Int) : Bool := decide (0 ≤ mn) && decide (mn ≤ 20) && (decide (mx = -1) || (decide (mn ≤ mx) && decide (mx ≤ 20) && !(decide (mn = 1) && decide (mx = 1))))
/-- one node that may be -/
def okNode (t : Tr) : Bool :=
  if t.kind = 1 then decide (t.min = 0) && decide (t.max = 0) && decide (t.kids.length = 0)
  else if t.kind = 2 then noSet t.set && decide (t.min = 0) && decide (t.max = 0) && !decide (t.kids.length = 1) && !anyKind 2 t.kids
  else if t.kind = 3 then noSet t.set && decide (t.min = 0) && decide (t.max = 0) && decide (2 ≤ t.kids.length) && !anyKind 3 t.kids
  else if t.kind = 4 then noSet t.set && timesOk t.min t.max && decide (t.kids.length = 1)
  else false
mutual
def Tr.good : Tr → Bool
  | .node k q mn mx l => okNode (.node k q mn mx l) && goods l
def goods : List Tr → Bool
  | [] => true
  | t :: l => t.good && goods l
end
theorem goods_append (a b : List Tr) : goods (a ++ b) = (goods a && goods b) := by
  induction a with
  | nil => simp [goods]
  | cons t a ih => simp only [List.cons_append, goods, ih, Bool.and_assoc]
theorem goods_take (l : List Tr) (i : Nat) (h : i < l.length) : goods (l.take (i + 1)) = (goods (l.take i) && (nthT l i).good) := by
  rw [take_nthT l i h, goods_append]
  simp [goods]
theorem goods_false (l : List Tr) (i : Nat) (h : i < l.length) (hg : (nthT l i).good = false) : goods l = false := by
  have := goods_append (l.take (i + 1)) (l.drop (i + 1))
  rw [List.take_append_drop, goods_take l i h, hg] at this
  simpa using this
theorem Tr.good_eq (t : Tr) : t.good = (okNode t && goods t.kids) := by cases t; rfl
theorem any_take (k : Int) (l : List Tr) (i : Nat) (h : i < l.length) : anyKind k (l.take (i + 1)) = (anyKind k (l.take i) || decide ((nthT l i).kind = k)) := by
  unfold anyKind
  rw [take_nthT l i h, List.any_append]
  simp
theorem any_true (k : Int) (l : List Tr) (i : Nat) (h : i < l.length) (hg : (nthT l i).kind = k) : anyKind k l = true := by
  unfold anyKind
  rw [List.any_eq_true]
  exact ⟨_, nthT_mem l i h, by simpa using hg⟩

/-- Right's answer -/
def rightOf (t : Tr) : Int := if t.depth ≤ 30 ∧ t.nodes ≤ 512 then (if t.good then 0 else 61) else 2
end Go.Proofs.YthmecbonjkcnmaaGreat.st

namespace Go.Proofs.YthmecbonjkcnmaaGreat.nf
open Go.ChangeShapes Go.WideShapes Go.ChangeAt Go.RowKit
set_option linter.unusedVariables false

structure Ed where
  fr : Int
  to : Int
  free : Bool
  a : Nat
  b : Nat
  c : Nat
  d : Nat
structure Nfa where
  n : Int
  s : Int
  e : Int
  edges : List Ed

def isSt (n i : Int) : Bool := decide (0 ≤ i) && decide (i < n)
def edOk (n : Int) (x : Ed) : Bool := isSt n x.fr && isSt n x.to
def right (x : Nfa) : Bool := decide (1 ≤ x.n) && decide (x.n ≤ 2000) && decide (x.edges.length ≤ 16000) && isSt x.n x.s && isSt x.n x.e && x.edges.all (edOk x.n)

theorem below_alloc (w : World) (o : Obj) : Below w.heap.size w (w.alloc o) := (Below.refl _ _).alloc (Nat.le_refl _) o
theorem chain {w w1 w2 : World} (h1 : Below w.heap.size w w1) (h2 : Below w1.heap.size w1 w2) : Below w.heap.size w w2 := h1.trans (h2.mono h1.size)

/-- seven cells of an edge -/
structure EdAt (w : World) (b o : Nat) (x : Ed) : Prop where
  c0 : w.cell? ⟨b, o, none⟩ = some (.int .i64 x.fr)
  c1 : w.cell? ⟨b, o + 1, none⟩ = some (.int .i64 x.to)
  c2 : w.cell? ⟨b, o + 2, none⟩ = some (.bool x.free)
  c3 : w.cell? ⟨b, o + 3, none⟩ = some (.int .u64 x.a)
  c4 : w.cell? ⟨b, o + 4, none⟩ = some (.int .u64 x.b)
  c5 : w.cell? ⟨b, o + 5, none⟩ = some (.int .u64 x.c)
  c6 : w.cell? ⟨b, o + 6, none⟩ = some (.int .u64 x.d)
theorem EdAt.same {w w' : World} {b o : Nat} {x : Ed} (h : EdAt w b o x) (e : w'.heap[b]? = w.heap[b]?) : EdAt w' b o x := by
  have hc : ∀ k, w'.cell? ⟨b, k, none⟩ = w.cell? ⟨b, k, none⟩ := fun k => by simp [World.cell?, e]
  exact ⟨by rw [hc]; exact h.c0, by rw [hc]; exact h.c1, by rw [hc]; exact h.c2, by rw [hc]; exact h.c3, by rw [hc]; exact h.c4, by rw [hc]; exact h.c5, by rw [hc]; exact h.c6⟩
/-- a list of edges that came in -/
structure Eds (w : World) (o : Option Addr) (cap : Nat) (l : List Ed) : Prop where
  fit : l.length ≤ cap
  top : cap ≤ 9223372036854775807
  lie : ∀ i (h : i < l.length), ∃ b off, o = some ⟨b, off, none⟩ ∧ b < w.heap.size ∧ EdAt w b (off + i * 7) l[i]
theorem Eds.later {w w' : World} {o : Option Addr} {cap : Nat} {l : List Ed} (h : Eds w o cap l) (b : Below w.heap.size w w') : Eds w' o cap l :=
  ⟨h.fit, h.top, fun i hi => by
    obtain ⟨k, off, h1, h2, h3⟩ := h.lie i hi
    exact ⟨k, off, h1, Nat.lt_of_lt_of_le h2 b.size, h3.same (b.block k h2)⟩⟩

abbrev nfaV (n s e : Int) (o : Option Addr) (m cap : Nat) : Value := .agg #[.int .i64 n, .int .i64 s, .int .i64 e, .slice o m cap]

end Go.Proofs.YthmecbonjkcnmaaGreat.nf

namespace Go.Proofs.YthmecbonjkcnmaaGreat.nb
open st (Tr Q4 nodesOf goods okNode)
open nf (Ed)
set_option linter.unusedVariables false

/-- an nfa that is being made -/
structure St where
  n : Nat
  es : List Ed
def St.full (x : St) : Bool := decide (2000 < x.n) || decide (16000 < x.es.length)
def St.new (x : St) : St := ⟨x.n + 1, x.es⟩
def St.free (x : St) (f t : Nat) : St := ⟨x.n, x.es ++ [⟨f, t, true, 0, 0, 0, 0⟩]⟩
def St.over (x : St) (q : Q4) (f t : Nat) : St := ⟨x.n, x.es ++ [⟨f, t, false, q.a, q.b, q.c, q.d⟩]⟩
/-- what lays an expression between two states -/
abbrev Lay := Nat → Nat → St → St
/-- so many times, one behind the other: the state behind the last, and the nfa -/
def times (L : Lay) : Nat → Nat → St → Nat × St
  | 0, f, x => (f, x)
  | k + 1, f, x => times L k x.n (L f x.n x.new)
def upTo (L : Lay) (least to : Nat) : Nat → Nat → Nat → St → St
  | 0, i, f, x => x.free f to
  | k + 1, i, f, x => let y := if least ≤ i then x.free f to else x; upTo L least to k (i + 1) y.n (L f y.n y.new)
def again (L : Lay) (least f to : Nat) (x : St) : St :=
  let y := times L (least - 1) f x
  let z := y.2.new.free y.1 y.2.n
  if 0 < least then (L y.2.n z.n (z.new.free z.n y.2.n)).free z.n to else (L y.2.n y.2.n z).free y.2.n to
mutual
def layT : Tr → Lay
  | .node k q mn mx l, f, t, x =>
    if x.full = true then x
    else if k = 1 then x.over q f t
    else if k = 2 then let y := rowT l f x; y.2.free y.1 t
    else if k = 3 then altT l f t x
    else if k = 4 then (if mx = -1 then again (headT l) mn.toNat f t x else upTo (headT l) mn.toNat t mx.toNat 0 f x)
    else x
def rowT : List Tr → Nat → St → Nat × St
  | [], f, x => (f, x)
  | t :: l, f, x => rowT l x.n (layT t f x.n x.new)
def altT : List Tr → Lay
  | [], f, t, x => x
  | k :: l, f, t, x => altT l f t (layT k f t x)
def headT : List Tr → Lay
  | [], f, t, x => x
  | k :: _, f, t, x => layT k f t x
end
theorem layT_full (t : Tr) (f to : Nat) (x : St) (h : x.full = true) : layT t f to x = x := by
  cases t
  rw [layT, if_pos h]
theorem headT_full (l : List Tr) (f to : Nat) (x : St) (h : x.full = true) : headT l f to x = x := by
  cases l with
  | nil => rfl
  | cons t l => exact layT_full t f to x h
/-- at most so many states and edges -/
structure Most (x : St) (a b : Nat) : Prop where
  n : x.n ≤ a
  e : x.es.length ≤ b
theorem Most.up {x : St} {a b a' b' : Nat} (h : Most x a b) (h1 : a ≤ a') (h2 : b ≤ b') : Most x a' b' := ⟨Nat.le_trans h.n h1, Nat.le_trans h.e h2⟩
theorem Most.new {x : St} {a b : Nat} (h : Most x a b) : Most x.new (a + 1) b := ⟨Nat.succ_le_succ h.n, h.e⟩
theorem Most.free {x : St} {a b : Nat} (h : Most x a b) (f t : Nat) : Most (x.free f t) a (b + 1) := ⟨h.n, by have := h.e; simp [St.free]; omega⟩
theorem not_full {x : St} (h : ¬ x.full = true) : Most x 2000 16000 := by
  simp [St.full] at h
  exact ⟨h.1, h.2⟩
/-- what a lay adds at most, if it is not full; it adds nothing where it is -/
structure Lim (L : Lay) (G : Nat) : Prop where
  idle : ∀ f t x, x.full = true → L f t x = x
  add : ∀ f t x a b, 2000 ≤ a → 16000 ≤ b → Most x a b → Most (L f t x) (a + G) (b + G)
/-- a lay that is run again and again adds its share once -/
theorem Lim.step {L : Lay} {G : Nat} (h : Lim L G) (f t : Nat) (x : St) (a b : Nat) (hx : Most x a b) (ha : 2000 + G ≤ a) (hb : 16000 + G ≤ b) : Most (L f t x) a b := by
  by_cases hf : x.full = true
  · rw [h.idle f t x hf]; exact hx
  · exact (h.add f t x 2000 16000 (Nat.le_refl _) (Nat.le_refl _) (not_full hf)).up ha hb
theorem times_most {L : Lay} {G : Nat} (h : Lim L G) : ∀ (k f : Nat) (x : St) (a b : Nat), Most x a b → 2000 + G ≤ a → 16000 + G ≤ b → Most (times L k f x).2 (a + k) b
  | 0, f, x, a, b, hx, _, _ => hx
  | k + 1, f, x, a, b, hx, ha, hb => by
    have := times_most h k x.n (L f x.n x.new) (a + 1) b (h.step f x.n x.new (a + 1) b hx.new (by omega) hb) (by omega) hb
    exact this.up (by omega) (Nat.le_refl _)
theorem upTo_most {L : Lay} {G : Nat} (h : Lim L G) (least to : Nat) : ∀ (k i f : Nat) (x : St) (a b : Nat), Most x a b → 2000 + G ≤ a → 16000 + G ≤ b → Most (upTo L least to k i f x) (a + k) (b + k + 1)
  | 0, i, f, x, a, b, hx, _, _ => (hx.free f to).up (by omega) (by omega)
  | k + 1, i, f, x, a, b, hx, ha, hb => by
    have hy : Most (if least ≤ i then x.free f to else x) a (b + 1) := by
      split
      · exact hx.free f to
      · exact hx.up (Nat.le_refl _) (by omega)
    unfold upTo
    have := upTo_most h least to k (i + 1) (if least ≤ i then x.free f to else x).n _ (a + 1) (b + 1) (h.step f (if least ≤ i then x.free f to else x).n _ (a + 1) (b + 1) hy.new (by omega) (by omega)) (by omega) (by omega)
    exact this.up (by omega) (by omega)
theorem again_most {L : Lay} {G : Nat} (h : Lim L G) (least f to : Nat) (x : St) (a b : Nat) (hx : Most x a b) (ha : 2000 + G ≤ a) (hb : 16000 + G ≤ b) : Most (again L least f to x) (a + least + 2) (b + 3) := by
  have h1 := times_most h (least - 1) f x a b hx ha hb
  have h2 := h1.new.free (times L (least - 1) f x).1 (times L (least - 1) f x).2.n
  unfold again
  dsimp only
  split
  · exact ((h.step _ _ _ _ _ (h2.new.free _ _) (by omega) (by omega)).free _ _).up (by omega) (by omega)
  · exact ((h.step _ _ _ _ _ h2 (by omega) (by omega)).free _ _).up (by omega) (by omega)
theorem row_most : ∀ (l : List Tr), (∀ t ∈ l, Lim (layT t) (30 * t.nodes - 5)) → ∀ (f : Nat) (x : St) (a b : Nat), 2000 ≤ a → 16000 ≤ b → Most x a b → Most (rowT l f x).2 (a + 30 * nodesOf l) (b + 30 * nodesOf l)
  | [], _, f, x, a, b, _, _, hx => hx
  | t :: l, h, f, x, a, b, ha, hb, hx => by
    have hn : 1 ≤ t.nodes := by rw [Tr.nodes_eq]; omega
    have h1 := (h t (by simp)).add f x.n x.new (a + 1) b (by omega) hb hx.new
    have h2 := row_most l (fun u hu => h u (by simp [hu])) x.n _ _ _ (by omega) (by omega) h1
    rw [rowT, nodesOf]
    exact h2.up (by omega) (by omega)
theorem alt_most : ∀ (l : List Tr), (∀ t ∈ l, Lim (layT t) (30 * t.nodes - 5)) → ∀ (f to : Nat) (x : St) (a b : Nat), 2000 ≤ a → 16000 ≤ b → Most x a b → Most (altT l f to x) (a + 30 * nodesOf l) (b + 30 * nodesOf l)
  | [], _, f, to, x, a, b, _, _, hx => hx
  | t :: l, h, f, to, x, a, b, ha, hb, hx => by
    have h1 := (h t (by simp)).add f to x a b ha hb hx
    have h2 := alt_most l (fun u hu => h u (by simp [hu])) f to _ _ _ (by omega) (by omega) h1
    rw [altT, nodesOf]
    exact h2.up (by omega) (by omega)
theorem goods_mem : ∀ (l : List Tr), goods l = true → ∀ t ∈ l, t.good = true
  | [], _, t, ht => by cases ht
  | u :: l, h, t, ht => by
    rw [goods, Bool.and_eq_true] at h
    rcases List.mem_cons.1 ht with rfl | ht
    · exact h.1
    · exact goods_mem l h.2 t ht
theorem depth_mem : ∀ (l : List Tr), ∀ t ∈ l, t.depth ≤ st.depths l
  | [], t, ht => by cases ht
  | u :: l, t, ht => by
    rw [st.depths]
    rcases List.mem_cons.1 ht with rfl | ht
    · omega
    · have := depth_mem l t ht; omega
theorem times_of (t : Tr) (h : okNode t = true) (hk : t.kind = 4) : t.kids.length = 1 ∧ 0 ≤ t.min ∧ t.min ≤ 20 ∧ (t.max = -1 ∨ 0 ≤ t.max ∧ t.max ≤ 20) := by
  unfold okNode st.timesOk at h
  rw [if_neg (by omega), if_neg (by omega), if_neg (by omega), if_pos hk] at h
  simp at h
  omega
theorem lay_lim : ∀ (d : Nat) (t : Tr), t.depth ≤ d → t.good = true → Lim (layT t) (30 * t.nodes - 5)
  | 0, t, h, _ => by rw [Tr.depth_eq] at h; omega
  | d + 1, t, h, hg => by
    refine ⟨fun f to x hf => layT_full t f to x hf, fun f to x a b ha hb hx => ?_⟩
    rw [Tr.good_eq, Bool.and_eq_true] at hg
    have hkids : ∀ u ∈ t.kids, Lim (layT u) (30 * u.nodes - 5) := fun u hu => lay_lim d u (by have := depth_mem t.kids u hu; rw [Tr.depth_eq] at h; omega) (goods_mem t.kids hg.2 u hu)
    have htm := times_of t hg.1
    rw [Tr.nodes_eq]
    cases t with
    | node k q mn mx l =>
      simp only [Tr.kids, Tr.kind, Tr.min, Tr.max] at hkids htm ⊢
      rw [layT]
      split
      · exact hx.up (by omega) (by omega)
      · split
        · exact ⟨by have := hx.n; simp [St.over]; omega, by have := hx.e; simp [St.over]; omega⟩
        · split
          · have := (row_most l hkids f x a b ha hb hx).free (rowT l f x).1 to
            exact this.up (by omega) (by omega)
          · split
            · exact (alt_most l hkids f to x a b ha hb hx).up (by omega) (by omega)
            · split
              · rename_i hk4
                obtain ⟨hl1, hm0, hm1, hm2⟩ := htm hk4
                match l, hl1, hkids with
                | [kid], _, hkids =>
                  have hK : Lim (headT [kid]) (30 * kid.nodes - 5) := hkids kid (by simp)
                  have hn : 1 ≤ kid.nodes := by rw [Tr.nodes_eq]; omega
                  have e1 : nodesOf [kid] = kid.nodes := by simp [nodesOf]
                  rw [e1]
                  split
                  · have := again_most hK mn.toNat f to x (a + (30 * kid.nodes - 5)) (b + (30 * kid.nodes - 5)) (hx.up (by omega) (by omega)) (by omega) (by omega)
                    exact this.up (by omega) (by omega)
                  · have := upTo_most hK mn.toNat to mx.toNat 0 f x (a + (30 * kid.nodes - 5)) (b + (30 * kid.nodes - 5)) (hx.up (by omega) (by omega)) (by omega) (by omega)
                    exact this.up (by omega) (by omega)
              · exact hx.up (by omega) (by omega)
end Go.Proofs.YthmecbonjkcnmaaGreat.nb

namespace Go.Proofs.YthmecbonjkcnmaaGreat.nb
open st (Tr Q4 nodesOf goods okNode)
open nf (Ed)
set_option linter.unusedVariables false

def InSt (x : St) : Prop := ∀ e ∈ x.es, 0 ≤ e.fr ∧ e.fr < (x.n : Int) ∧ 0 ≤ e.to ∧ e.to < (x.n : Int)
theorem InSt.new {x : St} (h : InSt x) : InSt x.new := fun e he => by have := h e he; simp [St.new]; omega
theorem InSt.add {x : St} (h : InSt x) (f t : Nat) (hf : f < x.n) (ht : t < x.n) (fr : Bool) (a b c d : Nat) : InSt ⟨x.n, x.es ++ [⟨f, t, fr, a, b, c, d⟩]⟩ := fun e he => by
  rcases List.mem_append.1 he with he | he
  · exact h e he
  · simp at he
    subst he
    exact ⟨by simp, by simpa using hf, by simp, by simpa using ht⟩
theorem InSt.free {x : St} (h : InSt x) (f t : Nat) (hf : f < x.n) (ht : t < x.n) : InSt (x.free f t) := h.add f t hf ht true 0 0 0 0
/-- what a lay keeps -/
def Keep (L : Lay) : Prop := ∀ f t x, f < x.n → t < x.n → InSt x → InSt (L f t x) ∧ x.n ≤ (L f t x).n
theorem times_keep {L : Lay} (h : Keep L) : ∀ (k f : Nat) (x : St), f < x.n → InSt x → InSt (times L k f x).2 ∧ x.n ≤ (times L k f x).2.n ∧ (times L k f x).1 < (times L k f x).2.n
  | 0, f, x, hf, hx => ⟨hx, Nat.le_refl _, hf⟩
  | k + 1, f, x, hf, hx => by
    obtain ⟨h1, h2⟩ := h f x.n x.new (by simp [St.new]; omega) (by simp [St.new]) hx.new
    have h3 : x.n < (L f x.n x.new).n := by simp [St.new] at h2 ⊢; omega
    obtain ⟨h4, h5, h6⟩ := times_keep h k x.n (L f x.n x.new) h3 h1
    exact ⟨h4, Nat.le_trans (Nat.le_of_lt h3) h5, h6⟩
theorem upTo_keep {L : Lay} (h : Keep L) (least to : Nat) : ∀ (k i f : Nat) (x : St), f < x.n → to < x.n → InSt x → InSt (upTo L least to k i f x) ∧ x.n ≤ (upTo L least to k i f x).n
  | 0, i, f, x, hf, ht, hx => ⟨hx.free f to hf ht, Nat.le_refl _⟩
  | k + 1, i, f, x, hf, ht, hx => by
    obtain ⟨y, hy⟩ : ∃ y, y = if least ≤ i then x.free f to else x := ⟨_, rfl⟩
    have hyn : y.n = x.n := by rw [hy]; split <;> rfl
    have hyi : InSt y := by
      rw [hy]
      split
      · exact hx.free f to hf ht
      · exact hx
    unfold upTo
    dsimp only
    rw [← hy]
    obtain ⟨h1, h2⟩ := h f y.n y.new (by simp [St.new]; omega) (by simp [St.new]) hyi.new
    have h3 : y.n < (L f y.n y.new).n := by simp [St.new] at h2 ⊢; omega
    obtain ⟨h4, h5⟩ := upTo_keep h least to k (i + 1) y.n (L f y.n y.new) h3 (by omega) h1
    exact ⟨h4, by omega⟩
theorem again_keep {L : Lay} (h : Keep L) (least f to : Nat) (x : St) (hf : f < x.n) (ht : to < x.n) (hx : InSt x) : InSt (again L least f to x) ∧ x.n ≤ (again L least f to x).n := by
  obtain ⟨h1, h2, h3⟩ := times_keep h (least - 1) f x hf hx
  unfold again
  dsimp only
  generalize times L (least - 1) f x = y at *
  have z1 : InSt (y.2.new.free y.1 y.2.n) := h1.new.free _ _ (by simp [St.new]; omega) (by simp [St.new])
  have zn : (y.2.new.free y.1 y.2.n).n = y.2.n + 1 := rfl
  generalize y.2.new.free y.1 y.2.n = z at *
  split
  · have u1 : InSt (z.new.free z.n y.2.n) := z1.new.free _ _ (by simp [St.new]) (by simp [St.new]; omega)
    have un : (z.new.free z.n y.2.n).n = z.n + 1 := rfl
    obtain ⟨v1, v2⟩ := h y.2.n z.n (z.new.free z.n y.2.n) (by omega) (by omega) u1
    exact ⟨v1.free _ _ (by omega) (by omega), by show x.n ≤ (L y.2.n z.n (z.new.free z.n y.2.n)).n; omega⟩
  · obtain ⟨v1, v2⟩ := h y.2.n y.2.n z (by omega) (by omega) z1
    exact ⟨v1.free _ _ (by omega) (by omega), by show x.n ≤ (L y.2.n y.2.n z).n; omega⟩
mutual
theorem lay_keep : ∀ (t : Tr), Keep (layT t)
  | .node k q mn mx l => by
    intro f t x hf ht hx
    rw [layT]
    split
    · exact ⟨hx, Nat.le_refl _⟩
    · split
      · exact ⟨hx.add f t hf ht false q.a q.b q.c q.d, Nat.le_refl _⟩
      · split
        · obtain ⟨h1, h2, h3⟩ := row_keep l f x hf hx
          exact ⟨h1.free _ _ h3 (by omega), h2⟩
        · split
          · exact alt_keep l f t x hf ht hx
          · split
            · split
              · exact again_keep (head_keep l) _ f t x hf ht hx
              · exact upTo_keep (head_keep l) _ t _ _ f x hf ht hx
            · exact ⟨hx, Nat.le_refl _⟩
theorem row_keep : ∀ (l : List Tr) (f : Nat) (x : St), f < x.n → InSt x → InSt (rowT l f x).2 ∧ x.n ≤ (rowT l f x).2.n ∧ (rowT l f x).1 < (rowT l f x).2.n
  | [], f, x, hf, hx => ⟨hx, Nat.le_refl _, hf⟩
  | t :: l, f, x, hf, hx => by
    obtain ⟨h1, h2⟩ := lay_keep t f x.n x.new (by simp [St.new]; omega) (by simp [St.new]) hx.new
    have h3 : x.n < (layT t f x.n x.new).n := by simp [St.new] at h2 ⊢; omega
    obtain ⟨h4, h5, h6⟩ := row_keep l x.n (layT t f x.n x.new) h3 h1
    rw [rowT]
    exact ⟨h4, by omega, h6⟩
theorem alt_keep : ∀ (l : List Tr), Keep (altT l)
  | [] => fun f t x hf ht hx => ⟨hx, Nat.le_refl _⟩
  | k :: l => by
    intro f t x hf ht hx
    obtain ⟨h1, h2⟩ := lay_keep k f t x hf ht hx
    obtain ⟨h3, h4⟩ := alt_keep l f t (layT k f t x) (by omega) (by omega) h1
    rw [altT]
    exact ⟨h3, by omega⟩
theorem head_keep : ∀ (l : List Tr), Keep (headT l)
  | [] => fun f t x hf ht hx => ⟨hx, Nat.le_refl _⟩
  | k :: _ => lay_keep k
end
/-- what is laid for an expression -/
def built (t : Tr) : St := layT t 0 1 ⟨2, []⟩
theorem built_in (t : Tr) : InSt (built t) ∧ 2 ≤ (built t).n := lay_keep t 0 1 ⟨2, []⟩ (by simp) (by simp) (fun e he => by cases he)
def nfaOf (t : Tr) : nf.Nfa := ⟨(built t).n, 0, 1, (built t).es⟩
theorem built_right (t : Tr) (h : (built t).full = false) : nf.right (nfaOf t) = true := by
  obtain ⟨h1, h2⟩ := built_in t
  simp [St.full] at h
  unfold nf.right nfaOf nf.isSt nf.edOk
  simp only [Bool.and_eq_true, decide_eq_true_eq, List.all_eq_true]
  refine ⟨⟨⟨⟨⟨by omega, by omega⟩, h.2⟩, by omega⟩, by omega⟩, fun e he => ?_⟩
  have := h1 e he
  unfold nf.isSt
  simp only [Bool.and_eq_true, decide_eq_true_eq]
  exact ⟨⟨this.1, this.2.1⟩, this.2.2.1, this.2.2.2⟩
end Go.Proofs.YthmecbonjkcnmaaGreat.nb

namespace Go.Proofs.YthmecbonjkcnmaaGreat.nb
set_option linter.unusedVariables false

/-- a state, and a place of the text -/
abbrev Cf := Nat × Nat
abbrev Rl := Cf → Cf → Prop
inductive Pa (R : Rl) : Cf → Cf → Prop
  | refl (a : Cf) : Pa R a a
  | step {a b c : Cf} : R a b → Pa R b c → Pa R a c
theorem Pa.trans {R : Rl} {a b c : Cf} (h : Pa R a b) (k : Pa R b c) : Pa R a c := by
  induction h with
  | refl => exact k
  | step r _ ih => exact .step r (ih k)
theorem Pa.one {R : Rl} {a b : Cf} (h : R a b) : Pa R a b := .step h (.refl _)
theorem Pa.flat {R S : Rl} (h : ∀ a b, R a b → Pa S a b) {a b : Cf} (k : Pa R a b) : Pa S a b := by
  induction k with
  | refl => exact .refl _
  | step r _ ih => exact (h _ _ r).trans ih
theorem Pa.mono {R S : Rl} (h : ∀ a b, R a b → S a b) {a b : Cf} (k : Pa R a b) : Pa S a b := k.flat fun a b r => .one (h a b r)
theorem Pa.congr {R S : Rl} (h : ∀ a b, R a b ↔ S a b) {a b : Cf} : Pa R a b ↔ Pa S a b := ⟨Pa.mono fun a b => (h a b).1, Pa.mono fun a b => (h a b).2⟩
def Un (R S : Rl) : Rl := fun a b => R a b ∨ S a b
/-- it touches none of these states -/
def Off (F : Nat → Prop) (R : Rl) : Prop := ∀ a b, R a b → ¬ F a.1 ∧ ¬ F b.1
theorem Off.un {F : Nat → Prop} {R S : Rl} (h : Off F R) (k : Off F S) : Off F (Un R S) := fun a b r => r.elim (h a b) (k a b)
theorem Off.less {F G : Nat → Prop} {R : Rl} (h : Off G R) (k : ∀ s, F s → G s) : Off F R := fun a b r => ⟨fun f => (h a b r).1 (k _ f), fun f => (h a b r).2 (k _ f)⟩
/-- seen from the states beside these, two are the same, whatever stands beside them -/
def Same (F : Nat → Prop) (R S : Rl) : Prop := ∀ E, Off F E → ∀ a b, ¬ F a.1 → ¬ F b.1 → (Pa (Un E R) a b ↔ Pa (Un E S) a b)
theorem Same.refl (F : Nat → Prop) (R : Rl) : Same F R R := fun _ _ _ _ _ _ => Iff.rfl
theorem Same.of {F : Nat → Prop} {R S : Rl} (h : ∀ a b, R a b ↔ S a b) : Same F R S := fun E _ a b _ _ => Pa.congr fun a b => or_congr Iff.rfl (h a b)
theorem Same.up {F G : Nat → Prop} {R S : Rl} (h : Same F R S) (k : ∀ s, F s → G s) : Same G R S := fun E hE a b ha hb => h E (hE.less k) a b (fun f => ha (k _ f)) (fun f => hb (k _ f))
theorem Same.trans {F : Nat → Prop} {R S T : Rl} (h : Same F R S) (k : Same F S T) : Same F R T := fun E hE a b ha hb => (h E hE a b ha hb).trans (k E hE a b ha hb)
theorem un_assoc (E R S : Rl) (a b : Cf) : Un E (Un R S) a b ↔ Un (Un E R) S a b := or_assoc.symm
theorem un_swap (E R S : Rl) (a b : Cf) : Un E (Un R S) a b ↔ Un (Un E S) R a b := by unfold Un; rw [or_assoc, or_comm (a := S a b)]
/-- two parts, each of which touches none of the other one's own states -/
theorem Same.both {F G : Nat → Prop} {R S R' S' : Rl} (h : Same F R R') (k : Same G S S') (h1 : Off F S) (h2 : Off G R') : Same (fun s => F s ∨ G s) (Un R S) (Un R' S') := by
  intro E hE a b ha hb
  have e1 := h (Un E S) ((hE.less fun s f => .inl f).un h1) a b (fun f => ha (.inl f)) (fun f => hb (.inl f))
  have e2 := k (Un E R') ((hE.less fun s f => .inr f).un h2) a b (fun f => ha (.inr f)) (fun f => hb (.inr f))
  rw [Pa.congr (un_swap E R S), e1, Pa.congr (un_assoc E R' S'), ← e2]
  exact Pa.congr fun a b => ⟨fun h => h.elim (fun h => h.elim (fun h => .inl (.inl h)) fun h => .inr h) fun h => .inl (.inr h), fun h => h.elim (fun h => h.elim (fun h => .inl (.inl h)) fun h => .inr h) fun h => .inl (.inr h)⟩
inductive Star (T : Nat → Nat → Prop) : Nat → Nat → Prop
  | refl (i : Nat) : Star T i i
  | step {i j k : Nat} : T i j → Star T j k → Star T i k
/-- a state that nothing else touches is passed over -/
theorem elim (m : Nat) (I : Cf → Nat → Prop) (T : Nat → Nat → Prop) (O : Nat → Cf → Prop) (hI : ∀ a i, I a i → a.1 ≠ m) (hO : ∀ j b, O j b → b.1 ≠ m) :
    Same (fun s => s = m) (fun a b => (b.1 = m ∧ I a b.2) ∨ (a.1 = m ∧ b.1 = m ∧ T a.2 b.2) ∨ (a.1 = m ∧ O a.2 b)) (fun a b => ∃ i j, I a i ∧ Star T i j ∧ O j b) := by
  intro E hE a b ha hb
  constructor
  · intro h
    have key : ∀ (a : Cf) (b : Cf), b.1 ≠ m → Pa (Un E (fun a b => (b.1 = m ∧ I a b.2) ∨ (a.1 = m ∧ b.1 = m ∧ T a.2 b.2) ∨ (a.1 = m ∧ O a.2 b))) a b →
        (a.1 ≠ m → Pa (Un E (fun a b => ∃ i j, I a i ∧ Star T i j ∧ O j b)) a b) ∧ (a.1 = m → ∃ j c, Star T a.2 j ∧ O j c ∧ Pa (Un E (fun a b => ∃ i j, I a i ∧ Star T i j ∧ O j b)) c b) := by
      intro a b hb h
      induction h with
      | refl => exact ⟨fun _ => .refl _, fun e => absurd e hb⟩
      | step r _ ih =>
        have ih := ih hb
        rcases r with r | ⟨e, r⟩ | ⟨e1, e2, r⟩ | ⟨e, r⟩
        · have ho := hE _ _ r
          exact ⟨fun _ => .step (.inl r) (ih.1 ho.2), fun e => absurd e ho.1⟩
        · obtain ⟨j, c, h1, h2, h3⟩ := ih.2 e
          exact ⟨fun _ => .step (.inr ⟨_, _, r, h1, h2⟩) h3, fun e => absurd e (hI _ _ r)⟩
        · obtain ⟨j, c, h1, h2, h3⟩ := ih.2 e2
          exact ⟨fun ne => absurd e1 ne, fun _ => ⟨j, c, .step r h1, h2, h3⟩⟩
        · exact ⟨fun ne => absurd e ne, fun _ => ⟨_, _, .refl _, r, ih.1 (hO _ _ r)⟩⟩
    exact (key a b hb h).1 ha
  · refine Pa.flat ?_
    rintro a b (r | ⟨i, j, h1, h2, h3⟩)
    · exact .one (.inl r)
    · have mid : Pa (Un E (fun a b => (b.1 = m ∧ I a b.2) ∨ (a.1 = m ∧ b.1 = m ∧ T a.2 b.2) ∨ (a.1 = m ∧ O a.2 b))) (m, i) (m, j) := by
        clear h1 h3
        induction h2 with
        | refl => exact .refl _
        | step t _ ih => exact .step (.inr (.inr (.inl ⟨rfl, rfl, t⟩))) ih
      exact .step (.inr (.inl ⟨rfl, h1⟩)) (mid.trans (.one (.inr (.inr (.inr ⟨rfl, h3⟩)))))
/-- an edge that takes a whole expression -/
def Mc (f t : Nat) (T : Nat → Nat → Prop) : Rl := fun a b => a.1 = f ∧ b.1 = t ∧ T a.2 b.2
def Sq (T U : Nat → Nat → Prop) (i j : Nat) : Prop := ∃ k, T i k ∧ U k j
def Or2 (T U : Nat → Nat → Prop) (i j : Nat) : Prop := T i j ∨ U i j
theorem mc_or (f t : Nat) (T U : Nat → Nat → Prop) (a b : Cf) : Un (Mc f t T) (Mc f t U) a b ↔ Mc f t (Or2 T U) a b := by
  unfold Un Mc Or2
  constructor
  · rintro (⟨h1, h2, h3⟩ | ⟨h1, h2, h3⟩)
    · exact ⟨h1, h2, .inl h3⟩
    · exact ⟨h1, h2, .inr h3⟩
  · rintro ⟨h1, h2, h3 | h3⟩
    · exact .inl ⟨h1, h2, h3⟩
    · exact .inr ⟨h1, h2, h3⟩
/-- one behind the other, over a state of their own -/
theorem mc_seq (f m t : Nat) (T U : Nat → Nat → Prop) (hf : f ≠ m) (ht : t ≠ m) : Same (fun s => s = m) (Un (Mc f m T) (Mc m t U)) (Mc f t (Sq T U)) := by
  have h := elim m (fun a i => a.1 = f ∧ T a.2 i) (fun _ _ => False) (fun j b => b.1 = t ∧ U j b.2) (fun a i h => by rw [h.1]; exact hf) (fun j b h => by rw [h.1]; exact ht)
  refine ((Same.of fun a b => ?_).trans h).trans (Same.of fun a b => ?_)
  · unfold Un Mc
    constructor
    · rintro (⟨h1, h2, h3⟩ | ⟨h1, h2, h3⟩)
      · exact .inl ⟨h2, h1, h3⟩
      · exact .inr (.inr ⟨h1, h2, h3⟩)
    · rintro (⟨h1, h2, h3⟩ | ⟨_, _, h⟩ | ⟨h1, h2, h3⟩)
      · exact .inl ⟨h2, h1, h3⟩
      · exact h.elim
      · exact .inr ⟨h1, h2, h3⟩
  · unfold Mc Sq
    constructor
    · rintro ⟨i, j, ⟨h1, h2⟩, h3, h4, h5⟩
      have : i = j := by
        cases h3 with
        | refl => rfl
        | step x _ => exact x.elim
      subst this
      exact ⟨h1, h4, i, h2, h5⟩
    · rintro ⟨h1, h2, k, h3, h4⟩
      exact ⟨k, k, ⟨h1, h3⟩, .refl _, h2, h4⟩
/-- again and again, over a state of their own -/
theorem mc_star (f m t : Nat) (A T U : Nat → Nat → Prop) (hf : f ≠ m) (ht : t ≠ m) : Same (fun s => s = m) (Un (Mc f m A) (Un (Mc m m T) (Mc m t U))) (Mc f t (Sq A (Sq (Star T) U))) := by
  have h := elim m (fun a i => a.1 = f ∧ A a.2 i) T (fun j b => b.1 = t ∧ U j b.2) (fun a i h => by rw [h.1]; exact hf) (fun j b h => by rw [h.1]; exact ht)
  refine ((Same.of fun a b => ?_).trans h).trans (Same.of fun a b => ?_)
  · unfold Un Mc
    constructor
    · rintro (⟨h1, h2, h3⟩ | ⟨h1, h2, h3⟩ | ⟨h1, h2, h3⟩)
      · exact .inl ⟨h2, h1, h3⟩
      · exact .inr (.inl ⟨h1, h2, h3⟩)
      · exact .inr (.inr ⟨h1, h2, h3⟩)
    · rintro (⟨h1, h2, h3⟩ | ⟨h1, h2, h3⟩ | ⟨h1, h2, h3⟩)
      · exact .inl ⟨h2, h1, h3⟩
      · exact .inr (.inl ⟨h1, h2, h3⟩)
      · exact .inr (.inr ⟨h1, h2, h3⟩)
  · unfold Mc Sq
    constructor
    · rintro ⟨i, j, ⟨h1, h2⟩, h3, h4, h5⟩
      exact ⟨h1, h4, i, h2, j, h3, h5⟩
    · rintro ⟨h1, h2, k, h3, j, h4, h5⟩
      exact ⟨k, j, ⟨h1, h3⟩, h4, h2, h5⟩
/-- there, and from there back or on, over a state of their own -/
theorem mc_fork (c d t : Nat) (T : Nat → Nat → Prop) (hc : c ≠ d) (ht : t ≠ d) : Same (fun s => s = d) (Un (Mc c d T) (Un (Mc d c Eq) (Mc d t Eq))) (Un (Mc c c T) (Mc c t T)) := by
  have h := elim d (fun a i => a.1 = c ∧ T a.2 i) (fun _ _ => False) (fun j b => (b.1 = c ∨ b.1 = t) ∧ j = b.2) (fun a i h => by rw [h.1]; exact hc) (fun j b h => by rcases h.1 with e | e <;> rw [e] <;> assumption)
  refine ((Same.of fun a b => ?_).trans h).trans (Same.of fun a b => ?_)
  · unfold Un Mc
    constructor
    · rintro (⟨h1, h2, h3⟩ | ⟨h1, h2, h3⟩ | ⟨h1, h2, h3⟩)
      · exact .inl ⟨h2, h1, h3⟩
      · exact .inr (.inr ⟨h1, .inl h2, h3⟩)
      · exact .inr (.inr ⟨h1, .inr h2, h3⟩)
    · rintro (⟨h1, h2, h3⟩ | ⟨_, _, h⟩ | ⟨h1, h2 | h2, h3⟩)
      · exact .inl ⟨h2, h1, h3⟩
      · exact h.elim
      · exact .inr (.inl ⟨h1, h2, h3⟩)
      · exact .inr (.inr ⟨h1, h2, h3⟩)
  · unfold Un Mc
    constructor
    · rintro ⟨i, j, ⟨h1, h2⟩, h3, h4, h5⟩
      have : i = j := by
        cases h3 with
        | refl => rfl
        | step x _ => exact x.elim
      subst this
      rw [h5] at h2
      exact h4.elim (fun e => .inl ⟨h1, e, h2⟩) (fun e => .inr ⟨h1, e, h2⟩)
    · rintro (⟨h1, h2, h3⟩ | ⟨h1, h2, h3⟩)
      · exact ⟨_, _, ⟨h1, h3⟩, .refl _, .inl h2, rfl⟩
      · exact ⟨_, _, ⟨h1, h3⟩, .refl _, .inr h2, rfl⟩
end Go.Proofs.YthmecbonjkcnmaaGreat.nb

namespace Go.Proofs.YthmecbonjkcnmaaGreat.wk
open nb (Cf Rl Pa)
set_option linter.unusedVariables false

/-- a step stays at its place, or goes to the next one -/
def Flat (R : Rl) : Prop := ∀ a b, R a b → b.2 = a.2 ∨ b.2 = a.2 + 1
theorem pa_le {R : Rl} (hR : Flat R) {a b : Cf} (h : Pa R a b) : a.2 ≤ b.2 := by
  induction h with
  | refl => exact Nat.le_refl _
  | step r _ ih => rcases hR _ _ r with e | e <;> omega
/-- what is met leads to nothing else -/
def Closed (R : Rl) (S : Cf → Prop) : Prop := ∀ a b, S a → R a b → S b
theorem Closed.pa {R : Rl} {S : Cf → Prop} (h : Closed R S) {a b : Cf} (p : Pa R a b) : S a → S b := by
  induction p with
  | refl => exact id
  | step r _ ih => exact fun s => ih (h _ _ s r)

/-- states are put behind others at a place: each is new there, and is one of these -/
structure En (at' : Nat) (T : Nat → Prop) (S : Cf → Prop) (new : List Nat) (S' : Cf → Prop) : Prop where
  iff : ∀ c, S' c ↔ S c ∨ (c.2 = at' ∧ c.1 ∈ new)
  nin : ∀ x ∈ new, ¬ S (x, at')
  nd : new.Nodup
  way : ∀ x ∈ new, T x
theorem En.nil (at' : Nat) (T : Nat → Prop) (S : Cf → Prop) : En at' T S [] S := ⟨fun c => by simp, fun x h => by simp at h, List.nodup_nil, fun x h => by simp at h⟩
theorem En.add {at' : Nat} {T : Nat → Prop} {S S' S'' : Cf → Prop} {new : List Nat} (h : En at' T S new S') {y : Nat} (hy : ¬ S' (y, at')) (hT : T y) (h2 : ∀ c, S'' c ↔ S' c ∨ c = (y, at')) : En at' T S (new ++ [y]) S'' := by
  refine ⟨fun c => ?_, fun x hx => ?_, ?_, fun x hx => ?_⟩
  · rw [h2, h.iff, List.mem_append, List.mem_singleton]
    constructor
    · rintro ((h1 | h1) | rfl)
      · exact .inl h1
      · exact .inr ⟨h1.1, .inl h1.2⟩
      · exact .inr ⟨rfl, .inr rfl⟩
    · rintro (h1 | ⟨h1, h3 | h3⟩)
      · exact .inl (.inl h1)
      · exact .inl (.inr ⟨h1, h3⟩)
      · exact .inr (Prod.ext h3 h1)
  · rcases List.mem_append.1 hx with hx | hx
    · exact h.nin x hx
    · obtain rfl := List.mem_singleton.1 hx
      exact fun hs => hy ((h.iff _).2 (.inl hs))
  · refine List.nodup_append.2 ⟨h.nd, by simp, fun a ha b hb => ?_⟩
    obtain rfl := List.mem_singleton.1 hb
    rintro rfl
    exact hy ((h.iff _).2 (.inr ⟨rfl, ha⟩))
  · rcases List.mem_append.1 hx with hx | hx
    · exact h.way x hx
    · obtain rfl := List.mem_singleton.1 hx
      exact hT
theorem nodup_le : ∀ (n : Nat) (l : List Nat), l.Nodup → (∀ x ∈ l, x < n) → l.length ≤ n
  | 0, [], _, _ => Nat.le_refl _
  | 0, x :: l, _, h => by have := h x (by simp); omega
  | n + 1, l, hl, hb => by
    have h1 := nodup_le n (l.erase n) (hl.erase n) (fun x hx => by
      have h2 := (List.Nodup.mem_erase_iff hl).1 hx
      have := hb x h2.2
      omega)
    rw [List.length_erase] at h1
    split at h1 <;> omega
theorem En.few {at' n : Nat} {T : Nat → Prop} {S S' : Cf → Prop} {new : List Nat} (h : En at' T S new S') (hT : ∀ x, T x → x < n) : new.length ≤ n := nodup_le _ _ h.nd fun x hx => hT x (h.way x hx)
theorem En.room {at' n : Nat} {T : Nat → Prop} {S S' : Cf → Prop} {new : List Nat} (h : En at' T S new S') (hT : ∀ x, T x → x < n) {y : Nat} (hy : ¬ S' (y, at')) (hTy : T y) : new.length + 1 ≤ n := by
  have := (h.add hy hTy (S'' := fun c => S' c ∨ c = (y, at')) (fun c => Iff.rfl)).few hT
  simpa using this

/-- what entering a state at a place does to the states there, and to what is met -/
structure Ent (R : Rl) (at' : Nat) (T : Nat → Prop) (S : Cf → Prop) (new : List Nat) (S1 : Cf → Prop) (q : Nat) (new' : List Nat) (S2 : Cf → Prop) : Prop where
  en : En at' T S new' S2
  pre : new <+: new'
  up : ∀ c, S1 c → S2 c
  hit : S2 (q, at')
  clo : ∀ x ∈ new', x ∉ new → ∀ y, R (x, at') (y, at') → S2 (y, at')

/-- a search from a place on, ahead of the round at a place -/
structure Srch (R : Rl) (st nd : Nat) (S0 S : Cf → Prop) (fr at' last : Nat) (here : List Nat) : Prop where
  old : ∀ c, S0 c → S c
  way : ∀ c, S c → S0 c ∨ (Pa R (st, fr) c ∧ fr ≤ c.2 ∧ c.2 ≤ at')
  hin : ∀ x ∈ here, S (x, at')
  hall : ∀ x, S (x, at') → S0 (x, at') ∨ x ∈ here
  clo : ∀ a b, S a → R a b → S b ∨ (a.2 = at' ∧ a.1 ∈ here ∧ b.2 = at' + 1)
  start : S (st, fr)
  lst : last = fr ∨ S (nd, last)
  lge : fr ≤ last
  lle : last ≤ at'
  lmax : ∀ p, S (nd, p) → ¬ S0 (nd, p) → p < at' → p ≤ last
/-- what one search leaves for the next one -/
structure Left (R : Rl) (nd : Nat) (S : Cf → Prop) (fr : Nat) : Prop where
  clo : Closed R S
  le : ∀ p, S (nd, p) → p ≤ fr
/-- where a search ends: the last place at which the end is met, or the place from which it began -/
def Far (R : Rl) (st nd fr last : Nat) : Prop := fr ≤ last ∧ (last = fr ∨ Pa R (st, fr) (nd, last)) ∧ ∀ p, Pa R (st, fr) (nd, p) → p ≤ last
theorem Srch.begin {R : Rl} (hR : Flat R) {st nd fr : Nat} {S0 S : Cf → Prop} {here : List Nat} (h0 : Left R nd S0 fr) (h : Ent R fr (fun x => Pa R (st, fr) (x, fr)) S0 [] S0 st here S) : Srch R st nd S0 S fr fr fr here := by
  have e := h.en.iff
  refine ⟨h.up, fun c hc => ?_, fun x hx => (e _).2 (.inr ⟨rfl, hx⟩), fun x hx => ?_, fun a b ha r => ?_, h.hit, .inl rfl, Nat.le_refl _, Nat.le_refl _, fun p hp hn hl => ?_⟩
  · rcases (e c).1 hc with h1 | ⟨h1, h2⟩
    · exact .inl h1
    · have h3 := h.en.way _ h2
      obtain ⟨c1, c2⟩ := c
      simp only at h1 h3
      subst h1
      exact .inr ⟨h3, Nat.le_refl _, Nat.le_refl _⟩
  · rcases (e _).1 hx with h1 | ⟨_, h2⟩
    · exact .inl h1
    · exact .inr h2
  · rcases (e a).1 ha with h1 | ⟨h1, h2⟩
    · exact .inl (h.up _ (h0.clo a b h1 r))
    · rcases hR a b r with e1 | e1
      · refine .inl ?_
        obtain ⟨a1, a2⟩ := a
        obtain ⟨b1, b2⟩ := b
        simp only at h1 e1
        subst h1 e1
        exact h.clo a1 h2 (by simp) b1 r
      · exact .inr ⟨h1, h2, by omega⟩
  · rcases (e _).1 hp with h1 | ⟨h1, _⟩
    · exact absurd h1 hn
    · simp only at h1; omega
/-- the end is looked at -/
theorem Srch.look {R : Rl} {st nd fr at' last : Nat} {S0 S : Cf → Prop} {here : List Nat} (h : Srch R st nd S0 S fr at' last here) (l : Nat) (hl : (S (nd, at') ∧ l = at') ∨ (¬ S (nd, at') ∧ l = last)) : (l = fr ∨ S (nd, l)) ∧ fr ≤ l ∧ l ≤ at' ∧ ∀ p, S (nd, p) → ¬ S0 (nd, p) → p ≤ at' → p ≤ l := by
  have h1 := h.lge
  have h2 := h.lle
  rcases hl with ⟨hs, rfl⟩ | ⟨hs, rfl⟩
  · exact ⟨.inr hs, by omega, by omega, fun p _ _ h3 => h3⟩
  · refine ⟨h.lst, h1, h2, fun p h3 h4 h5 => ?_⟩
    rcases Nat.lt_or_ge p at' with h6 | h6
    · exact h.lmax p h3 h4 h6
    · obtain rfl : p = at' := by omega
      exact absurd h3 hs
/-- what a round's steps leave -/
structure Stp (R : Rl) (at' : Nat) (here : List Nat) (S : Cf → Prop) (new : List Nat) (S' : Cf → Prop) : Prop where
  en : En (at' + 1) (fun x => ∃ z ∈ here, Pa R (z, at') (x, at' + 1)) S new S'
  hit : ∀ x ∈ here, ∀ y, R (x, at') (y, at' + 1) → S' (y, at' + 1)
  clo : ∀ x ∈ new, ∀ y, R (x, at' + 1) (y, at' + 1) → S' (y, at' + 1)
theorem Srch.next {R : Rl} (hR : Flat R) {st nd fr at' last l : Nat} {S0 S S' : Cf → Prop} {here new : List Nat} (h0 : Left R nd S0 fr) (h : Srch R st nd S0 S fr at' last here) (hl : (S (nd, at') ∧ l = at') ∨ (¬ S (nd, at') ∧ l = last)) (k : Stp R at' here S new S') : Srch R st nd S0 S' fr (at' + 1) l new := by
  obtain ⟨k1, k2, k3, k4⟩ := h.look l hl
  have e := k.en.iff
  have up : ∀ c, S c → S' c := fun c hc => (e c).2 (.inl hc)
  refine ⟨fun c hc => up c (h.old c hc), fun c hc => ?_, fun x hx => (e _).2 (.inr ⟨rfl, hx⟩), fun x hx => ?_, fun a b ha r => ?_, up _ h.start, k1.imp id (up _), k2, by omega, fun p hp hn hlt => ?_⟩
  · rcases (e c).1 hc with h1 | ⟨h1, h2⟩
    · rcases h.way c h1 with h3 | ⟨h3, h4, h5⟩
      · exact .inl h3
      · exact .inr ⟨h3, h4, by omega⟩
    · obtain ⟨z, hz, hp⟩ := k.en.way _ h2
      rw [← h1] at hp
      rcases h.way _ (h.hin z hz) with h3 | ⟨h3, h4, h5⟩
      · exact .inl (h0.clo.pa hp h3)
      · refine .inr ⟨h3.trans hp, ?_, by omega⟩
        simp only at h4 h5
        omega
  · rcases (e _).1 hx with h1 | ⟨_, h2⟩
    · rcases h.way _ h1 with h3 | ⟨_, _, h5⟩
      · exact .inl h3
      · simp only at h5; omega
    · exact .inr h2
  · rcases (e a).1 ha with h1 | ⟨h1, h2⟩
    · rcases h.clo a b h1 r with h3 | ⟨h3, h4, h5⟩
      · exact .inl (up b h3)
      · obtain ⟨a1, a2⟩ := a
        obtain ⟨b1, b2⟩ := b
        simp only at h3 h4 h5
        subst h3 h5
        exact .inl (k.hit a1 h4 b1 r)
    · obtain ⟨a1, a2⟩ := a
      obtain ⟨b1, b2⟩ := b
      simp only at h1 h2
      subst h1
      rcases hR _ _ r with e1 | e1
      · simp only at e1
        subst e1
        exact .inl (k.clo a1 h2 b1 r)
      · exact .inr ⟨rfl, h2, e1⟩
  · rcases (e _).1 hp with h1 | ⟨h1, _⟩
    · exact k4 p h1 hn (by omega)
    · simp only at h1; omega
theorem Srch.done {R : Rl} {st nd fr at' last : Nat} {S0 S : Cf → Prop} (h0 : Left R nd S0 fr) (h : Srch R st nd S0 S fr at' last []) : Far R st nd fr last ∧ Closed R S ∧ ∀ p, S (nd, p) → p ≤ last := by
  have clo : Closed R S := fun a b ha r => by
    rcases h.clo a b ha r with h1 | ⟨_, h2, _⟩
    · exact h1
    · simp at h2
  have lim : ∀ p, S (nd, p) → p ≤ last := fun p hp => by
    by_cases hs : S0 (nd, p)
    · have := h0.le p hs
      have := h.lge
      omega
    · rcases h.way _ hp with h1 | ⟨_, _, h3⟩
      · exact absurd h1 hs
      · simp only at h3
        rcases Nat.lt_or_ge p at' with h6 | h6
        · exact h.lmax p hp hs h6
        · obtain rfl : p = at' := by omega
          rcases h.hall _ hp with h7 | h7
          · exact absurd h7 hs
          · simp at h7
  refine ⟨⟨h.lge, ?_, fun p hp => lim p (clo.pa hp h.start)⟩, clo, lim⟩
  rcases h.lst with e | e
  · exact .inl e
  · rcases h.way _ e with h1 | ⟨h1, _⟩
    · have := h0.le _ h1
      have := h.lge
      exact .inl (by omega)
    · exact .inr h1
theorem Left.up {R : Rl} {nd fr fr' : Nat} {S : Cf → Prop} (h : Closed R S) (hl : ∀ p, S (nd, p) → p ≤ fr) (hle : fr ≤ fr') : Left R nd S fr' := ⟨h, fun p hp => Nat.le_trans (hl p hp) hle⟩
end Go.Proofs.YthmecbonjkcnmaaGreat.wk
