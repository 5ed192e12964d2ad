/-
  Texts put together: Plain mathematics, no program: a tree of an expression; how deep it is, how many nodes it has, whether it is an expression's. Plain mathematics, no program beside the edges' form: the nfa that is laid for an expression, as the builder lays it, step by step; how many states and edges it may come to; that every edge goes between states that are. Plain mathematics: every edge of the nfa that is laid goes between states that are; so what Build answers is an nfa that may be. Plain mathematics, no program: steps between states at places of a text; what is done by many edges over states that nothing else touches is done by one edge that takes a whole expression.
-/
import Derived.Test.YtfilndgbgdnpiaaKSets
import Derived.Test.YtfilndgbgdnpiaaKNf
namespace Go.Proofs.Ytfilndgbgdnpiaa.st
set_option linter.unusedVariables false

inductive Tr where
  | node (k : Int) (q : Q4) (mn mx : Int) (kids : List Tr)

def Tr.kind : Tr → Int | .node k _ _ _ _ => k
def Tr.set : Tr → Q4 | .node _ q _ _ _ => q
def Tr.min : Tr → Int | .node _ _ m _ _ => m
def Tr.max : Tr → Int | .node _ _ _ m _ => m
def Tr.kids : Tr → List Tr | .node _ _ _ _ l => l
def Tr.zero : Tr := .node 0 ⟨0, 0, 0, 0⟩ 0 0 []
instance : Inhabited Tr := ⟨Tr.zero⟩
theorem Tr.eta (t : Tr) : t = .node t.kind t.set t.min t.max t.kids := by cases t; rfl
def nthT (l : List Tr) (i : Nat) : Tr := l.getD i Tr.zero
theorem nthT_lt (l : List Tr) (i : Nat) (h : i < l.length) : nthT l i = l[i] := by
  unfold nthT
  rw [List.getD_eq_getElem?_getD, List.getElem?_eq_getElem h]
  rfl
theorem nthT_mem (l : List Tr) (i : Nat) (h : i < l.length) : nthT l i ∈ l := by
  rw [nthT_lt l i h]
  exact List.getElem_mem h
theorem take_nthT (l : List Tr) (i : Nat) (h : i < l.length) : l.take (i + 1) = l.take i ++ [nthT l i] := by
  rw [List.take_succ_eq_append_getElem h, nthT_lt l i h]
theorem drop_nthT (l : List Tr) (i : Nat) (h : i < l.length) : l.drop i = nthT l i :: l.drop (i + 1) := by
  rw [List.drop_eq_getElem_cons h, nthT_lt l i h]

mutual
def Tr.depth : Tr → Nat
  | .node _ _ _ _ l => depths l + 1
def depths : List Tr → Nat
  | [] => 0
  | t :: l => Max.max t.depth (depths l)
end
mutual
def Tr.nodes : Tr → Nat
  | .node _ _ _ _ l => nodesOf l + 1
def nodesOf : List Tr → Nat
  | [] => 0
  | t :: l => t.nodes + nodesOf l
end

theorem depths_append (a b : List Tr) : depths (a ++ b) = Max.max (depths a) (depths b) := by
  induction a with
  | nil => simp [depths]
  | cons t a ih => simp only [List.cons_append, depths, ih]; omega
theorem nodesOf_append (a b : List Tr) : nodesOf (a ++ b) = nodesOf a + nodesOf b := by
  induction a with
  | nil => simp [nodesOf]
  | cons t a ih => simp only [List.cons_append, nodesOf, ih]; omega
theorem depths_take (l : List Tr) (i : Nat) (h : i < l.length) : depths (l.take (i + 1)) = Max.max (depths (l.take i)) (nthT l i).depth := by
  rw [take_nthT l i h, depths_append]
  simp [depths]
theorem nodesOf_take (l : List Tr) (i : Nat) (h : i < l.length) : nodesOf (l.take (i + 1)) = nodesOf (l.take i) + (nthT l i).nodes := by
  rw [take_nthT l i h, nodesOf_append]
  simp [nodesOf]
theorem depths_le (l : List Tr) (i : Nat) : depths (l.take i) ≤ depths l := by
  have := depths_append (l.take i) (l.drop i)
  rw [List.take_append_drop] at this
  omega
theorem nodesOf_le (l : List Tr) (i : Nat) : nodesOf (l.take i) ≤ nodesOf l := by
  have := nodesOf_append (l.take i) (l.drop i)
  rw [List.take_append_drop] at this
  omega
theorem depth_nth (l : List Tr) (i : Nat) (h : i < l.length) : (nthT l i).depth ≤ depths l := by
  have := depths_le l (i + 1)
  rw [depths_take l i h] at this
  omega
theorem nodes_nth (l : List Tr) (i : Nat) (h : i < l.length) : nodesOf (l.take i) + (nthT l i).nodes ≤ nodesOf l := by
  have := nodesOf_le l (i + 1)
  rw [nodesOf_take l i h] at this
  omega
theorem Tr.depth_eq (t : Tr) : t.depth = depths t.kids + 1 := by cases t; rfl
theorem Tr.nodes_eq (t : Tr) : t.nodes = nodesOf t.kids + 1 := by cases t; rfl

def noSet (q : Q4) : Bool := decide (q.a = 0) && decide (q.b = 0) && decide (q.c = 0) && decide (q.d = 0)
def anyKind (k : Int) (l : List Tr) : Bool := l.any fun t => decide (t.kind = k)
def timesOk (mn mx : Int) : Bool := decide (0 ≤ mn) && decide (mn ≤ 20) && (decide (mx = -1) || (decide (mn ≤ mx) && decide (mx ≤ 20) && !(decide (mn = 1) && decide (mx = 1))))
/-- one node that may be -/
def okNode (t : Tr) : Bool :=
  if t.kind = 1 then decide (t.min = 0) && decide (t.max = 0) && decide (t.kids.length = 0)
  else if t.kind = 2 then noSet t.set && decide (t.min = 0) && decide (t.max = 0) && !decide (t.kids.length = 1) && !anyKind 2 t.kids
  else if t.kind = 3 then noSet t.set && decide (t.min = 0) && decide (t.max = 0) && decide (2 ≤ t.kids.length) && !anyKind 3 t.kids
  else if t.kind = 4 then noSet t.set && timesOk t.min t.max && decide (t.kids.length = 1)
  else false
mutual
def Tr.good : Tr → Bool
  | .node k q mn mx l => okNode (.node k q mn mx l) && goods l
def goods : List Tr → Bool
  | [] => true
  | t :: l => t.good && goods l
end
theorem goods_append (a b : List Tr) : goods (a ++ b) = (goods a && goods b) := by
  induction a with
  | nil => simp [goods]
  | cons t a ih => simp only [List.cons_append, goods, ih, Bool.and_assoc]
theorem goods_take (l : List Tr) (i : Nat) (h : i < l.length) : goods (l.take (i + 1)) = (goods (l.take i) && (nthT l i).good) := by
  rw [take_nthT l i h, goods_append]
  simp [goods]
theorem goods_false (l : List Tr) (i : Nat) (h : i < l.length) (hg : (nthT l i).good = false) : goods l = false := by
  have := goods_append (l.take (i + 1)) (l.drop (i + 1))
  rw [List.take_append_drop, goods_take l i h, hg] at this
  simpa using this
theorem Tr.good_eq (t : Tr) : t.good = (okNode t && goods t.kids) := by cases t; rfl
theorem any_take (k : Int) (l : List Tr) (i : Nat) (h : i < l.length) : anyKind k (l.take (i + 1)) = (anyKind k (l.take i) || decide ((nthT l i).kind = k)) := by
  unfold anyKind
  rw [take_nthT l i h, List.any_append]
  simp
theorem any_true (k : Int) (l : List Tr) (i : Nat) (h : i < l.length) (hg : (nthT l i).kind = k) : anyKind k l = true := by
  unfold anyKind
  rw [List.any_eq_true]
  exact ⟨_, nthT_mem l i h, by simpa using hg⟩

/-- Right's answer -/
def rightOf (t : Tr) : Int := if t.depth ≤ 30 ∧ t.nodes ≤ 512 then (if t.good then 0 else 61) else 2
end Go.Proofs.Ytfilndgbgdnpiaa.st

namespace Go.Proofs.Ytfilndgbgdnpiaa.nb
open st (Tr Q4 nodesOf goods okNode)
open nf (Ed)
set_option linter.unusedVariables false

/-- an nfa that is being made -/
structure St where
  n : Nat
  es : List Ed
def St.full (x : St) : Bool := decide (2000 < x.n) || decide (16000 < x.es.length)
def St.new (x : St) : St := ⟨x.n + 1, x.es⟩
def St.free (x : St) (f t : Nat) : St := ⟨x.n, x.es ++ [⟨f, t, true, 0, 0, 0, 0⟩]⟩
def St.over (x : St) (q : Q4) (f t : Nat) : St := ⟨x.n, x.es ++ [⟨f, t, false, q.a, q.b, q.c, q.d⟩]⟩
/-- what lays an expression between two states -/
abbrev Lay := Nat → Nat → St → St
/-- so many times, one behind the other: the state behind the last, and the nfa -/
def times (L : Lay) : Nat → Nat → St → Nat × St
  | 0, f, x => (f, x)
  | k + 1, f, x => times L k x.n (L f x.n x.new)
def upTo (L : Lay) (least to : Nat) : Nat → Nat → Nat → St → St
  | 0, i, f, x => x.free f to
  | k + 1, i, f, x => let y := if least ≤ i then x.free f to else x; upTo L least to k (i + 1) y.n (L f y.n y.new)
def again (L : Lay) (least f to : Nat) (x : St) : St :=
  let y := times L (least - 1) f x
  let z := y.2.new.free y.1 y.2.n
  if 0 < least then (L y.2.n z.n (z.new.free z.n y.2.n)).free z.n to else (L y.2.n y.2.n z).free y.2.n to
mutual
def layT : Tr → Lay
  | .node k q mn mx l, f, t, x =>
    if x.full = true then x
    else if k = 1 then x.over q f t
    else if k = 2 then let y := rowT l f x; y.2.free y.1 t
    else if k = 3 then altT l f t x
    else if k = 4 then (if mx = -1 then again (headT l) mn.toNat f t x else upTo (headT l) mn.toNat t mx.toNat 0 f x)
    else x
def rowT : List Tr → Nat → St → Nat × St
  | [], f, x => (f, x)
  | t :: l, f, x => rowT l x.n (layT t f x.n x.new)
def altT : List Tr → Lay
  | [], f, t, x => x
  | k :: l, f, t, x => altT l f t (layT k f t x)
def headT : List Tr → Lay
  | [], f, t, x => x
  | k :: _, f, t, x => layT k f t x
end
theorem layT_full (t : Tr) (f to : Nat) (x : St) (h : x.full = true) : layT t f to x = x := by
  cases t
  rw [layT, if_pos h]
theorem headT_full (l : List Tr) (f to : Nat) (x : St) (h : x.full = true) : headT l f to x = x := by
  cases l with
  | nil => rfl
  | cons t l => exact layT_full t f to x h
/-- at most so many states and edges -/
structure Most (x : St) (a b : Nat) : Prop where
  n : x.n ≤ a
  e : x.es.length ≤ b
theorem Most.up {x : St} {a b a' b' : Nat} (h : Most x a b) (h1 : a ≤ a') (h2 : b ≤ b') : Most x a' b' := ⟨Nat.le_trans h.n h1, Nat.le_trans h.e h2⟩
theorem Most.new {x : St} {a b : Nat} (h : Most x a b) : Most x.new (a + 1) b := ⟨Nat.succ_le_succ h.n, h.e⟩
theorem Most.free {x : St} {a b : Nat} (h : Most x a b) (f t : Nat) : Most (x.free f t) a (b + 1) := ⟨h.n, by have := h.e; simp [St.free]; omega⟩
theorem not_full {x : St} (h : ¬ x.full = true) : Most x 2000 16000 := by
  simp [St.full] at h
  exact ⟨h.1, h.2⟩
/-- what a lay adds at most, if it is not full; it adds nothing where it is -/
structure Lim (L : Lay) (G : Nat) : Prop where
  idle : ∀ f t x, x.full = true → L f t x = x
  add : ∀ f t x a b, 2000 ≤ a → 16000 ≤ b → Most x a b → Most (L f t x) (a + G) (b + G)
/-- a lay that is run again and again adds its share once -/
theorem Lim.step {L : Lay} {G : Nat} (h : Lim L G) (f t : Nat) (x : St) (a b : Nat) (hx : Most x a b) (ha : 2000 + G ≤ a) (hb : 16000 + G ≤ b) : Most (L f t x) a b := by
  by_cases hf : x.full = true
  · rw [h.idle f t x hf]; exact hx
  · exact (h.add f t x 2000 16000 (Nat.le_refl _) (Nat.le_refl _) (not_full hf)).up ha hb
theorem times_most {L : Lay} {G : Nat} (h : Lim L G) : ∀ (k f : Nat) (x : St) (a b : Nat), Most x a b → 2000 + G ≤ a → 16000 + G ≤ b → Most (times L k f x).2 (a + k) b
  | 0, f, x, a, b, hx, _, _ => hx
  | k + 1, f, x, a, b, hx, ha, hb => by
    have := times_most h k x.n (L f x.n x.new) (a + 1) b (h.step f x.n x.new (a + 1) b hx.new (by omega) hb) (by omega) hb
    exact this.up (by omega) (Nat.le_refl _)
theorem upTo_most {L : Lay} {G : Nat} (h : Lim L G) (least to : Nat) : ∀ (k i f : Nat) (x : St) (a b : Nat), Most x a b → 2000 + G ≤ a → 16000 + G ≤ b → Most (upTo L least to k i f x) (a + k) (b + k + 1)
  | 0, i, f, x, a, b, hx, _, _ => (hx.free f to).up (by omega) (by omega)
  | k + 1, i, f, x, a, b, hx, ha, hb => by
    have hy : Most (if least ≤ i then x.free f to else x) a (b + 1) := by
      split
      · exact hx.free f to
      · exact hx.up (Nat.le_refl _) (by omega)
    unfold upTo
    have := upTo_most h least to k (i + 1) (if least ≤ i then x.free f to else x).n _ (a + 1) (b + 1) (h.step f (if least ≤ i then x.free f to else x).n _ (a + 1) (b + 1) hy.new (by omega) (by omega)) (by omega) (by omega)
    exact this.up (by omega) (by omega)
theorem again_most {L : Lay} {G : Nat} (h : Lim L G) (least f to : Nat) (x : St) (a b : Nat) (hx : Most x a b) (ha : 2000 + G ≤ a) (hb : 16000 + G ≤ b) : Most (again L least f to x) (a + least + 2) (b + 3) := by
  have h1 := times_most h (least - 1) f x a b hx ha hb
  have h2 := h1.new.free (times L (least - 1) f x).1 (times L (least - 1) f x).2.n
  unfold again
  dsimp only
  split
  · exact ((h.step _ _ _ _ _ (h2.new.free _ _) (by omega) (by omega)).free _ _).up (by omega) (by omega)
  · exact ((h.step _ _ _ _ _ h2 (by omega) (by omega)).free _ _).up (by omega) (by omega)
theorem row_most : ∀ (l : List Tr), (∀ t ∈ l, Lim (layT t) (30 * t.nodes - 5)) → ∀ (f : Nat) (x : St) (a b : Nat), 2000 ≤ a → 16000 ≤ b → Most x a b → Most (rowT l f x).2 (a + 30 * nodesOf l) (b + 30 * nodesOf l)
  | [], _, f, x, a, b, _, _, hx => hx
  | t :: l, h, f, x, a, b, ha, hb, hx => by
    have hn : 1 ≤ t.nodes := by rw [Tr.nodes_eq]; omega
    have h1 := (h t (by simp)).add f x.n x.new (a + 1) b (by omega) hb hx.new
    have h2 := row_most l (fun u hu => h u (by simp [hu])) x.n _ _ _ (by omega) (by omega) h1
    rw [rowT, nodesOf]
    exact h2.up (by omega) (by omega)
theorem alt_most : ∀ (l : List Tr), (∀ t ∈ l, Lim (layT t) (30 * t.nodes - 5)) → ∀ (f to : Nat) (x : St) (a b : Nat), 2000 ≤ a → 16000 ≤ b → Most x a b → Most (altT l f to x) (a + 30 * nodesOf l) (b + 30 * nodesOf l)
  | [], _, f, to, x, a, b, _, _, hx => hx
  | t :: l, h, f, to, x, a, b, ha, hb, hx => by
    have h1 := (h t (by simp)).add f to x a b ha hb hx
    have h2 := alt_most l (fun u hu => h u (by simp [hu])) f to _ _ _ (by omega) (by omega) h1
    rw [altT, nodesOf]
    exact h2.up (by omega) (by omega)
theorem goods_mem : ∀ (l : List Tr), goods l = true → ∀ t ∈ l, t.good = true
  | [], _, t, ht => by cases ht
  | u :: l, h, t, ht => by
    rw [goods, Bool.and_eq_true] at h
    rcases List.mem_cons.1 ht with rfl | ht
    · exact h.1
    · exact goods_mem l h.2 t ht
theorem depth_mem : ∀ (l : List Tr), ∀ t ∈ l, t.depth ≤ st.depths l
  | [], t, ht => by cases ht
  | u :: l, t, ht => by
    rw [st.depths]
    rcases List.mem_cons.1 ht with rfl | ht
    · omega
    · have := depth_mem l t ht; omega
theorem times_of (t : Tr) (h : okNode t = true) (hk : t.kind = 4) : t.kids.length = 1 ∧ 0 ≤ t.min ∧ t.min ≤ 20 ∧ (t.max = -1 ∨ 0 ≤ t.max ∧ t.max ≤ 20) := by
  unfold okNode st.timesOk at h
  rw [if_neg (by omega), if_neg (by omega), if_neg (by omega), if_pos hk] at h
  simp at h
  omega
theorem lay_lim : ∀ (d : Nat) (t : Tr), t.depth ≤ d → t.good = true → Lim (layT t) (30 * t.nodes - 5)
  | 0, t, h, _ => by rw [Tr.depth_eq] at h; omega
  | d + 1, t, h, hg => by
    refine ⟨fun f to x hf => layT_full t f to x hf, fun f to x a b ha hb hx => ?_⟩
    rw [Tr.good_eq, Bool.and_eq_true] at hg
    have hkids : ∀ u ∈ t.kids, Lim (layT u) (30 * u.nodes - 5) := fun u hu => lay_lim d u (by have := depth_mem t.kids u hu; rw [Tr.depth_eq] at h; omega) (goods_mem t.kids hg.2 u hu)
    have htm := times_of t hg.1
    rw [Tr.nodes_eq]
    cases t with
    | node k q mn mx l =>
      simp only [Tr.kids, Tr.kind, Tr.min, Tr.max] at hkids htm ⊢
      rw [layT]
      split
      · exact hx.up (by omega) (by omega)
      · split
        · exact ⟨by have := hx.n; simp [St.over]; omega, by have := hx.e; simp [St.over]; omega⟩
        · split
          · have := (row_most l hkids f x a b ha hb hx).free (rowT l f x).1 to
            exact this.up (by omega) (by omega)
          · split
            · exact (alt_most l hkids f to x a b ha hb hx).up (by omega) (by omega)
            · split
              · rename_i hk4
                obtain ⟨hl1, hm0, hm1, hm2⟩ := htm hk4
                match l, hl1, hkids with
                | [kid], _, hkids =>
                  have hK : Lim (headT [kid]) (30 * kid.nodes - 5) := hkids kid (by simp)
                  have hn : 1 ≤ kid.nodes := by rw [Tr.nodes_eq]; omega
                  have e1 : nodesOf [kid] = kid.nodes := by simp [nodesOf]
                  rw [e1]
                  split
                  · have := again_most hK mn.toNat f to x (a + (30 * kid.nodes - 5)) (b + (30 * kid.nodes - 5)) (hx.up (by omega) (by omega)) (by omega) (by omega)
                    exact this.up (by omega) (by omega)
                  · have := upTo_most hK mn.toNat to mx.toNat 0 f x (a + (30 * kid.nodes - 5)) (b + (30 * kid.nodes - 5)) (hx.up (by omega) (by omega)) (by omega) (by omega)
                    exact this.up (by omega) (by omega)
              · exact hx.up (by omega) (by omega)
end Go.Proofs.Ytfilndgbgdnpiaa.nb

namespace Go.Proofs.Ytfilndgbgdnpiaa.nb
open st (Tr Q4 nodesOf goods okNode)
open nf (Ed)
set_option linter.unusedVariables false

def InSt (x : St) : Prop := ∀ e ∈ x.es, 0 ≤ e.fr ∧ e.fr < (x.n : Int) ∧ 0 ≤ e.to ∧ e.to < (x.n : Int)
theorem InSt.new {x : St} (h : InSt x) : InSt x.new := fun e he => by have := h e he; simp [St.new]; omega
theorem InSt.add {x : St} (h : InSt x) (f t : Nat) (hf : f < x.n) (ht : t < x.n) (fr : Bool) (a b c d : Nat) : InSt ⟨x.n, x.es ++ [⟨f, t, fr, a, b, c, d⟩]⟩ := fun e he => by
  rcases List.mem_append.1 he with he | he
  · exact h e he
  · simp at he
    subst he
    exact ⟨by simp, by simpa using hf, by simp, by simpa using ht⟩
theorem InSt.free {x : St} (h : InSt x) (f t : Nat) (hf : f < x.n) (ht : t < x.n) : InSt (x.free f t) := h.add f t hf ht true 0 0 0 0
/-- what a lay keeps -/
def Keep (L : Lay) : Prop := ∀ f t x, f < x.n → t < x.n → InSt x → InSt (L f t x) ∧ x.n ≤ (L f t x).n
theorem times_keep {L : Lay} (h : Keep L) : ∀ (k f : Nat) (x : St), f < x.n → InSt x → InSt (times L k f x).2 ∧ x.n ≤ (times L k f x).2.n ∧ (times L k f x).1 < (times L k f x).2.n
  | 0, f, x, hf, hx => ⟨hx, Nat.le_refl _, hf⟩
  | k + 1, f, x, hf, hx => by
    obtain ⟨h1, h2⟩ := h f x.n x.new (by simp [St.new]; omega) (by simp [St.new]) hx.new
    have h3 : x.n < (L f x.n x.new).n := by simp [St.new] at h2 ⊢; omega
    obtain ⟨h4, h5, h6⟩ := times_keep h k x.n (L f x.n x.new) h3 h1
    exact ⟨h4, Nat.le_trans (Nat.le_of_lt h3) h5, h6⟩
theorem upTo_keep {L : Lay} (h : Keep L) (least to : Nat) : ∀ (k i f : Nat) (x : St), f < x.n → to < x.n → InSt x → InSt (upTo L least to k i f x) ∧ x.n ≤ (upTo L least to k i f x).n
  | 0, i, f, x, hf, ht, hx => ⟨hx.free f to hf ht, Nat.le_refl _⟩
  | k + 1, i, f, x, hf, ht, hx => by
    obtain ⟨y, hy⟩ : ∃ y, y = if least ≤ i then x.free f to else x := ⟨_, rfl⟩
    have hyn : y.n = x.n := by rw [hy]; split <;> rfl
    have hyi : InSt y := by
      rw [hy]
      split
      · exact hx.free f to hf ht
      · exact hx
    unfold upTo
    dsimp only
    rw [← hy]
    obtain ⟨h1, h2⟩ := h f y.n y.new (by simp [St.new]; omega) (by simp [St.new]) hyi.new
    have h3 : y.n < (L f y.n y.new).n := by simp [St.new] at h2 ⊢; omega
    obtain ⟨h4, h5⟩ := upTo_keep h least to k (i + 1) y.n (L f y.n y.new) h3 (by omega) h1
    exact ⟨h4, by omega⟩
theorem again_keep {L : Lay} (h : Keep L) (least f to : Nat) (x : St) (hf : f < x.n) (ht : to < x.n) (hx : InSt x) : InSt (again L least f to x) ∧ x.n ≤ (again L least f to x).n := by
  obtain ⟨h1, h2, h3⟩ := times_keep h (least - 1) f x hf hx
  unfold again
  dsimp only
  generalize times L (least - 1) f x = y at *
  have z1 : InSt (y.2.new.free y.1 y.2.n) := h1.new.free _ _ (by simp [St.new]; omega) (by simp [St.new])
  have zn : (y.2.new.free y.1 y.2.n).n = y.2.n + 1 := rfl
  generalize y.2.new.free y.1 y.2.n = z at *
  split
  · have u1 : InSt (z.new.free z.n y.2.n) := z1.new.free _ _ (by simp [St.new]) (by simp [St.new]; omega)
    have un : (z.new.free z.n y.2.n).n = z.n + 1 := rfl
    obtain ⟨v1, v2⟩ := h y.2.n z.n (z.new.free z.n y.2.n) (by omega) (by omega) u1
    exact ⟨v1.free _ _ (by omega) (by omega), by show x.n ≤ (L y.2.n z.n (z.new.free z.n y.2.n)).n; omega⟩
  · obtain ⟨v1, v2⟩ := h y.2.n y.2.n z (by omega) (by omega) z1
    exact ⟨v1.free _ _ (by omega) (by omega), by show x.n ≤ (L y.2.n y.2.n z).n; omega⟩
mutual
theorem lay_keep : ∀ (t : Tr), Keep (layT t)
  | .node k q mn mx l => by
    intro f t x hf ht hx
    rw [layT]
    split
    · exact ⟨hx, Nat.le_refl _⟩
    · split
      · exact ⟨hx.add f t hf ht false q.a q.b q.c q.d, Nat.le_refl _⟩
      · split
        · obtain ⟨h1, h2, h3⟩ := row_keep l f x hf hx
          exact ⟨h1.free _ _ h3 (by omega), h2⟩
        · split
          · exact alt_keep l f t x hf ht hx
          · split
            · split
              · exact again_keep (head_keep l) _ f t x hf ht hx
              · exact upTo_keep (head_keep l) _ t _ _ f x hf ht hx
            · exact ⟨hx, Nat.le_refl _⟩
theorem row_keep : ∀ (l : List Tr) (f : Nat) (x : St), f < x.n → InSt x → InSt (rowT l f x).2 ∧ x.n ≤ (rowT l f x).2.n ∧ (rowT l f x).1 < (rowT l f x).2.n
  | [], f, x, hf, hx => ⟨hx, Nat.le_refl _, hf⟩
  | t :: l, f, x, hf, hx => by
    obtain ⟨h1, h2⟩ := lay_keep t f x.n x.new (by simp [St.new]; omega) (by simp [St.new]) hx.new
    have h3 : x.n < (layT t f x.n x.new).n := by simp [St.new] at h2 ⊢; omega
    obtain ⟨h4, h5, h6⟩ := row_keep l x.n (layT t f x.n x.new) h3 h1
    rw [rowT]
    exact ⟨h4, by omega, h6⟩
theorem alt_keep : ∀ (l : List Tr), Keep (altT l)
  | [] => fun f t x hf ht hx => ⟨hx, Nat.le_refl _⟩
  | k :: l => by
    intro f t x hf ht hx
    obtain ⟨h1, h2⟩ := lay_keep k f t x hf ht hx
    obtain ⟨h3, h4⟩ := alt_keep l f t (layT k f t x) (by omega) (by omega) h1
    rw [altT]
    exact ⟨h3, by omega⟩
theorem head_keep : ∀ (l : List Tr), Keep (headT l)
  | [] => fun f t x hf ht hx => ⟨hx, Nat.le_refl _⟩
  | k :: _ => lay_keep k
end
/-- what is laid for an expression -/
def built (t : Tr) : St := layT t 0 1 ⟨2, []⟩
theorem built_in (t : Tr) : InSt (built t) ∧ 2 ≤ (built t).n := lay_keep t 0 1 ⟨2, []⟩ (by simp) (by simp) (fun e he => by cases he)
def nfaOf (t : Tr) : nf.Nfa := ⟨(built t).n, 0, 1, (built t).es⟩
theorem built_right (t : Tr) (h : (built t).full = false) : nf.right (nfaOf t) = true := by
  obtain ⟨h1, h2⟩ := built_in t
  simp [St.full] at h
  unfold nf.right nfaOf nf.isSt nf.edOk
  simp only [Bool.and_eq_true, decide_eq_true_eq, List.all_eq_true]
  refine ⟨⟨⟨⟨⟨by omega, by omega⟩, h.2⟩, by omega⟩, by omega⟩, fun e he => ?_⟩
  have := h1 e he
  unfold nf.isSt
  simp only [Bool.and_eq_true, decide_eq_true_eq]
  exact ⟨⟨this.1, this.2.1⟩, this.2.2.1, this.2.2.2⟩
end Go.Proofs.Ytfilndgbgdnpiaa.nb

namespace Go.Proofs.Ytfilndgbgdnpiaa.nb
set_option linter.unusedVariables false

/-- a state, and a place of the text -/
abbrev Cf := Nat × Nat
abbrev Rl := Cf → Cf → Prop
inductive Pa (R : Rl) : Cf → Cf → Prop
  | refl (a : Cf) : Pa R a a
  | step {a b c : Cf} : R a b → Pa R b c → Pa R a c
theorem Pa.trans {R : Rl} {a b c : Cf} (h : Pa R a b) (k : Pa R b c) : Pa R a c := by
  induction h with
  | refl => exact k
  | step r _ ih => exact .step r (ih k)
theorem Pa.one {R : Rl} {a b : Cf} (h : R a b) : Pa R a b := .step h (.refl _)
theorem Pa.flat {R S : Rl} (h : ∀ a b, R a b → Pa S a b) {a b : Cf} (k : Pa R a b) : Pa S a b := by
  induction k with
  | refl => exact .refl _
  | step r _ ih => exact (h _ _ r).trans ih
theorem Pa.mono {R S : Rl} (h : ∀ a b, R a b → S a b) {a b : Cf} (k : Pa R a b) : Pa S a b := k.flat fun a b r => .one (h a b r)
theorem Pa.congr {R S : Rl} (h : ∀ a b, R a b ↔ S a b) {a b : Cf} : Pa R a b ↔ Pa S a b := ⟨Pa.mono fun a b => (h a b).1, Pa.mono fun a b => (h a b).2⟩
def Un (R S : Rl) : Rl := fun a b => R a b ∨ S a b
/-- it touches none of these states -/
def Off (F : Nat → Prop) (R : Rl) : Prop := ∀ a b, R a b → ¬ F a.1 ∧ ¬ F b.1
theorem Off.un {F : Nat → Prop} {R S : Rl} (h : Off F R) (k : Off F S) : Off F (Un R S) := fun a b r => r.elim (h a b) (k a b)
theorem Off.less {F G : Nat → Prop} {R : Rl} (h : Off G R) (k : ∀ s, F s → G s) : Off F R := fun a b r => ⟨fun f => (h a b r).1 (k _ f), fun f => (h a b r).2 (k _ f)⟩
/-- seen from the states beside these, two are the same, whatever stands beside them -/
def Same (F : Nat → Prop) (R S : Rl) : Prop := ∀ E, Off F E → ∀ a b, ¬ F a.1 → ¬ F b.1 → (Pa (Un E R) a b ↔ Pa (Un E S) a b)
theorem Same.refl (F : Nat → Prop) (R : Rl) : Same F R R := fun _ _ _ _ _ _ => Iff.rfl
theorem Same.of {F : Nat → Prop} {R S : Rl} (h : ∀ a b, R a b ↔ S a b) : Same F R S := fun E _ a b _ _ => Pa.congr fun a b => or_congr Iff.rfl (h a b)
theorem Same.up {F G : Nat → Prop} {R S : Rl} (h : Same F R S) (k : ∀ s, F s → G s) : Same G R S := fun E hE a b ha hb => h E (hE.less k) a b (fun f => ha (k _ f)) (fun f => hb (k _ f))
theorem Same.trans {F : Nat → Prop} {R S T : Rl} (h : Same F R S) (k : Same F S T) : Same F R T := fun E hE a b ha hb => (h E hE a b ha hb).trans (k E hE a b ha hb)
theorem un_assoc (E R S : Rl) (a b : Cf) : Un E (Un R S) a b ↔ Un (Un E R) S a b := or_assoc.symm
theorem un_swap (E R S : Rl) (a b : Cf) : Un E (Un R S) a b ↔ Un (Un E S) R a b := by unfold Un; rw [or_assoc, or_comm (a := S a b)]
/-- two parts, each of which touches none of the other one's own states -/
theorem Same.both {F G : Nat → Prop} {R S R' S' : Rl} (h : Same F R R') (k : Same G S S') (h1 : Off F S) (h2 : Off G R') : Same (fun s => F s ∨ G s) (Un R S) (Un R' S') := by
  intro E hE a b ha hb
  have e1 := h (Un E S) ((hE.less fun s f => .inl f).un h1) a b (fun f => ha (.inl f)) (fun f => hb (.inl f))
  have e2 := k (Un E R') ((hE.less fun s f => .inr f).un h2) a b (fun f => ha (.inr f)) (fun f => hb (.inr f))
  rw [Pa.congr (un_swap E R S), e1, Pa.congr (un_assoc E R' S'), ← e2]
  exact Pa.congr fun a b => ⟨fun h => h.elim (fun h => h.elim (fun h => .inl (.inl h)) fun h => .inr h) fun h => .inl (.inr h), fun h => h.elim (fun h => h.elim (fun h => .inl (.inl h)) fun h => .inr h) fun h => .inl (.inr h)⟩
inductive Star (T : Nat → Nat → Prop) : Nat → Nat → Prop
  | refl (i : Nat) : Star T i i
  | step {i j k : Nat} : T i j → Star T j k → Star T i k
/-- a state that nothing else touches is passed over -/
theorem elim (m : Nat) (I : Cf → Nat → Prop) (T : Nat → Nat → Prop) (O : Nat → Cf → Prop) (hI : ∀ a i, I a i → a.1 ≠ m) (hO : ∀ j b, O j b → b.1 ≠ m) :
    Same (fun s => s = m) (fun a b => (b.1 = m ∧ I a b.2) ∨ (a.1 = m ∧ b.1 = m ∧ T a.2 b.2) ∨ (a.1 = m ∧ O a.2 b)) (fun a b => ∃ i j, I a i ∧ Star T i j ∧ O j b) := by
  intro E hE a b ha hb
  constructor
  · intro h
    have key : ∀ (a : Cf) (b : Cf), b.1 ≠ m → Pa (Un E (fun a b => (b.1 = m ∧ I a b.2) ∨ (a.1 = m ∧ b.1 = m ∧ T a.2 b.2) ∨ (a.1 = m ∧ O a.2 b))) a b →
        (a.1 ≠ m → Pa (Un E (fun a b => ∃ i j, I a i ∧ Star T i j ∧ O j b)) a b) ∧ (a.1 = m → ∃ j c, Star T a.2 j ∧ O j c ∧ Pa (Un E (fun a b => ∃ i j, I a i ∧ Star T i j ∧ O j b)) c b) := by
      intro a b hb h
      induction h with
      | refl => exact ⟨fun _ => .refl _, fun e => absurd e hb⟩
      | step r _ ih =>
        have ih := ih hb
        rcases r with r | ⟨e, r⟩ | ⟨e1, e2, r⟩ | ⟨e, r⟩
        · have ho := hE _ _ r
          exact ⟨fun _ => .step (.inl r) (ih.1 ho.2), fun e => absurd e ho.1⟩
        · obtain ⟨j, c, h1, h2, h3⟩ := ih.2 e
          exact ⟨fun _ => .step (.inr ⟨_, _, r, h1, h2⟩) h3, fun e => absurd e (hI _ _ r)⟩
        · obtain ⟨j, c, h1, h2, h3⟩ := ih.2 e2
          exact ⟨fun ne => absurd e1 ne, fun _ => ⟨j, c, .step r h1, h2, h3⟩⟩
        · exact ⟨fun ne => absurd e ne, fun _ => ⟨_, _, .refl _, r, ih.1 (hO _ _ r)⟩⟩
    exact (key a b hb h).1 ha
  · refine Pa.flat ?_
    rintro a b (r | ⟨i, j, h1, h2, h3⟩)
    · exact .one (.inl r)
    · have mid : Pa (Un E (fun a b => (b.1 = m ∧ I a b.2) ∨ (a.1 = m ∧ b.1 = m ∧ T a.2 b.2) ∨ (a.1 = m ∧ O a.2 b))) (m, i) (m, j) := by
        clear h1 h3
        induction h2 with
        | refl => exact .refl _
        | step t _ ih => exact .step (.inr (.inr (.inl ⟨rfl, rfl, t⟩))) ih
      exact .step (.inr (.inl ⟨rfl, h1⟩)) (mid.trans (.one (.inr (.inr (.inr ⟨rfl, h3⟩)))))
/-- an edge that takes a whole expression -/
def Mc (f t : Nat) (T : Nat → Nat → Prop) : Rl := fun a b => a.1 = f ∧ b.1 = t ∧ T a.2 b.2
def Sq (T U : Nat → Nat → Prop) (i j : Nat) : Prop := ∃ k, T i k ∧ U k j
def Or2 (T U : Nat → Nat → Prop) (i j : Nat) : Prop := T i j ∨ U i j
theorem mc_or (f t : Nat) (T U : Nat → Nat → Prop) (a b : Cf) : Un (Mc f t T) (Mc f t U) a b ↔ Mc f t (Or2 T U) a b := by
  unfold Un Mc Or2
  constructor
  · rintro (⟨h1, h2, h3⟩ | ⟨h1, h2, h3⟩)
    · exact ⟨h1, h2, .inl h3⟩
    · exact ⟨h1, h2, .inr h3⟩
  · rintro ⟨h1, h2, h3 | h3⟩
    · exact .inl ⟨h1, h2, h3⟩
    · exact .inr ⟨h1, h2, h3⟩
/-- one behind the other, over a state of their own -/
theorem mc_seq (f m t : Nat) (T U : Nat → Nat → Prop) (hf : f ≠ m) (ht : t ≠ m) : Same (fun s => s = m) (Un (Mc f m T) (Mc m t U)) (Mc f t (Sq T U)) := by
  have h := elim m (fun a i => a.1 = f ∧ T a.2 i) (fun _ _ => False) (fun j b => b.1 = t ∧ U j b.2) (fun a i h => by rw [h.1]; exact hf) (fun j b h => by rw [h.1]; exact ht)
  refine ((Same.of fun a b => ?_).trans h).trans (Same.of fun a b => ?_)
  · unfold Un Mc
    constructor
    · rintro (⟨h1, h2, h3⟩ | ⟨h1, h2, h3⟩)
      · exact .inl ⟨h2, h1, h3⟩
      · exact .inr (.inr ⟨h1, h2, h3⟩)
    · rintro (⟨h1, h2, h3⟩ | ⟨_, _, h⟩ | ⟨h1, h2, h3⟩)
      · exact .inl ⟨h2, h1, h3⟩
      · exact h.elim
      · exact .inr ⟨h1, h2, h3⟩
  · unfold Mc Sq
    constructor
    · rintro ⟨i, j, ⟨h1, h2⟩, h3, h4, h5⟩
      have : i = j := by
        cases h3 with
        | refl => rfl
        | step x _ => exact x.elim
      subst this
      exact ⟨h1, h4, i, h2, h5⟩
    · rintro ⟨h1, h2, k, h3, h4⟩
      exact ⟨k, k, ⟨h1, h3⟩, .refl _, h2, h4⟩
/-- again and again, over a state of their own -/
theorem mc_star (f m t : Nat) (A T U : Nat → Nat → Prop) (hf : f ≠ m) (ht : t ≠ m) : Same (fun s => s = m) (Un (Mc f m A) (Un (Mc m m T) (Mc m t U))) (Mc f t (Sq A (Sq (Star T) U))) := by
  have h := elim m (fun a i => a.1 = f ∧ A a.2 i) T (fun j b => b.1 = t ∧ U j b.2) (fun a i h => by rw [h.1]; exact hf) (fun j b h => by rw [h.1]; exact ht)
  refine ((Same.of fun a b => ?_).trans h).trans (Same.of fun a b => ?_)
  · unfold Un Mc
    constructor
    · rintro (⟨h1, h2, h3⟩ | ⟨h1, h2, h3⟩ | ⟨h1, h2, h3⟩)
      · exact .inl ⟨h2, h1, h3⟩
      · exact .inr (.inl ⟨h1, h2, h3⟩)
      · exact .inr (.inr ⟨h1, h2, h3⟩)
    · rintro (⟨h1, h2, h3⟩ | ⟨h1, h2, h3⟩ | ⟨h1, h2, h3⟩)
      · exact .inl ⟨h2, h1, h3⟩
      · exact .inr (.inl ⟨h1, h2, h3⟩)
      · exact .inr (.inr ⟨h1, h2, h3⟩)
  · unfold Mc Sq
    constructor
    · rintro ⟨i, j, ⟨h1, h2⟩, h3, h4, h5⟩
      exact ⟨h1, h4, i, h2, j, h3, h5⟩
    · rintro ⟨h1, h2, k, h3, j, h4, h5⟩
      exact ⟨k, j, ⟨h1, h3⟩, h4, h2, h5⟩
/-- there, and from there back or on, over a state of their own -/
theorem mc_fork (c d t : Nat) (T : Nat → Nat → Prop) (hc : c ≠ d) (ht : t ≠ d) : Same (fun s => s = d) (Un (Mc c d T) (Un (Mc d c Eq) (Mc d t Eq))) (Un (Mc c c T) (Mc c t T)) := by
  have h := elim d (fun a i => a.1 = c ∧ T a.2 i) (fun _ _ => False) (fun j b => (b.1 = c ∨ b.1 = t) ∧ j = b.2) (fun a i h => by rw [h.1]; exact hc) (fun j b h => by rcases h.1 with e | e <;> rw [e] <;> assumption)
  refine ((Same.of fun a b => ?_).trans h).trans (Same.of fun a b => ?_)
  · unfold Un Mc
    constructor
    · rintro (⟨h1, h2, h3⟩ | ⟨h1, h2, h3⟩ | ⟨h1, h2, h3⟩)
      · exact .inl ⟨h2, h1, h3⟩
      · exact .inr (.inr ⟨h1, .inl h2, h3⟩)
      · exact .inr (.inr ⟨h1, .inr h2, h3⟩)
    · rintro (⟨h1, h2, h3⟩ | ⟨_, _, h⟩ | ⟨h1, h2 | h2, h3⟩)
      · exact .inl ⟨h2, h1, h3⟩
      · exact h.elim
      · exact .inr (.inl ⟨h1, h2, h3⟩)
      · exact .inr (.inr ⟨h1, h2, h3⟩)
  · unfold Un Mc
    constructor
    · rintro ⟨i, j, ⟨h1, h2⟩, h3, h4, h5⟩
      have : i = j := by
        cases h3 with
        | refl => rfl
        | step x _ => exact x.elim
      subst this
      rw [h5] at h2
      exact h4.elim (fun e => .inl ⟨h1, e, h2⟩) (fun e => .inr ⟨h1, e, h2⟩)
    · rintro (⟨h1, h2, h3⟩ | ⟨h1, h2, h3⟩)
      · exact ⟨_, _, ⟨h1, h3⟩, .refl _, .inl h2, rfl⟩
      · exact ⟨_, _, ⟨h1, h3⟩, .refl _, .inr h2, rfl⟩
end Go.Proofs.Ytfilndgbgdnpiaa.nb
