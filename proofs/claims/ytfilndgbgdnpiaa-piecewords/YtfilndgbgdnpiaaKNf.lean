/-
  Plain mathematics and memory: an edge, an nfa, and how its edges lie; contracts over this program: which nfa may be (nfa.isState, nfa.Right).
-/
import Derived.Test.YtfilndgbgdnpiaaRows
import Derived.WalkKit
import Derived.ChangeAt
import Derived.Below
import Derived.Lib.OthersKept
namespace Go.Proofs.Ytfilndgbgdnpiaa.nf
open Go.ChangeShapes Go.WideShapes Go.ChangeAt Go.RowKit
set_option linter.unusedVariables false

structure Ed where
  fr : Int
  to : Int
  free : Bool
  a : Nat
  b : Nat
  c : Nat
  d : Nat
structure Nfa where
  n : Int
  s : Int
  e : Int
  edges : List Ed

def isSt (n i : Int) : Bool := decide (0 ≤ i) && decide (i < n)
def edOk (n : Int) (x : Ed) : Bool := isSt n x.fr && isSt n x.to
def right (x : Nfa) : Bool := decide (1 ≤ x.n) && decide (x.n ≤ 2000) && decide (x.edges.length ≤ 16000) && isSt x.n x.s && isSt x.n x.e && x.edges.all (edOk x.n)

theorem below_alloc (w : World) (o : Obj) : Below w.heap.size w (w.alloc o) := (Below.refl _ _).alloc (Nat.le_refl _) o
theorem chain {w w1 w2 : World} (h1 : Below w.heap.size w w1) (h2 : Below w1.heap.size w1 w2) : Below w.heap.size w w2 := h1.trans (h2.mono h1.size)

/-- seven cells of an edge -/
structure EdAt (w : World) (b o : Nat) (x : Ed) : Prop where
  c0 : w.cell? ⟨b, o, none⟩ = some (.int .i64 x.fr)
  c1 : w.cell? ⟨b, o + 1, none⟩ = some (.int .i64 x.to)
  c2 : w.cell? ⟨b, o + 2, none⟩ = some (.bool x.free)
  c3 : w.cell? ⟨b, o + 3, none⟩ = some (.int .u64 x.a)
  c4 : w.cell? ⟨b, o + 4, none⟩ = some (.int .u64 x.b)
  c5 : w.cell? ⟨b, o + 5, none⟩ = some (.int .u64 x.c)
  c6 : w.cell? ⟨b, o + 6, none⟩ = some (.int .u64 x.d)
theorem EdAt.same {w w' : World} {b o : Nat} {x : Ed} (h : EdAt w b o x) (e : w'.heap[b]? = w.heap[b]?) : EdAt w' b o x := by
  have hc : ∀ k, w'.cell? ⟨b, k, none⟩ = w.cell? ⟨b, k, none⟩ := fun k => by simp [World.cell?, e]
  exact ⟨by rw [hc]; exact h.c0, by rw [hc]; exact h.c1, by rw [hc]; exact h.c2, by rw [hc]; exact h.c3, by rw [hc]; exact h.c4, by rw [hc]; exact h.c5, by rw [hc]; exact h.c6⟩
/-- a list of edges that came in -/
structure Eds (w : World) (o : Option Addr) (cap : Nat) (l : List Ed) : Prop where
  fit : l.length ≤ cap
  top : cap ≤ 9223372036854775807
  lie : ∀ i (h : i < l.length), ∃ b off, o = some ⟨b, off, none⟩ ∧ b < w.heap.size ∧ EdAt w b (off + i * 7) l[i]
theorem Eds.later {w w' : World} {o : Option Addr} {cap : Nat} {l : List Ed} (h : Eds w o cap l) (b : Below w.heap.size w w') : Eds w' o cap l :=
  ⟨h.fit, h.top, fun i hi => by
    obtain ⟨k, off, h1, h2, h3⟩ := h.lie i hi
    exact ⟨k, off, h1, Nat.lt_of_lt_of_le h2 b.size, h3.same (b.block k h2)⟩⟩

abbrev nfaV (n s e : Int) (o : Option Addr) (m cap : Nat) : Value := .agg #[.int .i64 n, .int .i64 s, .int .i64 e, .slice o m cap]

def StIs (n i : Int) (r : Bool) : Prop := ∀ s e o m cap w, Calls Try.prog 54 #[nfaV n s e o m cap, .int .i64 i] w fun x w' => x = .returned (.bool r) ∧ Below w.heap.size w w'
set_option maxHeartbeats 1000000 in
theorem st_any (n i : Int) (r : Bool) (hr : r = isSt n i) : StIs n i r := by
  intro s e o m cap w
  unfold isSt at hr
  by_cases h1 : 0 ≤ i
  · have f1 : decide (0 ≤ i) = true := decide_eq_true h1
    rw [f1, Bool.true_and] at hr
    clear h1
    go_enter Try.func54, Try.ntmps54
    go_wp2
    go_ret
    exact ⟨by rw [hr]; rfl, below_alloc _ _⟩
  · have f1 : decide (0 ≤ i) = false := decide_eq_false h1
    rw [f1, Bool.false_and] at hr
    subst hr
    clear h1
    go_enter Try.func54, Try.ntmps54
    go_wp2
    go_ret
    exact ⟨rfl, below_alloc _ _⟩
end Go.Proofs.Ytfilndgbgdnpiaa.nf
