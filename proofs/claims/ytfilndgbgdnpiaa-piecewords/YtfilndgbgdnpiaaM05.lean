/-
  Texts put together: Plain mathematics: what is reached over Free edges; the edges of a state, one behind the other. Contracts over this program: which nfa may be (nfa.Right). Contracts over this program: which nfa may be, as the document has it (fretsawref07's Right). Rows of ints that a call has made; the web of an nfa's edges (nfa.weave).
-/
import Derived.Test.YtfilndgbgdnpiaaKNf
import Derived.WalkLawsBesides
import Derived.Deep.RegionHeld3
import Derived.BigQuiet
import Derived.Deep.QuietTactic
import Derived.Deep.RegionLaw
import Derived.Deep.OwnRows
namespace Go.Proofs.Ytfilndgbgdnpiaa.nf
set_option linter.unusedVariables false

inductive Reach (x : Nfa) (P : Int → Prop) : Int → Prop
  | base {t : Int} : P t → Reach x P t
  | step {e : Ed} : Reach x P e.fr → e ∈ x.edges → e.free = true → Reach x P e.to
theorem Reach.mono {x : Nfa} {P Q : Int → Prop} (h : ∀ t, P t → Q t) {t : Int} (r : Reach x P t) : Reach x Q t := by
  induction r with
  | base h1 => exact .base (h _ h1)
  | step _ h1 h2 ih => exact .step ih h1 h2
theorem Reach.least {x : Nfa} {P Q : Int → Prop} (h : ∀ t, P t → Q t) (hc : ∀ e ∈ x.edges, e.free = true → Q e.fr → Q e.to) {t : Int} (r : Reach x P t) : Q t := by
  induction r with
  | base h1 => exact h _ h1
  | step _ h1 h2 ih => exact hc _ h1 h2 ih
theorem Reach.twice {x : Nfa} {P : Int → Prop} {t : Int} (r : Reach x (Reach x P) t) : Reach x P t := r.least (fun _ h => h) (fun e h1 h2 h3 => .step h3 h1 h2)

/-- the last place below i at which an edge goes from s; -1 if there is none -/
def before (l : List Ed) : Nat → Int → Int
  | 0, _ => -1
  | i + 1, s => if (l[i]?.map (·.fr)) = some s then (i : Int) else before l i s
/-- the edges below i that go from s, the last one first -/
def chainOf (l : List Ed) : Nat → Int → List Ed
  | 0, _ => []
  | i + 1, s => match l[i]? with
    | some e => if e.fr = s then e :: chainOf l i s else chainOf l i s
    | none => chainOf l i s
theorem before_lt (l : List Ed) (s : Int) : ∀ i, -1 ≤ before l i s ∧ before l i s < (i : Int) ∨ i = 0 ∧ before l i s = -1
  | 0 => .inr ⟨rfl, rfl⟩
  | i + 1 => .inl (by
    unfold before
    split
    · omega
    · rcases before_lt l s i with h | h <;> omega)
theorem before_range (l : List Ed) (s : Int) (i : Nat) : -1 ≤ before l i s ∧ before l i s < (i : Int) ∨ before l i s = -1 := by
  rcases before_lt l s i with h | h
  · exact .inl h
  · exact .inr h.2
theorem chain_none (l : List Ed) (s : Int) : ∀ i, before l i s = -1 → chainOf l i s = []
  | 0, _ => rfl
  | i + 1, h => by
    unfold before at h
    unfold chainOf
    split at h
    · omega
    · rename_i hne
      split
      · rename_i e he
        rw [he] at hne
        simp at hne
        rw [if_neg hne]
        exact chain_none l s i h
      · exact chain_none l s i h
theorem chain_succ (l : List Ed) (s : Int) (i : Nat) (h : i < l.length) : chainOf l (i + 1) s = if l[i].fr = s then l[i] :: chainOf l i s else chainOf l i s := by
  show (match l[i]? with | some e => if e.fr = s then e :: chainOf l i s else chainOf l i s | none => chainOf l i s) = _
  rw [List.getElem?_eq_getElem h]
theorem chain_some (l : List Ed) (s : Int) (j : Nat) : ∀ i, i ≤ l.length → before l i s = (j : Int) → ∃ h : j < l.length, j < i ∧ l[j].fr = s ∧ chainOf l i s = l[j] :: chainOf l j s
  | 0, _, h => by simp [before] at h
  | i + 1, hi, h => by
    unfold before at h
    rw [chain_succ l s i (by omega)]
    rw [List.getElem?_eq_getElem (by omega)] at h
    simp only [Option.map_some, Option.some.injEq] at h
    split at h
    · rename_i he
      have e : i = j := by omega
      subst e
      exact ⟨by omega, by omega, he, by rw [if_pos he]⟩
    · rename_i he
      obtain ⟨h1, h2, h3, h4⟩ := chain_some l s j i (by omega) h
      exact ⟨h1, by omega, h3, by rw [if_neg he]; exact h4⟩
theorem mem_chain (l : List Ed) (s : Int) (e : Ed) : ∀ i, i ≤ l.length → (e ∈ chainOf l i s ↔ e ∈ l.take i ∧ e.fr = s)
  | 0, _ => by simp [chainOf]
  | i + 1, hi => by
    unfold chainOf
    rw [List.take_succ_eq_append_getElem (by omega), List.getElem?_eq_getElem (by omega)]
    have ih := mem_chain l s e i (by omega)
    simp only [List.mem_append, List.mem_singleton]
    by_cases he : l[i].fr = s
    · rw [if_pos he, List.mem_cons, ih]
      constructor
      · rintro (rfl | h)
        · exact ⟨.inr rfl, he⟩
        · exact ⟨.inl h.1, h.2⟩
      · rintro ⟨h | h, h2⟩
        · exact .inr ⟨h, h2⟩
        · exact .inl h
    · rw [if_neg he, ih]
      constructor
      · rintro ⟨h, h2⟩
        exact ⟨.inl h, h2⟩
      · rintro ⟨h | h, h2⟩
        · exact ⟨h, h2⟩
        · subst h; exact absurd h2 he
theorem mem_chain_all (l : List Ed) (s : Int) (e : Ed) : e ∈ chainOf l l.length s ↔ e ∈ l ∧ e.fr = s := by
  rw [mem_chain l s e l.length (Nat.le_refl _), List.take_length]
theorem chain_len (l : List Ed) (s : Int) : ∀ i, (chainOf l i s).length ≤ i
  | 0 => by simp [chainOf]
  | i + 1 => by
    unfold chainOf
    have := chain_len l s i
    split
    · split
      · simp; omega
      · omega
    · omega
theorem before_other (l : List Ed) (i : Nat) (s : Int) (h : i < l.length) (he : l[i].fr ≠ s) : before l (i + 1) s = before l i s := by
  show (if (l[i]?.map (·.fr)) = some s then (i : Int) else before l i s) = _
  rw [List.getElem?_eq_getElem h, if_neg (by simpa using he)]
theorem before_here (l : List Ed) (i : Nat) (h : i < l.length) : before l (i + 1) l[i].fr = (i : Int) := by
  show (if (l[i]?.map (·.fr)) = some l[i].fr then (i : Int) else before l i l[i].fr) = _
  rw [List.getElem?_eq_getElem h, if_pos (by simp)]
end Go.Proofs.Ytfilndgbgdnpiaa.nf

namespace Go.Proofs.Ytfilndgbgdnpiaa.nf
open Go.ChangeShapes Go.WideShapes Go.ChangeAt Go.RowKit
set_option linter.unusedVariables false

/-- an nfa in a cell of its own -/
def Box (w : World) (g : Nat) (n s e : Int) (o : Option Addr) (m cap : Nat) : Prop := w.heap[g]? = some (.cells #[.int .i64 n, .int .i64 s, .int .i64 e, .slice o m cap] 31 (0, 0))
section
variable {w w' : World} {g : Nat} {n s e : Int} {o : Option Addr} {m cap : Nat}
theorem Box.lt (h : Box w g n s e o m cap) : g < w.heap.size := (Array.getElem?_eq_some_iff.1 h).1
theorem Box.c0 (h : Box w g n s e o m cap) : w.cell? ⟨g, 0, none⟩ = some (.int .i64 n) := by rw [Lib.cell_of_heap h]; rfl
theorem Box.c1 (h : Box w g n s e o m cap) : w.cell? ⟨g, 1, none⟩ = some (.int .i64 s) := by rw [Lib.cell_of_heap h]; rfl
theorem Box.c2 (h : Box w g n s e o m cap) : w.cell? ⟨g, 2, none⟩ = some (.int .i64 e) := by rw [Lib.cell_of_heap h]; rfl
theorem Box.c3 (h : Box w g n s e o m cap) : w.cell? ⟨g, 3, none⟩ = some (.slice o m cap) := by rw [Lib.cell_of_heap h]; rfl
theorem Box.later (h : Box w g n s e o m cap) (b : Below w.heap.size w w') : Box w' g n s e o m cap := by unfold Box; rw [b.block g h.lt]; exact h
end
theorem box_new (w : World) (n s e : Int) (o : Option Addr) (m cap : Nat) : Box (w.alloc (.cells #[.int .i64 n, .int .i64 s, .int .i64 e, .slice o m cap] 31)) w.heap.size n s e o m cap := heap_alloc_new w _

def RtIs (f : Nat) (x : Nfa) (r : Bool) : Prop := ∀ o cap w, Eds w o cap x.edges → Calls Try.prog f #[nfaV x.n x.s x.e o x.edges.length cap] w fun e w' => e = .returned (.bool r) ∧ Below w.heap.size w w'
abbrev StAt (n i : Int) (r : Bool) : Prop := ∀ s e o m cap w, Calls Try.prog 54 #[nfaV n s e o m cap, .int .i64 i] w fun x w' => x = .returned (.bool r) ∧ Below w.heap.size w w'

set_option maxHeartbeats 1000000 in
theorem right_n (x : Nfa) (h : ¬ (1 ≤ x.n ∧ x.n ≤ 2000)) : RtIs 30 x false := by
  intro o cap w hE
  by_cases h1 : x.n < 1
  · have f1 : decide (x.n < 1) = true := decide_eq_true h1
    clear h h1 hE
    go_enter Try.func30, Try.ntmps30
    go_wp2
    go_ret
    exact ⟨rfl, below_alloc _ _⟩
  · have f1 : decide (x.n < 1) = false := decide_eq_false h1
    have f2 : decide (2000 < x.n) = true := decide_eq_true (by omega)
    clear h h1 hE
    go_enter Try.func30, Try.ntmps30
    go_wp2
    go_ret
    exact ⟨rfl, below_alloc _ _⟩
set_option maxHeartbeats 1000000 in
theorem right_many (x : Nfa) (h1 : 1 ≤ x.n) (h2 : x.n ≤ 2000) (h : 16000 < x.edges.length) : RtIs 30 x false := by
  intro o cap w hE
  have f1 : decide (x.n < 1) = false := decide_eq_false (by omega)
  have f2 : decide (2000 < x.n) = false := decide_eq_false (by omega)
  have f3 : decide (16000 < x.edges.length) = true := decide_eq_true h
  generalize x.edges.length = m at *
  clear h1 h2 hE
  go_enter Try.func30, Try.ntmps30
  go_wp2
  go_ret
  exact ⟨rfl, below_alloc _ _⟩
set_option maxHeartbeats 1000000 in
theorem right_ends (x : Nfa) (h1 : 1 ≤ x.n) (h2 : x.n ≤ 2000) (h : x.edges.length ≤ 16000) (hs : (isSt x.n x.s && isSt x.n x.e) = false) : RtIs 30 x false := by
  intro o cap w hE
  have f1 : decide (x.n < 1) = false := decide_eq_false (by omega)
  have f2 : decide (2000 < x.n) = false := decide_eq_false (by omega)
  have f3 : decide (16000 < x.edges.length) = false := decide_eq_false (by omega)
  have q1 := st_any x.n x.s _ rfl
  have q2 := st_any x.n x.e _ rfl
  generalize x.edges.length = m at *
  have b0 := box_new w x.n x.s x.e o m cap
  unfold StIs at q1 q2
  clear h1 h2 hE
  cases c1 : isSt x.n x.s with
  | false =>
    rw [c1] at q1
    go_enter Try.func30, Try.ntmps30
    go_wp2_with (go_at_call 54; (with_reducible refine (q1 _ _ _ _ _ _).mono ?_); rintro e w1 ⟨rfl, b1⟩)
    go_ret
    exact ⟨rfl, chain (below_alloc _ _) b1⟩
  | true =>
    have c2 : isSt x.n x.e = false := by rw [c1, Bool.true_and] at hs; exact hs
    rw [c1] at q1
    rw [c2] at q2
    go_enter Try.func30, Try.ntmps30
    go_wp2_with (first | (go_at_call 54; (with_reducible refine (q1 _ _ _ _ _ _).mono ?_); rintro e w1 ⟨rfl, b1⟩; have k1 := b0.later b1; have d0 := k1.c0; have d1 := k1.c1; have d2 := k1.c2; have d3 := k1.c3) | (go_at_call 54; (with_reducible refine (q2 _ _ _ _ _ _).mono ?_); rintro e w2 ⟨rfl, b2⟩))
    go_ret
    exact ⟨rfl, chain (chain (below_alloc _ _) b1) b2⟩
theorem all_take (p : Ed → Bool) (l : List Ed) (i : Nat) (h : i < l.length) : (l.take (i + 1)).all p = ((l.take i).all p && p l[i]) := by
  rw [List.take_add_one, List.getElem?_eq_getElem h, List.all_append]
  simp only [Option.toList_some, List.all_cons, List.all_nil, Bool.and_true]
theorem all_no (p : Ed → Bool) (l : List Ed) (i : Nat) (h : i < l.length) (hp : p l[i] = false) : l.all p = false := by
  rw [List.all_eq_false]
  exact ⟨l[i], List.getElem_mem h, by simp [hp]⟩
set_option maxHeartbeats 2000000 in
set_option maxRecDepth 100000 in
theorem right_loop (x : Nfa) (h1 : 1 ≤ x.n) (h2 : x.n ≤ 2000) (h : x.edges.length ≤ 16000) (hs : isSt x.n x.s = true) (he : isSt x.n x.e = true) (r : Bool) (hr : r = x.edges.all (edOk x.n)) : RtIs 30 x r := by
  intro o cap w hE
  have f1 : decide (x.n < 1) = false := decide_eq_false (by omega)
  have f2 : decide (2000 < x.n) = false := decide_eq_false (by omega)
  have f3 : decide (16000 < x.edges.length) = false := decide_eq_false (by omega)
  have q1 := st_any x.n x.s _ hs.symm
  have q2 := st_any x.n x.e _ he.symm
  have hcap := hE.fit
  have htop := hE.top
  have b0 := box_new w x.n x.s x.e o x.edges.length cap
  have HR : Hid (r = x.edges.all (edOk x.n)) := hr
  have HE := (show Hid (Eds w o cap x.edges) from hE)
  unfold StIs at q1 q2
  clear h1 h2 hE hr
  generalize x.edges = l at *
  go_enter Try.func30, Try.ntmps30
  go_wp2_with (first | (go_at_call 54; (with_reducible refine (q1 _ _ _ _ _ _).mono ?_); rintro e w1 ⟨rfl, b1⟩; have k1 := b0.later b1; have d0 := k1.c0; have d1 := k1.c1; have d2 := k1.c2; have d3 := k1.c3) | (go_at_call 54; (with_reducible refine (q2 _ _ _ _ _ _).mono ?_); rintro e w2 ⟨rfl, b2⟩; have k2 := k1.later b2; have e3 := k2.c3))
  have B2 := chain (chain (below_alloc w (.cells #[.int .i64 x.n, .int .i64 x.s, .int .i64 x.e, .slice o l.length cap] 31)) b1) b2
  go_loopw [34] (fun y wr => ∃ i : Nat, y = .int .i64 i ∧ i ≤ l.length ∧ Box wr w.heap.size x.n x.s x.e o l.length cap ∧ Below w.heap.size w wr ∧ Hid ((l.take i).all (edOk x.n) = true)) (fun y _ => l.length - (intOf y).toNat)
  case atStart => exact ⟨0, rfl, by omega, k2, B2, by show _ = _; simp⟩
  case round =>
    clear q1 q2 b0 b1 b2 k1 k2 d0 d1 d2 d3 e3 B2
    obtain ⟨i, rfl, hil, bx, hB, HI⟩ := hrel
    by_cases hend : i < l.length
    · obtain ⟨b, off, rfl, hb, hed⟩ := HE.out.lie i hend
      have hed2 := hed.same (hB.block b hb)
      obtain ⟨c0, c1, c2, c3, c4, c5, c6⟩ := hed2
      have p1 := st_any x.n l[i].fr _ rfl
      have p2 := st_any x.n l[i].to _ rfl
      have hall := all_take (edOk x.n) l i hend
      have hno := all_no (edOk x.n) l i hend
      unfold edOk at hno
      have hok : edOk x.n l[i] = (isSt x.n l[i].fr && isSt x.n l[i].to) := rfl
      rw [hok, HI.out, Bool.true_and] at hall
      clear hok hed
      obtain ⟨y, hy⟩ : ∃ y, y = l[i] := ⟨_, rfl⟩
      rw [← hy] at c0 c1 c2 c3 c4 c5 c6 p1 p2 hall hno
      clear hy
      have x0 := (bx.later (below_alloc wr (.cells #[.int .i64 y.fr, .int .i64 y.to, .bool y.free, .int .u64 y.a, .int .u64 y.b, .int .u64 y.c, .int .u64 y.d] 68)))
      have d0 := x0.c0
      have d1 := x0.c1
      have d2 := x0.c2
      have d3 := x0.c3
      unfold StIs at p1 p2
      cases r1 : isSt x.n y.fr with
      | false =>
        rw [r1] at p1 hno
        have HF : Hid (r = false) := by show _ = _; rw [HR.out]; exact hno rfl
        clear hno hall HI
        go_wp2_with (go_at_call 54; (with_reducible refine (p1 _ _ _ _ _ _).mono ?_); rintro e w1 ⟨rfl, b1⟩)
        go_ret
        exact ⟨by rw [HF.out]; rfl, chain (chain hB (below_alloc _ _)) b1⟩
      | true =>
        rw [r1] at p1 hno hall
        have yb : (wr.alloc (.cells #[.int .i64 y.fr, .int .i64 y.to, .bool y.free, .int .u64 y.a, .int .u64 y.b, .int .u64 y.c, .int .u64 y.d] 68)).heap[wr.heap.size]? = some (.cells #[.int .i64 y.fr, .int .i64 y.to, .bool y.free, .int .u64 y.a, .int .u64 y.b, .int .u64 y.c, .int .u64 y.d] 68) := heap_alloc_new wr _
        have ylt := (Array.getElem?_eq_some_iff.1 yb).1
        cases r2 : isSt x.n y.to with
        | false =>
          rw [r2] at p2 hno
          have HF : Hid (r = false) := by show _ = _; rw [HR.out]; exact hno rfl
          clear hno hall HI
          go_wp2_with (first | (go_at_call 54; (with_reducible refine (p1 _ _ _ _ _ _).mono ?_); rintro e w1 ⟨rfl, b1⟩; have k1 := x0.later b1; have j0 := k1.c0; have j1 := k1.c1; have j2 := k1.c2; have j3 := k1.c3; have y1 : w1.cell? ⟨wr.heap.size, 1, none⟩ = some (.int .i64 y.to) := by rw [Lib.cell_of_heap ((b1.block _ ylt).trans yb)]; rfl) | (go_at_call 54; (with_reducible refine (p2 _ _ _ _ _ _).mono ?_); rintro e w2 ⟨rfl, b2⟩))
          go_ret
          exact ⟨by rw [HF.out]; rfl, chain (chain (chain hB (below_alloc _ _)) b1) b2⟩
        | true =>
          rw [r2] at p2 hall
          have HN : Hid ((l.take (i + 1)).all (edOk x.n) = true) := hall
          clear hno hall HI
          go_wp2_with (first | (go_at_call 54; (with_reducible refine (p1 _ _ _ _ _ _).mono ?_); rintro e w1 ⟨rfl, b1⟩; have k1 := x0.later b1; have j0 := k1.c0; have j1 := k1.c1; have j2 := k1.c2; have j3 := k1.c3; have y1 : w1.cell? ⟨wr.heap.size, 1, none⟩ = some (.int .i64 y.to) := by rw [Lib.cell_of_heap ((b1.block _ ylt).trans yb)]; rfl) | (go_at_call 54; (with_reducible refine (p2 _ _ _ _ _ _).mono ?_); rintro e w2 ⟨rfl, b2⟩))
          go_roundw
          case rel => exact ⟨i + 1, by go_num, by omega, k1.later b2, chain (chain (chain hB (below_alloc _ _)) b1) b2, HN⟩
          case measure => simp [intOf]; omega
    · have HF : Hid (r = true) := by
        show _ = _
        have := HI.out
        rw [List.take_of_length_le (by omega)] at this
        rw [HR.out, this]
      clear HI HR HE
      go_wp2
      go_ret
      exact ⟨by rw [HF.out]; rfl, hB⟩
theorem right_any (x : Nfa) (r : Bool) (hr : r = right x) : RtIs 30 x r := by
  subst hr
  unfold right
  by_cases h1 : 1 ≤ x.n ∧ x.n ≤ 2000
  · rw [decide_eq_true h1.1, decide_eq_true h1.2]
    by_cases h2 : x.edges.length ≤ 16000
    · rw [decide_eq_true h2]
      cases hs : isSt x.n x.s with
      | false => simpa using right_ends x h1.1 h1.2 h2 (by rw [hs]; rfl)
      | true =>
        cases he : isSt x.n x.e with
        | false => simpa using right_ends x h1.1 h1.2 h2 (by rw [hs, he]; rfl)
        | true => exact right_loop x h1.1 h1.2 h2 hs he _ (by simp)
    · rw [decide_eq_false h2]
      simpa using right_many x h1.1 h1.2 (by omega)
  · have e : (decide (1 ≤ x.n) && decide (x.n ≤ 2000)) = false := by
      rw [Bool.and_eq_false_iff]
      by_cases h : 1 ≤ x.n
      · right; exact decide_eq_false (fun h2 => h1 ⟨h, h2⟩)
      · left; exact decide_eq_false h
    rw [e]
    simpa using right_n x h1
end Go.Proofs.Ytfilndgbgdnpiaa.nf

namespace Go.Proofs.Ytfilndgbgdnpiaa.nf
open Go.ChangeShapes Go.WideShapes Go.ChangeAt Go.RowKit
set_option linter.unusedVariables false

set_option maxHeartbeats 1000000 in
theorem rright_0 (x : Nfa)  (g0 : x.n < 1) : RtIs 10 x false := by
  intro o cap w hE
  have f0 : decide (x.n < 1) = true := decide_eq_true g0
  clear hE g0
  go_enter Try.func10, Try.ntmps10
  go_wp2
  go_ret
  exact ⟨rfl, below_alloc _ _⟩
set_option maxHeartbeats 1000000 in
theorem rright_1 (x : Nfa) (g0 : ¬ (x.n < 1)) (g1 : 2000 < x.n) : RtIs 10 x false := by
  intro o cap w hE
  have f0 : decide (x.n < 1) = false := decide_eq_false g0
  have f1 : decide (2000 < x.n) = true := decide_eq_true g1
  clear hE g0 g1
  go_enter Try.func10, Try.ntmps10
  go_wp2
  go_ret
  exact ⟨rfl, below_alloc _ _⟩
set_option maxHeartbeats 1000000 in
theorem rright_2 (x : Nfa) (g0 : ¬ (x.n < 1)) (g1 : ¬ (2000 < x.n)) (g2 : x.s < 0) : RtIs 10 x false := by
  intro o cap w hE
  have f0 : decide (x.n < 1) = false := decide_eq_false g0
  have f1 : decide (2000 < x.n) = false := decide_eq_false g1
  have f2 : decide (x.s < 0) = true := decide_eq_true g2
  clear hE g0 g1 g2
  go_enter Try.func10, Try.ntmps10
  go_wp2
  go_ret
  exact ⟨rfl, below_alloc _ _⟩
set_option maxHeartbeats 1000000 in
theorem rright_3 (x : Nfa) (g0 : ¬ (x.n < 1)) (g1 : ¬ (2000 < x.n)) (g2 : ¬ (x.s < 0)) (g3 : x.n ≤ x.s) : RtIs 10 x false := by
  intro o cap w hE
  have f0 : decide (x.n < 1) = false := decide_eq_false g0
  have f1 : decide (2000 < x.n) = false := decide_eq_false g1
  have f2 : decide (x.s < 0) = false := decide_eq_false g2
  have f3 : decide (x.n ≤ x.s) = true := decide_eq_true g3
  clear hE g0 g1 g2 g3
  go_enter Try.func10, Try.ntmps10
  go_wp2
  go_ret
  exact ⟨rfl, below_alloc _ _⟩
set_option maxHeartbeats 1000000 in
theorem rright_4 (x : Nfa) (g0 : ¬ (x.n < 1)) (g1 : ¬ (2000 < x.n)) (g2 : ¬ (x.s < 0)) (g3 : ¬ (x.n ≤ x.s)) (g4 : x.e < 0) : RtIs 10 x false := by
  intro o cap w hE
  have f0 : decide (x.n < 1) = false := decide_eq_false g0
  have f1 : decide (2000 < x.n) = false := decide_eq_false g1
  have f2 : decide (x.s < 0) = false := decide_eq_false g2
  have f3 : decide (x.n ≤ x.s) = false := decide_eq_false g3
  have f4 : decide (x.e < 0) = true := decide_eq_true g4
  clear hE g0 g1 g2 g3 g4
  go_enter Try.func10, Try.ntmps10
  go_wp2
  go_ret
  exact ⟨rfl, below_alloc _ _⟩
set_option maxHeartbeats 1000000 in
theorem rright_5 (x : Nfa) (g0 : ¬ (x.n < 1)) (g1 : ¬ (2000 < x.n)) (g2 : ¬ (x.s < 0)) (g3 : ¬ (x.n ≤ x.s)) (g4 : ¬ (x.e < 0)) (g5 : x.n ≤ x.e) : RtIs 10 x false := by
  intro o cap w hE
  have f0 : decide (x.n < 1) = false := decide_eq_false g0
  have f1 : decide (2000 < x.n) = false := decide_eq_false g1
  have f2 : decide (x.s < 0) = false := decide_eq_false g2
  have f3 : decide (x.n ≤ x.s) = false := decide_eq_false g3
  have f4 : decide (x.e < 0) = false := decide_eq_false g4
  have f5 : decide (x.n ≤ x.e) = true := decide_eq_true g5
  clear hE g0 g1 g2 g3 g4 g5
  go_enter Try.func10, Try.ntmps10
  go_wp2
  go_ret
  exact ⟨rfl, below_alloc _ _⟩
set_option maxHeartbeats 1000000 in
theorem rright_6 (x : Nfa) (g0 : ¬ (x.n < 1)) (g1 : ¬ (2000 < x.n)) (g2 : ¬ (x.s < 0)) (g3 : ¬ (x.n ≤ x.s)) (g4 : ¬ (x.e < 0)) (g5 : ¬ (x.n ≤ x.e)) (g6 : 16000 < x.edges.length) : RtIs 10 x false := by
  intro o cap w hE
  generalize x.edges.length = m at *
  have f0 : decide (x.n < 1) = false := decide_eq_false g0
  have f1 : decide (2000 < x.n) = false := decide_eq_false g1
  have f2 : decide (x.s < 0) = false := decide_eq_false g2
  have f3 : decide (x.n ≤ x.s) = false := decide_eq_false g3
  have f4 : decide (x.e < 0) = false := decide_eq_false g4
  have f5 : decide (x.n ≤ x.e) = false := decide_eq_false g5
  have f6 : decide (16000 < m) = true := decide_eq_true g6
  clear hE g0 g1 g2 g3 g4 g5 g6
  go_enter Try.func10, Try.ntmps10
  go_wp2
  all_goals first | (exfalso; have := of_decide_eq_true f6; omega) | (go_ret; exact ⟨rfl, below_alloc _ _⟩)
set_option maxHeartbeats 2000000 in
set_option maxRecDepth 100000 in
theorem rright_loop (x : Nfa) (g0 : ¬ x.n < 1) (g1 : ¬ 2000 < x.n) (g2 : ¬ x.s < 0) (g3 : ¬ x.n ≤ x.s) (g4 : ¬ x.e < 0) (g5 : ¬ x.n ≤ x.e) (g6 : ¬ 16000 < x.edges.length) (r : Bool) (hr : r = x.edges.all (edOk x.n)) : RtIs 10 x r := by
  intro o cap w hE
  have f0 : decide (x.n < 1) = false := decide_eq_false g0
  have f1 : decide (2000 < x.n) = false := decide_eq_false g1
  have f2 : decide (x.s < 0) = false := decide_eq_false g2
  have f3 : decide (x.n ≤ x.s) = false := decide_eq_false g3
  have f4 : decide (x.e < 0) = false := decide_eq_false g4
  have f5 : decide (x.n ≤ x.e) = false := decide_eq_false g5
  have f6 : decide (16000 < x.edges.length) = false := decide_eq_false g6
  have hcap := hE.fit
  have htop := hE.top
  have b0 := box_new w x.n x.s x.e o x.edges.length cap
  have HR : Hid (r = x.edges.all (edOk x.n)) := hr
  have HE := (show Hid (Eds w o cap x.edges) from hE)
  clear hE hr g0 g1 g2 g3 g4 g5 g6
  generalize x.edges = l at *
  go_enter Try.func10, Try.ntmps10
  go_wp2_with (fail)
  any_goals (exfalso; have := of_decide_eq_false f6; omega)
  go_loopw [46] (fun y wr => ∃ i : Nat, y = .int .i64 i ∧ i ≤ l.length ∧ Box wr w.heap.size x.n x.s x.e o l.length cap ∧ Below w.heap.size w wr ∧ Hid ((l.take i).all (edOk x.n) = true)) (fun y _ => l.length - (intOf y).toNat)
  case atStart => exact ⟨0, rfl, by omega, b0, below_alloc _ _, by show _ = _; simp⟩
  case round =>
    clear b0 f0 f1 f2 f3 f4 f5 f6
    obtain ⟨i, rfl, hil, bx, hB, HI⟩ := hrel
    by_cases hend : i < l.length
    · obtain ⟨b, off, rfl, hb, hed⟩ := HE.out.lie i hend
      have hed2 := hed.same (hB.block b hb)
      obtain ⟨c0, c1, c2, c3, c4, c5, c6⟩ := hed2
      have hall := all_take (edOk x.n) l i hend
      have hno := all_no (edOk x.n) l i hend
      unfold edOk at hno
      have hok : edOk x.n l[i] = (isSt x.n l[i].fr && isSt x.n l[i].to) := rfl
      rw [hok, HI.out, Bool.true_and] at hall
      clear hok hed
      obtain ⟨y, hy⟩ : ∃ y, y = l[i] := ⟨_, rfl⟩
      rw [← hy] at c0 c1 c2 c3 c4 c5 c6 hall hno
      clear hy
      have x0 := (bx.later (below_alloc wr (.cells #[.int .i64 y.fr, .int .i64 y.to, .bool y.free, .int .u64 y.a, .int .u64 y.b, .int .u64 y.c, .int .u64 y.d] 68)))
      have d0 := x0.c0
      by_cases g0 : y.fr < 0
      · have f_0 : decide (y.fr < 0) = true := decide_eq_true g0
        have HF : Hid (r = false) := by
          show _ = _
          rw [HR.out]
          refine hno ?_
          unfold isSt
          simp
          omega
        clear hno hall HI g0
        go_wp2_with (fail)
        go_ret
        exact ⟨by rw [HF.out]; rfl, chain hB (below_alloc _ _)⟩
      · by_cases g1 : x.n ≤ y.fr
        · have f_1 : decide (x.n ≤ y.fr) = true := decide_eq_true g1
          have f_0 : decide (y.fr < 0) = false := decide_eq_false g0
          have HF : Hid (r = false) := by
            show _ = _
            rw [HR.out]
            refine hno ?_
            unfold isSt
            simp
            omega
          clear hno hall HI g0 g1
          go_wp2_with (fail)
          go_ret
          exact ⟨by rw [HF.out]; rfl, chain hB (below_alloc _ _)⟩
        · by_cases g2 : y.to < 0
          · have f_2 : decide (y.to < 0) = true := decide_eq_true g2
            have f_0 : decide (y.fr < 0) = false := decide_eq_false g0
            have f_1 : decide (x.n ≤ y.fr) = false := decide_eq_false g1
            have HF : Hid (r = false) := by
              show _ = _
              rw [HR.out]
              refine hno ?_
              unfold isSt
              simp
              omega
            clear hno hall HI g0 g1 g2
            go_wp2_with (fail)
            go_ret
            exact ⟨by rw [HF.out]; rfl, chain hB (below_alloc _ _)⟩
          · by_cases g3 : x.n ≤ y.to
            · have f_3 : decide (x.n ≤ y.to) = true := decide_eq_true g3
              have f_0 : decide (y.fr < 0) = false := decide_eq_false g0
              have f_1 : decide (x.n ≤ y.fr) = false := decide_eq_false g1
              have f_2 : decide (y.to < 0) = false := decide_eq_false g2
              have HF : Hid (r = false) := by
                show _ = _
                rw [HR.out]
                refine hno ?_
                unfold isSt
                simp
                omega
              clear hno hall HI g0 g1 g2 g3
              go_wp2_with (fail)
              go_ret
              exact ⟨by rw [HF.out]; rfl, chain hB (below_alloc _ _)⟩
            · have f_0 : decide (y.fr < 0) = false := decide_eq_false g0
              have f_1 : decide (x.n ≤ y.fr) = false := decide_eq_false g1
              have f_2 : decide (y.to < 0) = false := decide_eq_false g2
              have f_3 : decide (x.n ≤ y.to) = false := decide_eq_false g3
              have HN : Hid ((l.take (i + 1)).all (edOk x.n) = true) := by
                show _ = _
                rw [hall]
                unfold isSt
                simp
                omega
              clear hno hall HI g0 g1 g2 g3
              go_wp2_with (fail)
              go_roundw
              case rel => exact ⟨i + 1, by go_num, by omega, x0, chain hB (below_alloc _ _), HN⟩
              case measure => simp [intOf]; omega
    · have HF : Hid (r = true) := by
        show _ = _
        have := HI.out
        rw [List.take_of_length_le (by omega)] at this
        rw [HR.out, this]
      clear HI HR HE
      go_wp2_with (fail)
      go_ret
      exact ⟨by rw [HF.out]; rfl, hB⟩
theorem rright_any (x : Nfa) (r : Bool) (hr : r = right x) : RtIs 10 x r := by
  have no : ∀ (p : Prop), p → (right x = false) → RtIs 10 x false → RtIs 10 x r := fun p _ h h2 => by rw [hr, h]; exact h2
  by_cases g0 : x.n < 1
  · exact no _ g0 (by unfold right isSt; simp; omega) (rright_0 x g0)
  by_cases g1 : 2000 < x.n
  · exact no _ g1 (by unfold right isSt; simp; omega) (rright_1 x g0 g1)
  by_cases g2 : x.s < 0
  · exact no _ g2 (by unfold right isSt; simp; omega) (rright_2 x g0 g1 g2)
  by_cases g3 : x.n ≤ x.s
  · exact no _ g3 (by unfold right isSt; simp; omega) (rright_3 x g0 g1 g2 g3)
  by_cases g4 : x.e < 0
  · exact no _ g4 (by unfold right isSt; simp; omega) (rright_4 x g0 g1 g2 g3 g4)
  by_cases g5 : x.n ≤ x.e
  · exact no _ g5 (by unfold right isSt; simp; omega) (rright_5 x g0 g1 g2 g3 g4 g5)
  by_cases g6 : 16000 < x.edges.length
  · exact no _ g6 (by unfold right isSt; simp; omega) (rright_6 x g0 g1 g2 g3 g4 g5 g6)
  refine rright_loop x g0 g1 g2 g3 g4 g5 g6 r ?_
  rw [hr]
  unfold right isSt
  rw [decide_eq_true (by omega), decide_eq_true (by omega), decide_eq_true (by omega), decide_eq_true (by omega), decide_eq_true (by omega), decide_eq_true (by omega), decide_eq_true (by omega)]
  simp
end Go.Proofs.Ytfilndgbgdnpiaa.nf

namespace Go.Proofs.Ytfilndgbgdnpiaa.nf
open Go.ChangeShapes Go.WideShapes Go.ChangeAt Go.RowKit
set_option linter.unusedVariables false

def icells (l : List Int) : Array Value := (l.map fun x => Value.int .i64 x).toArray
def IRow (w : World) (g : Nat) (l : List Int) : Prop := w.heap[g]? = some (.cells (icells l) 3 (0, 0))
theorem set_heap (w : World) (g : Nat) (cs : Array Value) (T : TypeId) (i : Nat) (x : Value) (h : w.heap[g]? = some (.cells cs T (0, 0))) : (w.setCell ⟨g, i, none⟩ x).heap[g]? = some (.cells (cs.setIfInBounds i x) T (0, 0)) := by
  show (w.heap.modify g _)[g]? = _
  rw [Array.getElem?_modify, if_pos rfl, h]
  rfl
section
variable {w w' : World} {g : Nat} {l : List Int}
theorem IRow.lt (h : IRow w g l) : g < w.heap.size := (Array.getElem?_eq_some_iff.1 h).1
theorem IRow.later (h : IRow w g l) (b : Below w.heap.size w w') : IRow w' g l := by unfold IRow; rw [b.block g h.lt]; exact h
theorem IRow.keep (h : IRow w g l) (e : w'.heap[g]? = w.heap[g]?) : IRow w' g l := e.trans h
theorem IRow.cell (h : IRow w g l) (i : Nat) (hi : i < l.length) : w.cell? ⟨g, i, none⟩ = some (.int .i64 l[i]) := by
  rw [Lib.cell_of_heap h]
  simp [icells, hi]
theorem IRow.fz (h : IRow w g l) (i : Nat) : w.frozen? ⟨g, i, none⟩ = false := Lib.frozen_of_heap h i
theorem IRow.put (h : IRow w g l) (i : Nat) (x : Int) : IRow (w.setCell ⟨g, i, none⟩ (.int .i64 x)) g (l.set i x) := by
  unfold IRow
  rw [set_heap w g _ _ i _ h]
  congr 2
  simp [icells]
theorem IRow.other (h : IRow w g l) {k : Nat} (hne : g ≠ k) (i : Nat) (v : Value) : IRow (w.setCell ⟨k, i, none⟩ v) g l := (Below.heap_setCell _ _ _ g (fun e => hne e)).trans h
theorem IRow.alloc (h : IRow w g l) (o : Obj) : IRow (w.alloc o) g l := (Below.heap_alloc _ _ _ h.lt).trans h
end
theorem info3 : (Try.prog.info? 3).map (fun i => (i.zero, i.size, i.bytes)) = some (some (.int .i64 0), 1, 8) := by kernel_rfl
theorem icells_made (n : Nat) : madeCells #[.int .i64 0] n = icells (List.replicate n 0) := by
  apply Array.toList_inj.1
  rw [toList_madeCells_one]
  simp [icells]
theorem make39 (n : Nat) (hn : n ≤ 1000000) (W : World) : (Instr.makeSlice 39 (.int .i64 (n : Int)) (.int .i64 (n : Int))).run Try.prog W = .ok (.slice (some ⟨W.heap.size, 0, none⟩) n n) (W.alloc (.cells (icells (List.replicate n 0)) 3)) := by
  rw [← icells_made]
  exact run_make_row' (P := Try.prog) 39 3 (.int .i64 0) 8 Try.underlying39 info3 rfl .i64 .i64 n (by omega) (by omega) W
theorem irow_new (W : World) (l : List Int) : IRow (W.alloc (.cells (icells l) 3)) W.heap.size l := heap_alloc_new W _

theorem five (h : Array Obj) (a b c d e : Obj) : (((((h.push a).push b).push c).push d).push e)[h.size]? = some a ∧ (((((h.push a).push b).push c).push d).push e)[h.size + 1]? = some b ∧ (((((h.push a).push b).push c).push d).push e)[h.size + 1 + 1]? = some c ∧ (((((h.push a).push b).push c).push d).push e)[h.size + 1 + 1 + 1]? = some d ∧ (((((h.push a).push b).push c).push d).push e)[h.size + 1 + 1 + 1 + 1]? = some e := by
  refine ⟨?_, ?_, ?_, ?_, ?_⟩ <;> simp only [Array.getElem?_push, Array.size_push] <;> (repeat (first | rw [if_pos rfl] | rw [if_pos trivial] | rw [if_neg (by omega)]))
theorem below_five (w : World) (a b c d e : Obj) : Below w.heap.size w (((((w.alloc a).alloc b).alloc c).alloc d).alloc e).drew :=
  (((((((Below.refl _ w).alloc (Nat.le_refl _) _).alloc (by simp) _).alloc (by simp; omega) _).alloc (by simp; omega) _).alloc (by simp; omega) _)).drew
structure Wv (w : World) (x : Nfa) (n : Nat) (o : Option Addr) (cap gw fb nb : Nat) (F G : List Int) (W : World) : Prop where
  bx : Box W w.heap.size (n : Int) x.s x.e o x.edges.length cap
  rs : W.heap[w.heap.size + 1]? = some (.cells #[.slice none 0 0, .slice none 0 0, .slice none 0 0] 70 (0, 0))
  wb : W.heap[gw]? = some (.cells #[.slice o x.edges.length cap, .slice (some ⟨fb, 0, none⟩) n n, .slice (some ⟨nb, 0, none⟩) x.edges.length x.edges.length] 70 (0, 0))
  fr : IRow W fb F
  nr : IRow W nb G
  ne : fb ≠ nb
  lw : w.heap.size + 1 < gw
  lf : w.heap.size + 1 < fb
  ln : w.heap.size + 1 < nb
  wf : gw ≠ fb
  wn : gw ≠ nb
  be : Below w.heap.size w W
section
variable {w : World} {x : Nfa} {n : Nat} {o : Option Addr} {cap gw fb nb : Nat} {F G : List Int} {W : World}
theorem Wv.c0 (h : Wv w x n o cap gw fb nb F G W) : W.cell? ⟨gw, 0, none⟩ = some (.slice o x.edges.length cap) := by rw [Lib.cell_of_heap h.wb]; rfl
theorem Wv.c1 (h : Wv w x n o cap gw fb nb F G W) : W.cell? ⟨gw, 1, none⟩ = some (.slice (some ⟨fb, 0, none⟩) n n) := by rw [Lib.cell_of_heap h.wb]; rfl
theorem Wv.c2 (h : Wv w x n o cap gw fb nb F G W) : W.cell? ⟨gw, 2, none⟩ = some (.slice (some ⟨nb, 0, none⟩) x.edges.length x.edges.length) := by rw [Lib.cell_of_heap h.wb]; rfl
theorem Wv.alloc (h : Wv w x n o cap gw fb nb F G W) (ob : Obj) : Wv w x n o cap gw fb nb F G (W.alloc ob) :=
  ⟨h.bx.later (below_alloc _ _), (Below.heap_alloc _ _ _ (Array.getElem?_eq_some_iff.1 h.rs).1).trans h.rs, (Below.heap_alloc _ _ _ (Array.getElem?_eq_some_iff.1 h.wb).1).trans h.wb, h.fr.alloc _, h.nr.alloc _, h.ne, h.lw, h.lf, h.ln, h.wf, h.wn, h.be.alloc h.be.size _⟩
theorem Wv.drew (h : Wv w x n o cap gw fb nb F G W) : Wv w x n o cap gw fb nb F G W.drew := ⟨h.bx, h.rs, h.wb, h.fr, h.nr, h.ne, h.lw, h.lf, h.ln, h.wf, h.wn, h.be.drew⟩
theorem Wv.setF (h : Wv w x n o cap gw fb nb F G W) (i : Nat) (v : Int) : Wv w x n o cap gw fb nb (F.set i v) G (W.setCell ⟨fb, i, none⟩ (.int .i64 v)) :=
  ⟨(Below.heap_setCell _ _ _ _ (fun e => by have := h.lf; simp at e; omega)).trans h.bx, (Below.heap_setCell _ _ _ _ (fun e => by have := h.lf; simp at e; omega)).trans h.rs, (Below.heap_setCell _ _ _ _ (fun e => h.wf e)).trans h.wb, h.fr.put i v, h.nr.other h.ne.symm i _, h.ne, h.lw, h.lf, h.ln, h.wf, h.wn, h.be.setCell (p := ⟨fb, i, none⟩) (by have := h.lf; show w.heap.size ≤ fb; omega) _⟩
theorem Wv.setN (h : Wv w x n o cap gw fb nb F G W) (i : Nat) (v : Int) : Wv w x n o cap gw fb nb F (G.set i v) (W.setCell ⟨nb, i, none⟩ (.int .i64 v)) :=
  ⟨(Below.heap_setCell _ _ _ _ (fun e => by have := h.ln; simp at e; omega)).trans h.bx, (Below.heap_setCell _ _ _ _ (fun e => by have := h.ln; simp at e; omega)).trans h.rs, (Below.heap_setCell _ _ _ _ (fun e => h.wn e)).trans h.wb, h.fr.other h.ne i _, h.nr.put i v, h.ne, h.lw, h.lf, h.ln, h.wf, h.wn, h.be.setCell (p := ⟨nb, i, none⟩) (by have := h.ln; show w.heap.size ≤ nb; omega) _⟩
end
def f1 (n i : Nat) : List Int := List.replicate i (-1) ++ List.replicate (n - i) 0
theorem f1_len (n i : Nat) (h : i ≤ n) : (f1 n i).length = n := by unfold f1; simp; omega
theorem f1_set (n i : Nat) (h : i < n) : (f1 n i).set i (-1) = f1 n (i + 1) := by
  unfold f1
  rw [List.set_append_right _ _ (by simp)]
  simp only [List.length_replicate, Nat.sub_self]
  have e : n - i = (n - (i + 1)) + 1 := by omega
  rw [e, List.replicate_succ, List.set_cons_zero, List.replicate_succ' (n := i), List.append_assoc]
  rfl
def firsts (l : List Ed) (n i : Nat) : List Int := (List.range n).map fun s : Nat => before l i (s : Int)
def nexts (l : List Ed) (i : Nat) : List Int := (List.range l.length).map fun j => if j < i then before l j (l[j]?.map (·.fr) |>.getD 0) else 0
theorem firsts_zero (l : List Ed) (n : Nat) : f1 n n = firsts l n 0 := by
  unfold f1 firsts
  rw [Nat.sub_self, List.replicate_zero, List.append_nil]
  apply List.ext_getElem
  · simp
  · intro i h1 h2
    simp [before]
theorem nexts_zero (l : List Ed) : List.replicate l.length 0 = nexts l 0 := by
  unfold nexts
  apply List.ext_getElem
  · simp
  · intro i h1 h2
    simp
theorem firsts_len (l : List Ed) (n i : Nat) : (firsts l n i).length = n := by unfold firsts; simp
theorem nexts_len (l : List Ed) (i : Nat) : (nexts l i).length = l.length := by unfold nexts; simp
theorem firsts_set (l : List Ed) (n i k : Nat) (h : i < l.length) (hk : l[i].fr = (k : Int)) : (firsts l n i).set k (i : Int) = firsts l n (i + 1) := by
  unfold firsts
  apply List.ext_getElem
  · simp
  · intro j h1 h2
    rw [List.getElem_set]
    simp only [List.getElem_map, List.getElem_range]
    by_cases e : k = j
    · subst e
      rw [if_pos rfl, ← hk, before_here l i h]
    · rw [if_neg e, before_other l i _ h (by rw [hk]; omega)]
theorem nexts_set (l : List Ed) (i : Nat) (h : i < l.length) : (nexts l i).set i (before l i l[i].fr) = nexts l (i + 1) := by
  unfold nexts
  apply List.ext_getElem
  · simp
  · intro j h1 h2
    rw [List.getElem_set]
    simp only [List.getElem_map, List.getElem_range]
    by_cases e : i = j
    · subst e
      rw [if_pos rfl, if_pos (by omega), List.getElem?_eq_getElem h]
      rfl
    · rw [if_neg e]
      by_cases hj : j < i
      · rw [if_pos hj, if_pos (by omega)]
      · rw [if_neg hj, if_neg (by omega)]
theorem firsts_at (l : List Ed) (n i k : Nat) (h : k < n) : (firsts l n i)[k]'(by rw [firsts_len]; exact h) = before l i (k : Int) := by unfold firsts; simp

def WeaveIs (x : Nfa) (n : Nat) : Prop := ∀ o cap w, Eds w o cap x.edges → Calls Try.prog 31 #[nfaV x.n x.s x.e o x.edges.length cap] w fun e w' => ∃ fb nb, e = .returned (.agg #[.slice o x.edges.length cap, .slice (some ⟨fb, 0, none⟩) n n, .slice (some ⟨nb, 0, none⟩) x.edges.length x.edges.length]) ∧ IRow w' fb (firsts x.edges n x.edges.length) ∧ IRow w' nb (nexts x.edges x.edges.length) ∧ fb ≠ nb ∧ w.heap.size ≤ fb ∧ w.heap.size ≤ nb ∧ Below w.heap.size w w'
set_option maxHeartbeats 4000000 in
set_option maxRecDepth 100000 in
theorem weave_any (x : Nfa) (n : Nat) (hx : x.n = (n : Int)) (hn : n ≤ 2000) (hm : x.edges.length ≤ 16000) (hfr : ∀ i (h : i < x.edges.length), 0 ≤ x.edges[i].fr ∧ x.edges[i].fr < (n : Int)) : WeaveIs x n := by
  intro o cap w hE
  have mk1 := make39 n (by omega)
  have mk2 := make39 x.edges.length (by omega)
  have hcap := hE.fit
  have htop := hE.top
  have HE := (show Hid (Eds w o cap x.edges) from hE)
  have HFR := (show Hid (∀ i (h : i < x.edges.length), 0 ≤ x.edges[i].fr ∧ x.edges[i].fr < (n : Int)) from hfr)
  rw [hx]
  clear hE hx hfr
  go_enter Try.func31, Try.ntmps31
  go_wp2_with (fail)
  rename_i K hK
  have key : ∀ gw fb nb W, Wv w x n o cap gw fb nb (f1 n 0) (List.replicate x.edges.length 0) W → K { tmps := #[nfaV (n : Int) x.s x.e o x.edges.length cap, .pointer (some ⟨w.heap.size, 0, none⟩), .pointer (some ⟨w.heap.size + 1, 0, none⟩), .pointer (some ⟨gw, 0, none⟩), undef, undef, undef, .pointer (some ⟨w.heap.size, 3, none⟩), .slice o x.edges.length cap, .pointer (some ⟨w.heap.size, 0, none⟩), .int .i64 (n : Int), .slice (some ⟨fb, 0, none⟩) n n, .pointer (some ⟨w.heap.size, 3, none⟩), .slice o x.edges.length cap, .int .i64 (x.edges.length : Int), .slice (some ⟨nb, 0, none⟩) x.edges.length x.edges.length, .agg #[.slice o x.edges.length cap, .slice (some ⟨fb, 0, none⟩) n n, .slice (some ⟨nb, 0, none⟩) x.edges.length x.edges.length], undef, undef, undef, undef, undef, undef, undef, undef, undef, undef, undef, undef, undef, undef, undef, undef, undef, undef, undef, undef, undef, undef, undef, undef, undef, undef, undef, undef, undef, undef, undef, undef, undef, undef, undef, undef, undef], defers := [] } W := by
    intro gw fb nb W HW0
    refine hK _ _ ?_
    clear hK K mk1 mk2
    have HW := (show Hid (Wv w x n o cap gw fb nb (f1 n 0) (List.replicate x.edges.length 0) W) from HW0)
    have k1 := HW0.c1
    clear HW0
    go_wp2_with (fail)
    go_loopw [20] (fun y wr => ∃ i : Nat, y = .int .i64 i ∧ i ≤ n ∧ Hid (Wv w x n o cap gw fb nb (f1 n i) (List.replicate x.edges.length 0) wr)) (fun y _ => n - (intOf y).toNat)
    case atStart => exact ⟨0, rfl, by omega, HW⟩
    case round =>
      clear HW k1
      obtain ⟨i, rfl, hi, HI⟩ := hrel
      by_cases hlt : i < n
      · have k1 := HI.out.c1
        have hl : i < (f1 n i).length := by rw [f1_len n i hi]; exact hlt
        have k2 := HI.out.fr.cell i hl
        have k3 := HI.out.fr.fz i
        have HN : Hid (Wv w x n o cap gw fb nb (f1 n (i + 1)) (List.replicate x.edges.length 0) (wr.setCell ⟨fb, i, none⟩ (.int .i64 (-1)))) := by have := HI.out.setF i (-1); rw [f1_set n i hlt] at this; exact this
        clear HI
        generalize (f1 n i)[i] = z at *
        go_wp2_with (fail)
        go_roundw
        case rel => exact ⟨i + 1, by go_num, by omega, HN⟩
        case measure => simp [intOf]; omega
      · have HI2 : Hid (Wv w x n o cap gw fb nb (firsts x.edges n 0) (nexts x.edges 0) wr) := by
          have := HI.out
          have e : i = n := by omega
          rw [e, firsts_zero x.edges n, nexts_zero] at this
          exact this
        clear HI
        have k0 := HI2.out.bx.c3
        go_wp2_with (fail)
        go_loopw [31] (fun y wr => ∃ i : Nat, y = .int .i64 i ∧ i ≤ x.edges.length ∧ Hid (Wv w x n o cap gw fb nb (firsts x.edges n i) (nexts x.edges i) wr)) (fun y _ => x.edges.length - (intOf y).toNat)
        case atStart => exact ⟨0, rfl, by omega, HI2⟩
        case round =>
          clear HI2 k0
          obtain ⟨i, rfl, hi, HI⟩ := hrel
          by_cases hlt : i < x.edges.length
          · obtain ⟨b, off, rfl, hb, hed⟩ := HE.out.lie i hlt
            have hed2 := hed.same (HI.out.be.block b hb)
            obtain ⟨c0, c1, c2, c3, c4, c5, c6⟩ := hed2
            have hf := HFR.out i hlt
            have hset := fun k hk => firsts_set x.edges n i k hlt hk
            have nset := nexts_set x.edges i hlt
            obtain ⟨y, hy⟩ : ∃ y, y = x.edges[i] := ⟨_, rfl⟩
            rw [← hy] at c0 c1 c2 c3 c4 c5 c6 hf nset
            obtain ⟨k, hk⟩ : ∃ k : Nat, y.fr = (k : Int) := ⟨y.fr.toNat, by omega⟩
            have hkn : k < n := by omega
            have HS : Hid ((firsts x.edges n i).set k (i : Int) = firsts x.edges n (i + 1)) := hset k (by rw [← hy]; exact hk)
            rw [hk] at nset
            have HG : Hid ((nexts x.edges i).set i (before x.edges i (k : Int)) = nexts x.edges (i + 1)) := nset
            rw [hk] at c0
            have A := HI.out.alloc (.cells #[.int .i64 (k : Int), .int .i64 y.to, .bool y.free, .int .u64 y.a, .int .u64 y.b, .int .u64 y.c, .int .u64 y.d] 68)
            have z := firsts_at x.edges n i k hkn
            have q1 := A.fr.cell k (by rw [firsts_len]; exact hkn)
            rw [z] at q1
            have q0 := A.fr.fz k
            have q2 := A.nr.cell i (by rw [nexts_len]; exact hlt)
            have q3 := A.nr.fz i
            have q4 := A.c1
            have q5 := A.c2
            have A2 := A.setN i (before x.edges i (k : Int))
            have r1 := A2.c1
            have r2 := A2.fr.cell k (by rw [firsts_len]; exact hkn)
            have r3 := A2.fr.fz k
            have A3 := A2.setF k (i : Int)
            rw [HS.out, HG.out] at A3
            have HA3 := (show Hid _ from A3)
            have hgb : wr.heap.size ≠ nb := by have := HI.out.nr.lt; omega
            clear hset nset HI A A2 A3 HS HG hed hy z hk hf
            generalize (nexts x.edges i)[i]'_ = z1 at *
            generalize (firsts x.edges n i)[k]'_ = z2 at *
            generalize before x.edges i (k : Int) = bf at *
            go_wp2_with (fail)
            go_region
            all_goals go_wp2_with (fail)
            all_goals go_roundw
            case rel => exact ⟨i + 1, by go_num, by omega, HA3.out.drew⟩
            case measure => simp [intOf]; omega
          · have HF : Hid (Wv w x n o cap gw fb nb (firsts x.edges n x.edges.length) (nexts x.edges x.edges.length) wr) := by
              have e : i = x.edges.length := by omega
              rw [e] at HI
              exact HI
            have q0 := HF.out.c0
            have q1 := HF.out.c1
            have q2 := HF.out.c2
            have rs := HF.out.rs
            have t0 : wr.cell? ⟨w.heap.size + 1, 0, none⟩ = some (.slice none 0 0) := by rw [Lib.cell_of_heap rs]; rfl
            have t1 : wr.cell? ⟨w.heap.size + 1, 1, none⟩ = some (.slice none 0 0) := by rw [Lib.cell_of_heap rs]; rfl
            have t2 : wr.cell? ⟨w.heap.size + 1, 2, none⟩ = some (.slice none 0 0) := by rw [Lib.cell_of_heap rs]; rfl
            have f0 : ∀ k, wr.frozen? ⟨w.heap.size + 1, k, none⟩ = false := fun k => Lib.frozen_of_heap rs k
            clear HI rs
            go_wp2_with (fail)
            refine bodyPost_ret (v := .agg #[.slice o x.edges.length cap, .slice (some ⟨fb, 0, none⟩) n n, .slice (some ⟨nb, 0, none⟩) x.edges.length x.edges.length]) (results_cell_row Try.results31 _ _ (w.heap.size + 1) 70 _ (0, 0) _ rfl ((set_heap _ _ _ _ 2 _ (set_heap _ _ _ _ 1 _ (set_heap wr _ _ _ 0 _ HF.out.rs)))) Try.underlying70 rfl (by kernel_rfl)) rfl ?_
            exact ⟨fb, nb, rfl, ((HF.out.fr.other (fun e => by have := HF.out.lf; omega) _ _).other (fun e => by have := HF.out.lf; omega) _ _).other (fun e => by have := HF.out.lf; omega) _ _, ((HF.out.nr.other (fun e => by have := HF.out.ln; omega) _ _).other (fun e => by have := HF.out.ln; omega) _ _).other (fun e => by have := HF.out.ln; omega) _ _, HF.out.ne, by have := HF.out.lf; omega, by have := HF.out.ln; omega, ((HF.out.be.setCell (p := ⟨w.heap.size + 1, 0, none⟩) (by show w.heap.size ≤ w.heap.size + 1; omega) _).setCell (p := ⟨w.heap.size + 1, 1, none⟩) (by show w.heap.size ≤ w.heap.size + 1; omega) _).setCell (p := ⟨w.heap.size + 1, 2, none⟩) (by show w.heap.size ≤ w.heap.size + 1; omega) _⟩
  go_region
  all_goals (refine key _ _ _ _ (Wv.mk ?_ ?_ ?_ ?_ ?_ ?_ ?_ ?_ ?_ ?_ ?_ ?_))
  all_goals first | omega | exact below_five _ _ _ _ _ _ | exact (five w.heap _ _ _ _ _).1 | exact (five w.heap _ _ _ _ _).2.1 | exact (five w.heap _ _ _ _ _).2.2.1 | exact (five w.heap _ _ _ _ _).2.2.2.1 | exact (five w.heap _ _ _ _ _).2.2.2.2
end Go.Proofs.Ytfilndgbgdnpiaa.nf
