/-
  Contracts over this program: which nfa may be (nfa.Right).
-/
import Derived.Test.YthknhbmibmndoaaNf
import Derived.WalkLawsBesides
namespace Go.Proofs.Ythknhbmibmndoaa.nf
open Go.ChangeShapes Go.WideShapes Go.ChangeAt Go.RowKit
set_option linter.unusedVariables false

/-- an nfa in a cell of its own -/
def Box (w : World) (g : Nat) (n s e : Int) (o : Option Addr) (m cap : Nat) : Prop := w.heap[g]? = some (.cells #[.int .i64 n, .int .i64 s, .int .i64 e, .slice o m cap] 24 (0, 0))
section
variable {w w' : World} {g : Nat} {n s e : Int} {o : Option Addr} {m cap : Nat}
theorem Box.lt (h : Box w g n s e o m cap) : g < w.heap.size := (Array.getElem?_eq_some_iff.1 h).1
theorem Box.c0 (h : Box w g n s e o m cap) : w.cell? ⟨g, 0, none⟩ = some (.int .i64 n) := by rw [Lib.cell_of_heap h]; rfl
theorem Box.c1 (h : Box w g n s e o m cap) : w.cell? ⟨g, 1, none⟩ = some (.int .i64 s) := by rw [Lib.cell_of_heap h]; rfl
theorem Box.c2 (h : Box w g n s e o m cap) : w.cell? ⟨g, 2, none⟩ = some (.int .i64 e) := by rw [Lib.cell_of_heap h]; rfl
theorem Box.c3 (h : Box w g n s e o m cap) : w.cell? ⟨g, 3, none⟩ = some (.slice o m cap) := by rw [Lib.cell_of_heap h]; rfl
theorem Box.later (h : Box w g n s e o m cap) (b : Below w.heap.size w w') : Box w' g n s e o m cap := by unfold Box; rw [b.block g h.lt]; exact h
end
theorem box_new (w : World) (n s e : Int) (o : Option Addr) (m cap : Nat) : Box (w.alloc (.cells #[.int .i64 n, .int .i64 s, .int .i64 e, .slice o m cap] 24)) w.heap.size n s e o m cap := heap_alloc_new w _

def RtIs (f : Nat) (x : Nfa) (r : Bool) : Prop := ∀ o cap w, Eds w o cap x.edges → Calls Try.prog f #[nfaV x.n x.s x.e o x.edges.length cap] w fun e w' => e = .returned (.bool r) ∧ Below w.heap.size w w'
abbrev StAt (n i : Int) (r : Bool) : Prop := ∀ s e o m cap w, Calls Try.prog 35 #[nfaV n s e o m cap, .int .i64 i] w fun x w' => x = .returned (.bool r) ∧ Below w.heap.size w w'

set_option maxHeartbeats 1000000 in
theorem right_n (x : Nfa) (h : ¬ (1 ≤ x.n ∧ x.n ≤ 2000)) : RtIs 11 x false := by
  intro o cap w hE
  by_cases h1 : x.n < 1
  · have f1 : decide (x.n < 1) = true := decide_eq_true h1
    clear h h1 hE
    go_enter Try.func11, Try.ntmps11
    go_wp2
    go_ret
    exact ⟨rfl, below_alloc _ _⟩
  · have f1 : decide (x.n < 1) = false := decide_eq_false h1
    have f2 : decide (2000 < x.n) = true := decide_eq_true (by omega)
    clear h h1 hE
    go_enter Try.func11, Try.ntmps11
    go_wp2
    go_ret
    exact ⟨rfl, below_alloc _ _⟩
set_option maxHeartbeats 1000000 in
theorem right_many (x : Nfa) (h1 : 1 ≤ x.n) (h2 : x.n ≤ 2000) (h : 16000 < x.edges.length) : RtIs 11 x false := by
  intro o cap w hE
  have f1 : decide (x.n < 1) = false := decide_eq_false (by omega)
  have f2 : decide (2000 < x.n) = false := decide_eq_false (by omega)
  have f3 : decide (16000 < x.edges.length) = true := decide_eq_true h
  generalize x.edges.length = m at *
  clear h1 h2 hE
  go_enter Try.func11, Try.ntmps11
  go_wp2
  go_ret
  exact ⟨rfl, below_alloc _ _⟩
set_option maxHeartbeats 1000000 in
theorem right_ends (x : Nfa) (h1 : 1 ≤ x.n) (h2 : x.n ≤ 2000) (h : x.edges.length ≤ 16000) (hs : (isSt x.n x.s && isSt x.n x.e) = false) : RtIs 11 x false := by
  intro o cap w hE
  have f1 : decide (x.n < 1) = false := decide_eq_false (by omega)
  have f2 : decide (2000 < x.n) = false := decide_eq_false (by omega)
  have f3 : decide (16000 < x.edges.length) = false := decide_eq_false (by omega)
  have q1 := st_any x.n x.s _ rfl
  have q2 := st_any x.n x.e _ rfl
  generalize x.edges.length = m at *
  have b0 := box_new w x.n x.s x.e o m cap
  unfold StIs at q1 q2
  clear h1 h2 hE
  cases c1 : isSt x.n x.s with
  | false =>
    rw [c1] at q1
    go_enter Try.func11, Try.ntmps11
    go_wp2_with (go_at_call 35; (with_reducible refine (q1 _ _ _ _ _ _).mono ?_); rintro e w1 ⟨rfl, b1⟩)
    go_ret
    exact ⟨rfl, chain (below_alloc _ _) b1⟩
  | true =>
    have c2 : isSt x.n x.e = false := by rw [c1, Bool.true_and] at hs; exact hs
    rw [c1] at q1
    rw [c2] at q2
    go_enter Try.func11, Try.ntmps11
    go_wp2_with (first | (go_at_call 35; (with_reducible refine (q1 _ _ _ _ _ _).mono ?_); rintro e w1 ⟨rfl, b1⟩; have k1 := b0.later b1; have d0 := k1.c0; have d1 := k1.c1; have d2 := k1.c2; have d3 := k1.c3) | (go_at_call 35; (with_reducible refine (q2 _ _ _ _ _ _).mono ?_); rintro e w2 ⟨rfl, b2⟩))
    go_ret
    exact ⟨rfl, chain (chain (below_alloc _ _) b1) b2⟩
theorem all_take (p : Ed → Bool) (l : List Ed) (i : Nat) (h : i < l.length) : (l.take (i + 1)).all p = ((l.take i).all p && p l[i]) := by
  rw [List.take_add_one, List.getElem?_eq_getElem h, List.all_append]
  simp only [Option.toList_some, List.all_cons, List.all_nil, Bool.and_true]
theorem all_no (p : Ed → Bool) (l : List Ed) (i : Nat) (h : i < l.length) (hp : p l[i] = false) : l.all p = false := by
  rw [List.all_eq_false]
  exact ⟨l[i], List.getElem_mem h, by simp [hp]⟩
set_option maxHeartbeats 2000000 in
set_option maxRecDepth 100000 in
theorem right_loop (x : Nfa) (h1 : 1 ≤ x.n) (h2 : x.n ≤ 2000) (h : x.edges.length ≤ 16000) (hs : isSt x.n x.s = true) (he : isSt x.n x.e = true) (r : Bool) (hr : r = x.edges.all (edOk x.n)) : RtIs 11 x r := by
  intro o cap w hE
  have f1 : decide (x.n < 1) = false := decide_eq_false (by omega)
  have f2 : decide (2000 < x.n) = false := decide_eq_false (by omega)
  have f3 : decide (16000 < x.edges.length) = false := decide_eq_false (by omega)
  have q1 := st_any x.n x.s _ hs.symm
  have q2 := st_any x.n x.e _ he.symm
  have hcap := hE.fit
  have htop := hE.top
  have b0 := box_new w x.n x.s x.e o x.edges.length cap
  have HR : Hid (r = x.edges.all (edOk x.n)) := hr
  have HE := (show Hid (Eds w o cap x.edges) from hE)
  unfold StIs at q1 q2
  clear h1 h2 hE hr
  generalize x.edges = l at *
  go_enter Try.func11, Try.ntmps11
  go_wp2_with (first | (go_at_call 35; (with_reducible refine (q1 _ _ _ _ _ _).mono ?_); rintro e w1 ⟨rfl, b1⟩; have k1 := b0.later b1; have d0 := k1.c0; have d1 := k1.c1; have d2 := k1.c2; have d3 := k1.c3) | (go_at_call 35; (with_reducible refine (q2 _ _ _ _ _ _).mono ?_); rintro e w2 ⟨rfl, b2⟩; have k2 := k1.later b2; have e3 := k2.c3))
  have B2 := chain (chain (below_alloc w (.cells #[.int .i64 x.n, .int .i64 x.s, .int .i64 x.e, .slice o l.length cap] 24)) b1) b2
  go_loopw [34] (fun y wr => ∃ i : Nat, y = .int .i64 i ∧ i ≤ l.length ∧ Box wr w.heap.size x.n x.s x.e o l.length cap ∧ Below w.heap.size w wr ∧ Hid ((l.take i).all (edOk x.n) = true)) (fun y _ => l.length - (intOf y).toNat)
  case atStart => exact ⟨0, rfl, by omega, k2, B2, by show _ = _; simp⟩
  case round =>
    clear q1 q2 b0 b1 b2 k1 k2 d0 d1 d2 d3 e3 B2
    obtain ⟨i, rfl, hil, bx, hB, HI⟩ := hrel
    by_cases hend : i < l.length
    · obtain ⟨b, off, rfl, hb, hed⟩ := HE.out.lie i hend
      have hed2 := hed.same (hB.block b hb)
      obtain ⟨c0, c1, c2, c3, c4, c5, c6⟩ := hed2
      have p1 := st_any x.n l[i].fr _ rfl
      have p2 := st_any x.n l[i].to _ rfl
      have hall := all_take (edOk x.n) l i hend
      have hno := all_no (edOk x.n) l i hend
      unfold edOk at hno
      have hok : edOk x.n l[i] = (isSt x.n l[i].fr && isSt x.n l[i].to) := rfl
      rw [hok, HI.out, Bool.true_and] at hall
      clear hok hed
      obtain ⟨y, hy⟩ : ∃ y, y = l[i] := ⟨_, rfl⟩
      rw [← hy] at c0 c1 c2 c3 c4 c5 c6 p1 p2 hall hno
      clear hy
      have x0 := (bx.later (below_alloc wr (.cells #[.int .i64 y.fr, .int .i64 y.to, .bool y.free, .int .u64 y.a, .int .u64 y.b, .int .u64 y.c, .int .u64 y.d] 62)))
      have d0 := x0.c0
      have d1 := x0.c1
      have d2 := x0.c2
      have d3 := x0.c3
      unfold StIs at p1 p2
      cases r1 : isSt x.n y.fr with
      | false =>
        rw [r1] at p1 hno
        have HF : Hid (r = false) := by show _ = _; rw [HR.out]; exact hno rfl
        clear hno hall HI
        go_wp2_with (go_at_call 35; (with_reducible refine (p1 _ _ _ _ _ _).mono ?_); rintro e w1 ⟨rfl, b1⟩)
        go_ret
        exact ⟨by rw [HF.out]; rfl, chain (chain hB (below_alloc _ _)) b1⟩
      | true =>
        rw [r1] at p1 hno hall
        have yb : (wr.alloc (.cells #[.int .i64 y.fr, .int .i64 y.to, .bool y.free, .int .u64 y.a, .int .u64 y.b, .int .u64 y.c, .int .u64 y.d] 62)).heap[wr.heap.size]? = some (.cells #[.int .i64 y.fr, .int .i64 y.to, .bool y.free, .int .u64 y.a, .int .u64 y.b, .int .u64 y.c, .int .u64 y.d] 62) := heap_alloc_new wr _
        have ylt := (Array.getElem?_eq_some_iff.1 yb).1
        cases r2 : isSt x.n y.to with
        | false =>
          rw [r2] at p2 hno
          have HF : Hid (r = false) := by show _ = _; rw [HR.out]; exact hno rfl
          clear hno hall HI
          go_wp2_with (first | (go_at_call 35; (with_reducible refine (p1 _ _ _ _ _ _).mono ?_); rintro e w1 ⟨rfl, b1⟩; have k1 := x0.later b1; have j0 := k1.c0; have j1 := k1.c1; have j2 := k1.c2; have j3 := k1.c3; have y1 : w1.cell? ⟨wr.heap.size, 1, none⟩ = some (.int .i64 y.to) := by rw [Lib.cell_of_heap ((b1.block _ ylt).trans yb)]; rfl) | (go_at_call 35; (with_reducible refine (p2 _ _ _ _ _ _).mono ?_); rintro e w2 ⟨rfl, b2⟩))
          go_ret
          exact ⟨by rw [HF.out]; rfl, chain (chain (chain hB (below_alloc _ _)) b1) b2⟩
        | true =>
          rw [r2] at p2 hall
          have HN : Hid ((l.take (i + 1)).all (edOk x.n) = true) := hall
          clear hno hall HI
          go_wp2_with (first | (go_at_call 35; (with_reducible refine (p1 _ _ _ _ _ _).mono ?_); rintro e w1 ⟨rfl, b1⟩; have k1 := x0.later b1; have j0 := k1.c0; have j1 := k1.c1; have j2 := k1.c2; have j3 := k1.c3; have y1 : w1.cell? ⟨wr.heap.size, 1, none⟩ = some (.int .i64 y.to) := by rw [Lib.cell_of_heap ((b1.block _ ylt).trans yb)]; rfl) | (go_at_call 35; (with_reducible refine (p2 _ _ _ _ _ _).mono ?_); rintro e w2 ⟨rfl, b2⟩))
          go_roundw
          case rel => exact ⟨i + 1, by go_num, by omega, k1.later b2, chain (chain (chain hB (below_alloc _ _)) b1) b2, HN⟩
          case measure => simp [intOf]; omega
    · have HF : Hid (r = true) := by
        show _ = _
        have := HI.out
        rw [List.take_of_length_le (by omega)] at this
        rw [HR.out, this]
      clear HI HR HE
      go_wp2
      go_ret
      exact ⟨by rw [HF.out]; rfl, hB⟩
theorem right_any (x : Nfa) (r : Bool) (hr : r = right x) : RtIs 11 x r := by
  subst hr
  unfold right
  by_cases h1 : 1 ≤ x.n ∧ x.n ≤ 2000
  · rw [decide_eq_true h1.1, decide_eq_true h1.2]
    by_cases h2 : x.edges.length ≤ 16000
    · rw [decide_eq_true h2]
      cases hs : isSt x.n x.s with
      | false => simpa using right_ends x h1.1 h1.2 h2 (by rw [hs]; rfl)
      | true =>
        cases he : isSt x.n x.e with
        | false => simpa using right_ends x h1.1 h1.2 h2 (by rw [hs, he]; rfl)
        | true => exact right_loop x h1.1 h1.2 h2 hs he _ (by simp)
    · rw [decide_eq_false h2]
      simpa using right_many x h1.1 h1.2 (by omega)
  · have e : (decide (1 ≤ x.n) && decide (x.n ≤ 2000)) = false := by
      rw [Bool.and_eq_false_iff]
      by_cases h : 1 ≤ x.n
      · right; exact decide_eq_false (fun h2 => h1 ⟨h, h2⟩)
      · left; exact decide_eq_false h
    rw [e]
    simpa using right_n x h1
end Go.Proofs.Ythknhbmibmndoaa.nf
