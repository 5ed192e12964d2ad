/-
  Contracts over this program: what is reached over Free edges (nfa.Free).
-/
import Derived.Test.YthknhbmibmndoaaNi
import Derived.Test.YthknhbmibmndoaaNj
namespace Go.Proofs.Ythknhbmibmndoaa.nf
open Go.RowKit Go.Shelf
set_option linter.unusedVariables false
open df (Kp Owns Row iv In IntsV)

theorem others_of {W W' : World} (b : Below W.heap.size W W') : KeepsOthers W W' := ⟨b.size, fun k o hk _ => (b.block k (Array.getElem?_eq_some_iff.1 hk).1).trans hk⟩
theorem moved_of {X : Nat → Prop} {B : Nat} {W W' : World} (b : Below W.heap.size W W') (hX : ∀ b, X b → b < W.heap.size) (hB : B ≤ W.heap.size) : Moved X B W W' := Moved.below b hX hB (others_of b)

/-- what a right nfa's numbers are -/
structure Rt (x : Nfa) (n : Nat) : Prop where
  hx : x.n = (n : Int)
  n1 : 1 ≤ n
  n2 : n ≤ 2000
  m : x.edges.length ≤ 16000
  s : 0 ≤ x.s ∧ x.s < (n : Int)
  e : 0 ≤ x.e ∧ x.e < (n : Int)
  fr : ∀ e ∈ x.edges, 0 ≤ e.fr ∧ e.fr < (n : Int)
  to : ∀ e ∈ x.edges, 0 ≤ e.to ∧ e.to < (n : Int)
theorem rt_of (x : Nfa) (h : right x = true) : ∃ n, Rt x n := by
  unfold right isSt at h
  simp only [Bool.and_eq_true, decide_eq_true_eq, List.all_eq_true] at h
  obtain ⟨⟨⟨⟨⟨h1, h2⟩, h3⟩, h4⟩, h5⟩, h6⟩ := h
  have h7 : ∀ e ∈ x.edges, (0 ≤ e.fr ∧ e.fr < x.n) ∧ (0 ≤ e.to ∧ e.to < x.n) := fun e he => by
    have := h6 e he
    unfold edOk isSt at this
    simpa using this
  refine ⟨x.n.toNat, by omega, by omega, by omega, h3, by omega, by omega, fun e he => ?_, fun e he => ?_⟩
  · have := (h7 e he).1; omega
  · have := (h7 e he).2; omega

/-- the states of a list, each once, as they are met -/
def addS (n : Nat) (st : List Int × List Int) (t : Int) : List Int × List Int := if 0 ≤ t ∧ t < (n : Int) then addE st t else st
def addL (n : Nat) (l : List Int) : List Int × List Int := l.foldl (addS n) ([], [])
theorem addL_snoc (n : Nat) (l : List Int) (t : Int) : addL n (l ++ [t]) = addS n (addL n l) t := by unfold addL; rw [List.foldl_append]; rfl
theorem addL_spec (n : Nat) (l : List Int) : (addL n l).1 = (addL n l).2 ∧ ∀ t, t ∈ (addL n l).1 ↔ t ∈ l ∧ 0 ≤ t ∧ t < (n : Int) := by
  have key : ∀ (k : Nat), k ≤ l.length → (addL n (l.take k)).1 = (addL n (l.take k)).2 ∧ ∀ t, t ∈ (addL n (l.take k)).1 ↔ t ∈ l.take k ∧ 0 ≤ t ∧ t < (n : Int) := by
    intro k
    induction k with
    | zero => intro _; exact ⟨rfl, by simp [addL]⟩
    | succ k ih =>
      intro hk
      obtain ⟨h1, h2⟩ := ih (by omega)
      rw [List.take_succ_eq_append_getElem (by omega), addL_snoc]
      generalize l[k] = u
      generalize l.take k = L at *
      unfold addS addE
      by_cases hu : 0 ≤ u ∧ u < (n : Int)
      · rw [if_pos hu]
        by_cases hin : u ∈ (addL n L).1
        · rw [if_pos hin]
          refine ⟨h1, fun t => ?_⟩
          rw [h2 t]
          simp only [List.mem_append, List.mem_singleton]
          constructor
          · rintro ⟨a, b⟩; exact ⟨.inl a, b⟩
          · rintro ⟨a | a, b⟩
            · exact ⟨a, b⟩
            · subst a; exact (h2 t).1 hin
        · rw [if_neg hin]
          refine ⟨by rw [h1], fun t => ?_⟩
          simp only [List.mem_append, List.mem_singleton]
          rw [h2 t]
          constructor
          · rintro (⟨a, b⟩ | a)
            · exact ⟨.inl a, b⟩
            · subst a; exact ⟨.inr rfl, hu⟩
          · rintro ⟨a | a, b⟩
            · exact .inl ⟨a, b⟩
            · exact .inr a
      · rw [if_neg hu]
        refine ⟨h1, fun t => ?_⟩
        rw [h2 t]
        simp only [List.mem_append, List.mem_singleton]
        constructor
        · rintro ⟨a, b⟩; exact ⟨.inl a, b⟩
        · rintro ⟨a | a, b⟩
          · exact ⟨a, b⟩
          · subst a; exact absurd b hu
  have := key l.length (Nat.le_refl _)
  rwa [List.take_length] at this
/-- what Free answers -/
structure IsFree (x : Nfa) (l L : List Int) : Prop where
  up : L.Pairwise (· < ·)
  mem : ∀ t, t ∈ L ↔ Reach x (fun s => s ∈ l ∧ 0 ≤ s ∧ s < x.n) t
theorem sorted_up (l : List Int) (h : l.Nodup) : (sorted l).Pairwise (· < ·) := by
  have h1 : (sorted l).Pairwise (fun a b => decide (a ≤ b) = true) := List.pairwise_mergeSort (le := fun a b => decide (a ≤ b)) (fun a b c h1 h2 => by simp at *; omega) (fun a b => by simp; omega) l
  have h2 : (sorted l).Nodup := (List.mergeSort_perm l _).nodup_iff.2 h
  have h3 := h1.and h2
  exact h3.imp (fun {a b} ⟨a1, a2⟩ => by simp at a1; omega)
theorem sorted_mem (l : List Int) (t : Int) : t ∈ sorted l ↔ t ∈ l := (List.mergeSort_perm l _).mem_iff
theorem up_eq : ∀ (l m : List Int), l.Pairwise (· < ·) → m.Pairwise (· < ·) → (∀ t, t ∈ l ↔ t ∈ m) → l = m
  | [], [], _, _, _ => rfl
  | [], b :: m, _, _, h => by have := (h b).2 (by simp); cases this
  | a :: l, [], _, _, h => by have := (h a).1 (by simp); cases this
  | a :: l, b :: m, h1, h2, h => by
    rw [List.pairwise_cons] at h1 h2
    have e : a = b := by
      have i1 := (h a).1 (by simp)
      have i2 := (h b).2 (by simp)
      rcases List.mem_cons.1 i1 with e | i1
      · exact e
      · rcases List.mem_cons.1 i2 with e | i2
        · exact e.symm
        · have := h1.1 b i2
          have := h2.1 a i1
          omega
    subst e
    congr 1
    refine up_eq l m h1.2 h2.2 (fun t => ⟨fun ht => ?_, fun ht => ?_⟩)
    · rcases List.mem_cons.1 ((h t).1 (by simp [ht])) with e | h3
      · subst e; have := h1.1 t ht; omega
      · exact h3
    · rcases List.mem_cons.1 ((h t).2 (by simp [ht])) with e | h3
      · subst e; have := h2.1 t ht; omega
      · exact h3
end Go.Proofs.Ythknhbmibmndoaa.nf
