/-
  What an nfa takes: the lists that there are.
-/
import Derived.Test.YtfilndgbgdnpiaaKNu
namespace Go.Proofs.Ytfilndgbgdnpiaa.nf
open Go.RowKit Go.Shelf
set_option linter.unusedVariables false
open df (Kp Owns Row iv In IntsV)

theorem sofar_ex (x : Nfa) (d : Nat → Nat) (at' : Nat) : ∀ k, ∃ L, SoFar x d at' k L
  | 0 => ⟨_, SoFar.zero _ _ _⟩
  | k + 1 => by
    obtain ⟨L, h⟩ := sofar_ex x d at' k
    rcases Classical.em (Reach x (Base x d at' k) x.e) with hr | hr
    · exact ⟨_, h.yes hr⟩
    · exact ⟨_, h.no hr⟩
theorem runs_ex (x : Nfa) (d : Nat → Nat) (at' len : Nat) (h : at' ≤ len) : ∃ L, IsRuns x d at' len L ∧ L.length ≤ len + 1 - at' := by
  obtain ⟨L, hL⟩ := sofar_ex x d at' (len + 1 - at')
  exact ⟨L, hL.all (by omega), hL.len⟩
theorem free_ex (x : Nfa) (n : Nat) (R : Rt x n) (l : List Int) : ∃ L, IsFree x l L ∧ L.length ≤ n := by
  classical
  refine ⟨((List.range n).filter fun j : Nat => decide (Reach x (fun s => s ∈ l ∧ 0 ≤ s ∧ s < x.n) (j : Int))).map fun j : Nat => (j : Int), ⟨?_, fun t => ?_⟩, ?_⟩
  · rw [List.pairwise_map]
    exact (List.pairwise_lt_range.filter _).imp (fun h => by omega)
  · simp only [List.mem_map, List.mem_filter, List.mem_range, decide_eq_true_eq]
    constructor
    · rintro ⟨j, ⟨h1, h2⟩, rfl⟩
      exact h2
    · intro hr
      have hrange : 0 ≤ t ∧ t < (n : Int) := hr.least (Q := fun t => 0 ≤ t ∧ t < (n : Int)) (fun s hs => ⟨hs.2.1, by rw [← R.hx]; exact hs.2.2⟩) (fun e he _ _ => R.to e he)
      obtain ⟨j, rfl⟩ : ∃ j : Nat, t = (j : Int) := ⟨t.toNat, by omega⟩
      exact ⟨j, ⟨by omega, hr⟩, rfl⟩
  · rw [List.length_map]
    exact Nat.le_trans (List.length_filter_le _ _) (by simp)
/-- the empty text is taken just if the end is reached from the beginning over nothing -/
theorem empty_eq (x : Nfa) (n : Nat) (R : Rt x n) (d : Nat → Nat) (L F : List Int) (hL : IsRuns x d 0 0 L) (hF : IsFree x [x.s] F) : (x.e ∈ F ∧ L = [0]) ∨ (x.e ∉ F ∧ L = []) := by
  have key : x.e ∈ F ↔ Reach x (Base x d 0 0) x.e := by
    rw [hF.mem]
    constructor
    · exact fun h => h.mono (fun t ht => by have := ht.1; rwa [List.mem_singleton] at this)
    · exact fun h => h.mono (fun t ht => by rw [show t = x.s from ht]; exact ⟨List.mem_singleton.2 rfl, R.s.1, by rw [R.hx]; exact R.s.2⟩)
  rcases Classical.em (Reach x (Base x d 0 0) x.e) with hr | hr
  · exact .inl ⟨key.2 hr, runs_eq hL (((SoFar.zero x d 0).yes hr).all rfl)⟩
  · exact .inr ⟨fun h => hr (key.1 h), runs_eq hL (((SoFar.zero x d 0).no hr).all rfl)⟩
end Go.Proofs.Ytfilndgbgdnpiaa.nf
