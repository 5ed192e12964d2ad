/-
  Plain mathematics: what a dfa takes of a text's beginning.
-/
import Derived.Test.YtpagemlneolecaaDi
namespace Go.Proofs.Ytpagemlneolecaa.df
set_option linter.unusedVariables false

theorem here_mem (d : Dfa) (q t : Nat) : ∀ x ∈ here d q t, x = (t : Int) := by
  intro x hx
  unfold here at hx
  split at hx
  · simpa using hx
  · cases hx
theorem ends_ge (d : Dfa) (s : ByteArray) : ∀ f q t, ∀ x ∈ ends d s f q t, (t : Int) ≤ x
  | 0, q, t, x, hx => by
    unfold ends at hx
    split at hx
    · cases hx
    · rw [here_mem d _ _ x hx]; omega
  | f + 1, q, t, x, hx => by
    unfold ends at hx
    split at hx
    · cases hx
    · rcases List.mem_append.1 hx with h | h
      · rw [here_mem d _ _ x h]; omega
      · have := ends_ge d s f _ _ x h; omega
theorem begins (d : Dfa) (u v : ByteArray) (n : Nat) (hn : n ≤ u.size) (hv : v.size = n) (hb : ∀ i, i < n → byteAt v i = byteAt u i) : ∀ k t q, t + k = n →
    (ends d u (u.size - t) q t).filter (fun x => decide (x ≤ (n : Int))) = ends d v (v.size - t) q t := by
  intro k
  induction k with
  | zero =>
    intro t q ht
    have e : v.size - t = 0 := by omega
    rw [e]
    by_cases hq : q < 0
    · rw [ends_neg d u _ q t hq, ends_neg d v _ q t hq]; rfl
    · obtain ⟨q', rfl⟩ : ∃ q' : Nat, q = (q' : Int) := ⟨q.toNat, by omega⟩
      rw [ends_zero]
      by_cases h0 : u.size - t = 0
      · rw [h0, ends_zero]
        refine List.filter_eq_self.2 (fun x hx => ?_)
        rw [here_mem d _ _ x hx]
        exact decide_eq_true (by omega)
      · obtain ⟨f, hf⟩ : ∃ f, u.size - t = f + 1 := ⟨u.size - t - 1, by omega⟩
        rw [hf, ends_succ, List.filter_append]
        have e1 : (here d q' t).filter (fun x => decide (x ≤ (n : Int))) = here d q' t := List.filter_eq_self.2 (fun x hx => by
          rw [here_mem d _ _ x hx]
          exact decide_eq_true (by omega))
        have e2 : (ends d u f (nxt d q' (d.cls (byteAt u t))) (t + 1)).filter (fun x => decide (x ≤ (n : Int))) = [] := List.filter_eq_nil_iff.2 (fun x hx => by
          have := ends_ge d u f _ _ x hx
          simp
          omega)
        rw [e1, e2, List.append_nil]
  | succ k ih =>
    intro t q ht
    obtain ⟨f, hf⟩ : ∃ f, u.size - t = f + 1 := ⟨u.size - t - 1, by omega⟩
    obtain ⟨g, hg⟩ : ∃ g, v.size - t = g + 1 := ⟨v.size - t - 1, by omega⟩
    rw [hf, hg]
    by_cases hq : q < 0
    · rw [ends_neg d u _ q t hq, ends_neg d v _ q t hq]; rfl
    · obtain ⟨q', rfl⟩ : ∃ q' : Nat, q = (q' : Int) := ⟨q.toNat, by omega⟩
      rw [ends_succ, ends_succ, List.filter_append, hb t (by omega)]
      have e1 : (here d q' t).filter (fun x => decide (x ≤ (n : Int))) = here d q' t := List.filter_eq_self.2 (fun x hx => by
        rw [here_mem d _ _ x hx]
        exact decide_eq_true (by omega))
      have i1 := ih (t + 1) (nxt d q' (d.cls (byteAt u t))) (by omega)
      have f1 : u.size - (t + 1) = f := by omega
      have g1 : v.size - (t + 1) = g := by omega
      rw [f1, g1] at i1
      rw [e1, i1]
theorem byte_cut (u : ByteArray) (n i : Nat) (hn : n ≤ u.size) (hi : i < n) : byteAt (u.extract 0 n) i = byteAt u i := by
  have h1 : i < (u.extract 0 n).size := by simp; omega
  rw [byte_eq _ _ h1, byte_eq _ _ (by omega)]
  congr 1
  rw [ByteArray.getElem_extract]
  simp
theorem begins_all (d : Dfa) (u : ByteArray) (n : Nat) (hn : n ≤ u.size) : (endsOf d u 0).filter (fun x => decide (x ≤ (n : Int))) = endsOf d (u.extract 0 n) 0 := by
  have hv : (u.extract 0 n).size = n := by simp; omega
  unfold endsOf
  by_cases hr : right d = true
  · rw [if_pos ⟨hr, by omega, by omega⟩, if_pos ⟨hr, by omega, by omega⟩]
    have := begins d u (u.extract 0 n) n hn hv (fun i hi => byte_cut u n i hn hi) n 0 0 (by omega)
    simpa using this
  · rw [if_neg (fun h => hr h.1), if_neg (fun h => hr h.1)]
    rfl
end Go.Proofs.Ytpagemlneolecaa.df
