/-
  Plain mathematics: what the nfa of an expression takes is what the expression takes; how large an expression is, and that one that is not too large is laid whole.
-/
import Derived.Test.YtfilndgbgdnpiaaM07
import Derived.Test.YtfilndgbgdnpiaaKNv
namespace Go.Proofs.Ytfilndgbgdnpiaa.nb
open st (Tr Q4 nodesOf goods okNode)
open nf (Ed Nfa Base Over IsRuns)
set_option linter.unusedVariables false

theorem pa_mc {T : Nat → Nat → Prop} (i j : Nat) : Pa (Un (fun _ _ => False) (Mc 0 1 T)) (0, i) (1, j) ↔ T i j := by
  constructor
  · intro h
    cases h with
    | step r h =>
      rcases r with r | ⟨h1, h2, h3⟩
      · exact r.elim
      · rename_i b
        obtain ⟨b1, b2⟩ := b
        simp only at h2 h3
        subst h2
        cases h with
        | refl => exact h3
        | step r _ =>
          rcases r with r | ⟨h4, _⟩
          · exact r.elim
          · simp at h4
  · intro h
    exact .one (.inr ⟨rfl, rfl, h⟩)
theorem built_pa (x : Tx) (t : Tr) (hg : t.good = true) (hf : (built t).full = false) (i j : Nat) : Pa (EdR x (built t).es) (0, i) (1, j) ↔ Tk x t i j := by
  obtain ⟨new, h⟩ := lay_does x t hg 0 1 ⟨2, []⟩ (by simp) (by simp) hf
  have e : (built t).es = new := by
    have := h.es
    show (layT t 0 1 ⟨2, []⟩).es = new
    simpa using this
  have h1 := h.same (fun _ _ => False) (fun _ _ h => h.elim) (0, i) (1, j) (fun h => by have := h.1; simp at this) (fun h => by have := h.1; simp at this)
  rw [e, ← pa_mc (T := Tk x t) i j, ← h1]
  exact Pa.congr fun a b => ⟨fun h => .inr h, fun h => h.elim (fun h => h.elim) id⟩
theorem reach_pa (t : Tr) (d : Nat → Nat) (len at' : Nat) : ∀ j, at' + j ≤ len → ∀ u : Int, nf.Reach (nfaOf t) (Base (nfaOf t) d at' j) u → ∃ v : Nat, u = (v : Int) ∧ Pa (EdR ⟨d, len⟩ (built t).es) (0, at') (v, at' + j) := by
  have hin := (built_in t).1
  have free : ∀ (j : Nat) (P : Int → Prop), (∀ u, P u → ∃ v : Nat, u = (v : Int) ∧ Pa (EdR ⟨d, len⟩ (built t).es) (0, at') (v, at' + j)) → ∀ u, nf.Reach (nfaOf t) P u → ∃ v : Nat, u = (v : Int) ∧ Pa (EdR ⟨d, len⟩ (built t).es) (0, at') (v, at' + j) := by
    intro j P hP u hu
    induction hu with
    | base h => exact hP _ h
    | step _ he hfr ih =>
      rename_i e _
      obtain ⟨v, hv, hp⟩ := ih
      have := hin e he
      refine ⟨e.to.toNat, by omega, hp.trans (.one ⟨e, he, hv, by show e.to = (e.to.toNat : Int); omega, .inl ⟨hfr, rfl⟩⟩)⟩
  intro j
  induction j with
  | zero =>
    intro hj
    exact free 0 _ fun u hu => ⟨0, hu, .refl _⟩
  | succ j ih =>
    intro hj
    refine free (j + 1) _ fun u hu => ?_
    obtain ⟨e, he, hfr, hhas, hto, hr⟩ := hu
    obtain ⟨v, hv, hp⟩ := ih (by omega) _ hr
    have := hin e he
    refine ⟨e.to.toNat, by omega, ?_⟩
    exact hp.trans (.one ⟨e, he, hv, by show e.to = (e.to.toNat : Int); omega, .inr ⟨hfr, by show at' + j < len; omega, by show at' + (j + 1) = at' + j + 1; omega, hhas⟩⟩)
theorem pa_reach (t : Tr) (d : Nat → Nat) (len at' : Nat) {a b : Cf} (h : Pa (EdR ⟨d, len⟩ (built t).es) a b) : (at' ≤ a.2 ∧ nf.Reach (nfaOf t) (Base (nfaOf t) d at' (a.2 - at')) (a.1 : Int)) → (at' ≤ b.2 ∧ nf.Reach (nfaOf t) (Base (nfaOf t) d at' (b.2 - at')) (b.1 : Int)) := by
  induction h with
  | refl => exact id
  | step r _ ih =>
    rintro ⟨h1, h2⟩
    apply ih
    obtain ⟨e, he, hf, ht, ⟨hfr, e2⟩ | ⟨hfr, hlt, e2, hhas⟩⟩ := r
    · rw [← e2, ← ht]
      rw [← hf] at h2
      exact ⟨h1, .step h2 he hfr⟩
    · rw [e2, ← ht]
      rw [← hf] at h2
      refine ⟨by omega, .base ?_⟩
      rw [show ∀ a : Nat, at' ≤ a → a + 1 - at' = (a - at') + 1 from fun a h => by omega]
      · refine ⟨e, he, hfr, ?_, rfl, h2⟩
        rw [show ∀ a : Nat, at' ≤ a → at' + (a - at') = a from fun a h => by omega]
        · exact hhas
        · exact h1
      · exact h1
/-- what is built takes, from a place on, just what the expression takes -/
theorem runs_tk (t : Tr) (hg : t.good = true) (hf : (built t).full = false) (d : Nat → Nat) (at' len : Nat) (L : List Int) (h : IsRuns (nfaOf t) d at' len L) (j : Nat) (hj : j ≤ len) : (j : Int) ∈ L ↔ Tk ⟨d, len⟩ t at' j := by
  rw [h.mem, ← built_pa ⟨d, len⟩ t hg hf]
  constructor
  · rintro ⟨k, h1, h2, h3⟩
    obtain ⟨v, hv, hp⟩ := reach_pa t d len at' k h1 _ h3
    obtain rfl : j = at' + k := by omega
    obtain rfl : v = 1 := by
      have : ((1 : Nat) : Int) = (v : Int) := hv
      omega
    exact hp
  · intro hp
    have := pa_reach t d len at' hp ⟨Nat.le_refl _, by rw [Nat.sub_self]; exact .base rfl⟩
    obtain ⟨h1, h2⟩ := this
    have h1' : at' ≤ j := h1
    refine ⟨j - at', by omega, by rw [show at' + (j - at') = j by omega], h2⟩
theorem pow_range {x : Tx} {T : Nat → Nat → Prop} (h : ∀ i j, T i j → i ≤ j ∧ (i ≤ x.len → j ≤ x.len)) : ∀ n i j, Pow T n i j → i ≤ j ∧ (i ≤ x.len → j ≤ x.len)
  | 0, i, j, e => by cases e; exact ⟨Nat.le_refl _, id⟩
  | n + 1, i, j, ⟨k, h1, h2⟩ => by
    have a := h i k h1
    have b := pow_range h n k j h2
    exact ⟨by omega, fun c => b.2 (a.2 c)⟩
mutual
theorem tk_range (x : Tx) : ∀ (t : Tr) (i j : Nat), Tk x t i j → i ≤ j ∧ (i ≤ x.len → j ≤ x.len)
  | .node k q mn mx l, i, j, h => by
    rw [Tk] at h
    split at h
    · obtain ⟨h1, h2, _⟩ := h
      exact ⟨by omega, fun _ => by omega⟩
    · split at h
      · exact tkC_range x l i j h
      · split at h
        · exact tkA_range x l i j h
        · split at h
          · obtain ⟨n, _, _, hp⟩ := h
            exact pow_range (tkH_range x l) n i j hp
          · exact h.elim
theorem tkC_range (x : Tx) : ∀ (l : List Tr) (i j : Nat), TkC x l i j → i ≤ j ∧ (i ≤ x.len → j ≤ x.len)
  | [], i, j, h => by
    rw [TkC] at h
    subst h
    exact ⟨Nat.le_refl _, id⟩
  | t :: l, i, j, h => by
    rw [TkC] at h
    obtain ⟨k, h1, h2⟩ := h
    have a := tk_range x t i k h1
    have b := tkC_range x l k j h2
    exact ⟨by omega, fun c => b.2 (a.2 c)⟩
theorem tkA_range (x : Tx) : ∀ (l : List Tr) (i j : Nat), TkA x l i j → i ≤ j ∧ (i ≤ x.len → j ≤ x.len)
  | [], i, j, h => by
    rw [TkA] at h
    exact h.elim
  | t :: l, i, j, h => by
    rw [TkA] at h
    rcases h with h | h
    · exact tk_range x t i j h
    · exact tkA_range x l i j h
theorem tkH_range (x : Tx) : ∀ (l : List Tr) (i j : Nat), TkH x l i j → i ≤ j ∧ (i ≤ x.len → j ≤ x.len)
  | [], i, j, h => by
    rw [TkH] at h
    exact h.elim
  | t :: _, i, j, h => by
    rw [TkH] at h
    exact tk_range x t i j h
end
end Go.Proofs.Ytfilndgbgdnpiaa.nb
