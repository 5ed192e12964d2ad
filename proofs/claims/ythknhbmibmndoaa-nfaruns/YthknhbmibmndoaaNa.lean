/-
  Plain mathematics: what is reached over Free edges; the edges of a state, one behind the other.
-/
import Derived.Test.YthknhbmibmndoaaNf
namespace Go.Proofs.Ythknhbmibmndoaa.nf
set_option linter.unusedVariables false

inductive Reach (x : Nfa) (P : Int → Prop) : Int → Prop
  | base {t : Int} : P t → Reach x P t
  | step {e : Ed} : Reach x P e.fr → e ∈ x.edges → e.free = true → Reach x P e.to
theorem Reach.mono {x : Nfa} {P Q : Int → Prop} (h : ∀ t, P t → Q t) {t : Int} (r : Reach x P t) : Reach x Q t := by
  induction r with
  | base h1 => exact .base (h _ h1)
  | step _ h1 h2 ih => exact .step ih h1 h2
theorem Reach.least {x : Nfa} {P Q : Int → Prop} (h : ∀ t, P t → Q t) (hc : ∀ e ∈ x.edges, e.free = true → Q e.fr → Q e.to) {t : Int} (r : Reach x P t) : Q t := by
  induction r with
  | base h1 => exact h _ h1
  | step _ h1 h2 ih => exact hc _ h1 h2 ih
theorem Reach.twice {x : Nfa} {P : Int → Prop} {t : Int} (r : Reach x (Reach x P) t) : Reach x P t := r.least (fun _ h => h) (fun e h1 h2 h3 => .step h3 h1 h2)

/-- the last place below i at which an edge goes from s; -1 if there is none -/
def before (l : List Ed) : Nat → Int → Int
  | 0, _ => -1
  | i + 1, s => if (l[i]?.map (·.fr)) = some s then (i : Int) else before l i s
/-- the edges below i that go from s, the last one first -/
def chainOf (l : List Ed) : Nat → Int → List Ed
  | 0, _ => []
  | i + 1, s => match l[i]? with
    | some e => if e.fr = s then e :: chainOf l i s else chainOf l i s
    | none => chainOf l i s
theorem before_lt (l : List Ed) (s : Int) : ∀ i, -1 ≤ before l i s ∧ before l i s < (i : Int) ∨ i = 0 ∧ before l i s = -1
  | 0 => .inr ⟨rfl, rfl⟩
  | i + 1 => .inl (by
    unfold before
    split
    · omega
    · rcases before_lt l s i with h | h <;> omega)
theorem before_range (l : List Ed) (s : Int) (i : Nat) : -1 ≤ before l i s ∧ before l i s < (i : Int) ∨ before l i s = -1 := by
  rcases before_lt l s i with h | h
  · exact .inl h
  · exact .inr h.2
theorem chain_none (l : List Ed) (s : Int) : ∀ i, before l i s = -1 → chainOf l i s = []
  | 0, _ => rfl
  | i + 1, h => by
    unfold before at h
    unfold chainOf
    split at h
    · omega
    · rename_i hne
      split
      · rename_i e he
        rw [he] at hne
        simp at hne
        rw [if_neg hne]
        exact chain_none l s i h
      · exact chain_none l s i h
theorem chain_succ (l : List Ed) (s : Int) (i : Nat) (h : i < l.length) : chainOf l (i + 1) s = if l[i].fr = s then l[i] :: chainOf l i s else chainOf l i s := by
  show (match l[i]? with | some e => if e.fr = s then e :: chainOf l i s else chainOf l i s | none => chainOf l i s) = _
  rw [List.getElem?_eq_getElem h]
theorem chain_some (l : List Ed) (s : Int) (j : Nat) : ∀ i, i ≤ l.length → before l i s = (j : Int) → ∃ h : j < l.length, j < i ∧ l[j].fr = s ∧ chainOf l i s = l[j] :: chainOf l j s
  | 0, _, h => by simp [before] at h
  | i + 1, hi, h => by
    unfold before at h
    rw [chain_succ l s i (by omega)]
    rw [List.getElem?_eq_getElem (by omega)] at h
    simp only [Option.map_some, Option.some.injEq] at h
    split at h
    · rename_i he
      have e : i = j := by omega
      subst e
      exact ⟨by omega, by omega, he, by rw [if_pos he]⟩
    · rename_i he
      obtain ⟨h1, h2, h3, h4⟩ := chain_some l s j i (by omega) h
      exact ⟨h1, by omega, h3, by rw [if_neg he]; exact h4⟩
theorem mem_chain (l : List Ed) (s : Int) (e : Ed) : ∀ i, i ≤ l.length → (e ∈ chainOf l i s ↔ e ∈ l.take i ∧ e.fr = s)
  | 0, _ => by simp [chainOf]
  | i + 1, hi => by
    unfold chainOf
    rw [List.take_succ_eq_append_getElem (by omega), List.getElem?_eq_getElem (by omega)]
    have ih := mem_chain l s e i (by omega)
    simp only [List.mem_append, List.mem_singleton]
    by_cases he : l[i].fr = s
    · rw [if_pos he, List.mem_cons, ih]
      constructor
      · rintro (rfl | h)
        · exact ⟨.inr rfl, he⟩
        · exact ⟨.inl h.1, h.2⟩
      · rintro ⟨h | h, h2⟩
        · exact .inr ⟨h, h2⟩
        · exact .inl h
    · rw [if_neg he, ih]
      constructor
      · rintro ⟨h, h2⟩
        exact ⟨.inl h, h2⟩
      · rintro ⟨h | h, h2⟩
        · exact ⟨h, h2⟩
        · subst h; exact absurd h2 he
theorem mem_chain_all (l : List Ed) (s : Int) (e : Ed) : e ∈ chainOf l l.length s ↔ e ∈ l ∧ e.fr = s := by
  rw [mem_chain l s e l.length (Nat.le_refl _), List.take_length]
theorem chain_len (l : List Ed) (s : Int) : ∀ i, (chainOf l i s).length ≤ i
  | 0 => by simp [chainOf]
  | i + 1 => by
    unfold chainOf
    have := chain_len l s i
    split
    · split
      · simp; omega
      · omega
    · omega
theorem before_other (l : List Ed) (i : Nat) (s : Int) (h : i < l.length) (he : l[i].fr ≠ s) : before l (i + 1) s = before l i s := by
  show (if (l[i]?.map (·.fr)) = some s then (i : Int) else before l i s) = _
  rw [List.getElem?_eq_getElem h, if_neg (by simpa using he)]
theorem before_here (l : List Ed) (i : Nat) (h : i < l.length) : before l (i + 1) l[i].fr = (i : Int) := by
  show (if (l[i]?.map (·.fr)) = some l[i].fr then (i : Int) else before l i l[i].fr) = _
  rw [List.getElem?_eq_getElem h, if_pos (by simp)]
end Go.Proofs.Ythknhbmibmndoaa.nf
