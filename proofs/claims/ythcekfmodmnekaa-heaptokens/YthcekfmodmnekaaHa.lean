/-
  Plain: a heap as a list: the item i is not ahead of the item (i - 1) / 2; one more is put, the first is taken.
-/
import Derived.Test.YthcekfmodmnekaaRows
namespace Go.Proofs.Ythcekfmodmnekaa.hp
set_option linter.unusedVariables false

structure Lt {α : Type} (lt : α → α → Bool) : Prop where
  tr : ∀ a b c, lt b a = false → lt c b = false → lt c a = false
  asym : ∀ a b, lt a b = true → lt b a = false
section
variable {α : Type} {lt : α → α → Bool}
theorem Lt.irr (h : Lt lt) (a : α) : lt a a = false := by
  cases e : lt a a with
  | false => rfl
  | true => have := h.asym a a e; rw [e] at this; exact this

def Heap (lt : α → α → Bool) (l : List α) : Prop := ∀ i a b, 0 < i → l[i]? = some a → l[(i - 1) / 2]? = some b → lt a b = false
theorem Heap.nil : Heap lt ([] : List α) := fun i a b _ h => by simp at h
theorem Heap.least (o : Lt lt) {l : List α} (h : Heap lt l) {b : α} (hb : l[0]? = some b) : ∀ (i : Nat) (a : α), l[i]? = some a → lt a b = false := by
  intro i
  induction i using Nat.strongRecOn with
  | _ i ih =>
    intro a ha
    by_cases h0 : i = 0
    · subst h0
      rw [hb] at ha
      cases ha
      exact o.irr _
    · have hl := (List.getElem?_eq_some_iff.1 ha).1
      have hp : (i - 1) / 2 < l.length := by omega
      have e := List.getElem?_eq_getElem hp
      exact o.tr _ _ _ (ih ((i - 1) / 2) (by omega) _ e) (h i a _ (by omega) ha e)

theorem set_get (l : List α) (i j : Nat) (x : α) (hi : i < l.length) : (l.set i x)[j]? = if i = j then some x else l[j]? := by
  rw [List.getElem?_set, if_pos hi]
theorem swap_perm (l : List α) (i j : Nat) (x y : α) (hi : i < l.length) (hij : i ≠ j) (hy : l[j]? = some y) : ((l.set i y).set j x).Perm (l.set i x) := by
  have hj := (List.getElem?_eq_some_iff.1 hy).1
  have hm : i < (l.set i x).length := by simpa using hi
  have hm2 : j < (l.set i x).length := by simpa using hj
  have h := List.set_set_perm hm hm2
  have e1 : (l.set i x)[j] = y := by
    have : (l.set i x)[j]? = some y := by rw [set_get l i j x hi, if_neg hij]; exact hy
    exact (List.getElem?_eq_some_iff.1 this).2
  have e2 : (l.set i x)[i] = x := by simp
  rw [e1, e2, List.set_set] at h
  exact h

/-- x goes up: a hole stands at `at` -/
structure Up (lt : α → α → Bool) (l : List α) (at_ : Nat) (x : α) : Prop where
  here : at_ < l.length
  e1 : ∀ i a b, 0 < i → i ≠ at_ → (l.set at_ x)[i]? = some a → (l.set at_ x)[(i - 1) / 2]? = some b → lt a b = false
  e2 : 0 < at_ → ∀ c a b, 0 < c → (c - 1) / 2 = at_ → (l.set at_ x)[c]? = some a → (l.set at_ x)[(at_ - 1) / 2]? = some b → lt a b = false
theorem Up.start {l : List α} (h : Heap lt l) (x : α) : Up lt (l ++ [x]) l.length x := by
  have e : (l ++ [x]).set l.length x = l ++ [x] := by simp
  refine ⟨by simp, fun i a b h0 hi ha hb => ?_, fun h0 c a b hc hp ha hb => ?_⟩
  · rw [e] at ha hb
    have hl := (List.getElem?_eq_some_iff.1 ha).1
    simp at hl
    rw [List.getElem?_append_left (by omega)] at ha hb
    exact h i a b h0 ha hb
  · rw [e] at ha
    have hl := (List.getElem?_eq_some_iff.1 ha).1
    simp at hl
    omega
theorem Up.step (o : Lt lt) {l : List α} {k : Nat} {x y : α} (h : Up lt l k x) (h0 : 0 < k) (hy : l[(k - 1) / 2]? = some y) (ht : lt x y = true) : Up lt (l.set k y) ((k - 1) / 2) x ∧ ((l.set k y).set ((k - 1) / 2) x).Perm (l.set k x) := by
  have hk := h.here
  have hp : (k - 1) / 2 < l.length := by omega
  have hne : k ≠ (k - 1) / 2 := by omega
  generalize hq : (k - 1) / 2 = p at *
  have g' : ∀ j, ((l.set k y).set p x)[j]? = if p = j then some x else if k = j then some y else l[j]? := fun j => by
    rw [set_get _ _ _ _ (by simpa using hp), set_get _ _ _ _ hk]
  have g : ∀ j, (l.set k x)[j]? = if k = j then some x else l[j]? := fun j => set_get _ _ _ _ hk
  have yx := o.asym _ _ ht
  refine ⟨⟨by simpa using hp, fun i a b i0 ip ha hb => ?_, fun p0 c a b c0 cp ha hb => ?_⟩, swap_perm l k p x y hk hne hy⟩
  · rw [g'] at ha hb
    rw [if_neg (Ne.symm ip)] at ha
    by_cases hik : k = i
    · subst hik
      rw [if_pos rfl] at ha
      rw [hq, if_pos rfl] at hb
      cases ha; cases hb
      exact yx
    · rw [if_neg hik] at ha
      have ga : (l.set k x)[i]? = some a := by rw [g, if_neg hik]; exact ha
      by_cases h1 : p = (i - 1) / 2
      · rw [if_pos h1] at hb
        cases hb
        have := h.e1 i a y i0 (Ne.symm hik) ga (by rw [g, ← h1, if_neg hne]; exact hy)
        exact o.tr _ _ _ yx this
      · rw [if_neg h1] at hb
        by_cases h2 : k = (i - 1) / 2
        · rw [if_pos h2] at hb
          cases hb
          exact h.e2 h0 i a y i0 h2.symm ga (by rw [hq, g, if_neg hne]; exact hy)
        · rw [if_neg h2] at hb
          exact h.e1 i a b i0 (Ne.symm hik) ga (by rw [g, if_neg h2]; exact hb)
  · rw [g'] at ha hb
    have n1 : ¬ p = c := by omega
    have n2 : ¬ p = (p - 1) / 2 := by omega
    have n3 : ¬ k = (p - 1) / 2 := by omega
    rw [if_neg n1] at ha
    rw [if_neg n2, if_neg n3] at hb
    have yb : lt y b = false := h.e1 p y b p0 (Ne.symm hne) (by rw [g, if_neg hne]; exact hy) (by rw [g, if_neg n3]; exact hb)
    by_cases hck : k = c
    · rw [if_pos hck] at ha
      cases ha
      exact yb
    · rw [if_neg hck] at ha
      have := h.e1 c a y c0 (Ne.symm hck) (by rw [g, if_neg hck]; exact ha) (by rw [cp, g, if_neg hne]; exact hy)
      exact o.tr _ _ _ yb this
theorem Up.stop {l : List α} {k : Nat} {x : α} (h : Up lt l k x) (hs : k = 0 ∨ ∃ y, l[(k - 1) / 2]? = some y ∧ lt x y = false) : Heap lt (l.set k x) := by
  intro i a b h0 ha hb
  by_cases hi : i = k
  · subst hi
    rcases hs with h1 | ⟨y, hy, ht⟩
    · omega
    · rw [set_get _ _ _ _ h.here, if_pos rfl] at ha
      rw [set_get _ _ _ _ h.here, if_neg (by omega), hy] at hb
      cases ha; cases hb
      exact ht
  · exact h.e1 i a b h0 hi ha hb

/-- which one of the two below may come up -/
def kidOf (lt : α → α → Bool) (l : List α) (k : Nat) : Nat :=
  if l.length ≤ 2 * k + 1 then 0
  else match l[2 * k + 2]?, l[2 * k + 1]? with
    | some a, some b => if lt a b then 2 * k + 2 else 2 * k + 1
    | _, _ => 2 * k + 1
theorem kid_none {l : List α} {k : Nat} (h : l.length ≤ 2 * k + 1) : kidOf lt l k = 0 := by simp [kidOf, h]
theorem kid_one {l : List α} {k : Nat} (h : ¬ l.length ≤ 2 * k + 1) (h2 : ¬ 2 * k + 2 < l.length) : kidOf lt l k = 2 * k + 1 := by
  have : l[2 * k + 2]? = none := List.getElem?_eq_none (by omega)
  simp [kidOf, h, this]
theorem kid_two {l : List α} {k : Nat} (h2 : 2 * k + 2 < l.length) : kidOf lt l k = if lt (l[2 * k + 2]'h2) (l[2 * k + 1]'(by omega)) = true then 2 * k + 2 else 2 * k + 1 := by
  have h : ¬ l.length ≤ 2 * k + 1 := by omega
  have e1 := List.getElem?_eq_getElem h2
  have e2 := List.getElem?_eq_getElem (show 2 * k + 1 < l.length by omega)
  simp only [kidOf, h, if_false, e1, e2]
theorem kid_lt {l : List α} {k : Nat} (h : 0 < kidOf lt l k) : kidOf lt l k < l.length ∧ k < kidOf lt l k ∧ (kidOf lt l k - 1) / 2 = k := by
  by_cases h1 : l.length ≤ 2 * k + 1
  · rw [kid_none h1] at h; omega
  · by_cases h2 : 2 * k + 2 < l.length
    · rw [kid_two h2]
      split <;> omega
    · rw [kid_one h1 h2]; omega
theorem kid_best (o : Lt lt) {l : List α} {k : Nat} {c : α} (h : 0 < kidOf lt l k) (hc : l[kidOf lt l k]? = some c) {i : Nat} {a : α} (i0 : 0 < i) (hi : (i - 1) / 2 = k) (ha : l[i]? = some a) : lt a c = false := by
  have hl := (List.getElem?_eq_some_iff.1 ha).1
  have h1 : ¬ l.length ≤ 2 * k + 1 := by omega
  by_cases h2 : 2 * k + 2 < l.length
  · have e1 := List.getElem?_eq_getElem h2
    have e2 := List.getElem?_eq_getElem (show 2 * k + 1 < l.length by omega)
    rw [kid_two h2] at hc
    split at hc
    · rename_i ht
      rw [e1] at hc
      cases hc
      rcases (show i = 2 * k + 1 ∨ i = 2 * k + 2 by omega) with rfl | rfl
      · rw [e2] at ha
        cases ha
        exact o.asym _ _ ht
      · rw [e1] at ha
        cases ha
        exact o.irr _
    · rename_i ht
      rw [e2] at hc
      cases hc
      rcases (show i = 2 * k + 1 ∨ i = 2 * k + 2 by omega) with rfl | rfl
      · rw [e2] at ha
        cases ha
        exact o.irr _
      · rw [e1] at ha
        cases ha
        exact eq_false_of_ne_true ht
  · rw [kid_one h1 h2] at hc
    have : i = 2 * k + 1 := by omega
    subst this
    rw [hc] at ha
    cases ha
    exact o.irr _

/-- x goes down: a hole stands at `at` -/
structure Dn (lt : α → α → Bool) (l : List α) (at_ : Nat) (x : α) : Prop where
  here : at_ < l.length
  e1 : ∀ i a b, 0 < i → (i - 1) / 2 ≠ at_ → (l.set at_ x)[i]? = some a → (l.set at_ x)[(i - 1) / 2]? = some b → lt a b = false
  e2 : 0 < at_ → ∀ c a b, 0 < c → (c - 1) / 2 = at_ → (l.set at_ x)[c]? = some a → (l.set at_ x)[(at_ - 1) / 2]? = some b → lt a b = false
theorem Dn.start {l : List α} (h : Heap lt l) (x z : α) (m : List α) (hl : l = m ++ [z]) (h0 : 0 < m.length) : Dn lt m 0 x := by
  subst hl
  have pre : ∀ (i : Nat) a, i ≠ 0 → (m.set 0 x)[i]? = some a → (m ++ [z])[i]? = some a := fun i a i0 ha => by
    rw [set_get _ _ _ _ h0, if_neg (Ne.symm i0)] at ha
    have := (List.getElem?_eq_some_iff.1 ha).1
    rw [List.getElem?_append_left this]
    exact ha
  exact ⟨h0, fun i a b i0 ip ha hb => h i a b i0 (pre i a (by omega) ha) (pre _ b ip hb), fun h => absurd h (by omega)⟩
theorem Dn.step (o : Lt lt) {l : List α} {k : Nat} {x y : α} (h : Dn lt l k x) (h0 : 0 < kidOf lt l k) (hy : l[kidOf lt l k]? = some y) (ht : lt y x = true) : Dn lt (l.set k y) (kidOf lt l k) x ∧ ((l.set k y).set (kidOf lt l k) x).Perm (l.set k x) := by
  have hk := h.here
  obtain ⟨k1, k2, k3⟩ := kid_lt h0
  have best : ∀ i a, 0 < i → (i - 1) / 2 = k → l[i]? = some a → lt a y = false := fun i a i0 hi ha => kid_best o h0 hy i0 hi ha
  generalize kidOf lt l k = p at *
  have hne : k ≠ p := by omega
  have g' : ∀ j, ((l.set k y).set p x)[j]? = if p = j then some x else if k = j then some y else l[j]? := fun j => by
    rw [set_get _ _ _ _ (by simpa using k1), set_get _ _ _ _ hk]
  have g : ∀ j, (l.set k x)[j]? = if k = j then some x else l[j]? := fun j => set_get _ _ _ _ hk
  have xy := o.asym _ _ ht
  refine ⟨⟨by simpa using k1, fun i a b i0 ip ha hb => ?_, fun p0 c a b c0 cp ha hb => ?_⟩, swap_perm l k p x y hk hne hy⟩
  · rw [g'] at ha hb
    rw [if_neg (Ne.symm ip)] at hb
    by_cases hik : k = (i - 1) / 2
    · rw [if_pos hik] at hb
      cases hb
      by_cases hpi : p = i
      · rw [if_pos hpi] at ha
        cases ha
        exact xy
      · rw [if_neg hpi, if_neg (by omega)] at ha
        exact best i a i0 hik.symm ha
    · rw [if_neg hik] at hb
      rw [if_neg (by intro e; subst e; omega)] at ha
      have gb : (l.set k x)[(i - 1) / 2]? = some b := by rw [g, if_neg hik]; exact hb
      by_cases hki : k = i
      · rw [if_pos hki] at ha
        cases ha
        subst hki
        exact h.e2 i0 p y b h0 k3 (by rw [g, if_neg hne]; exact hy) gb
      · rw [if_neg hki] at ha
        exact h.e1 i a b i0 (Ne.symm hik) (by rw [g, if_neg hki]; exact ha) gb
  · rw [g'] at ha hb
    rw [if_neg (by omega), if_neg (by omega)] at ha
    rw [k3, if_neg (Ne.symm hne), if_pos rfl] at hb
    cases hb
    exact h.e1 c a y c0 (by omega) (by rw [g, if_neg (by omega)]; exact ha) (by rw [cp, g, if_neg hne]; exact hy)
theorem Dn.stop (o : Lt lt) {l : List α} {k : Nat} {x : α} (h : Dn lt l k x) (hs : kidOf lt l k = 0 ∨ (0 < kidOf lt l k ∧ ∃ y, l[kidOf lt l k]? = some y ∧ lt y x = false)) : Heap lt (l.set k x) := by
  have hk := h.here
  intro i a b i0 ha hb
  by_cases hi : (i - 1) / 2 = k
  · rw [set_get _ _ _ _ hk, if_pos hi.symm] at hb
    rw [set_get _ _ _ _ hk, if_neg (by omega)] at ha
    cases hb
    rcases hs with h1 | ⟨h1, y, hy, ht⟩
    · exfalso
      have hl := (List.getElem?_eq_some_iff.1 ha).1
      have n1 : ¬ l.length ≤ 2 * k + 1 := by omega
      by_cases n2 : 2 * k + 2 < l.length
      · rw [kid_two n2] at h1
        split at h1 <;> omega
      · rw [kid_one n1 n2] at h1; omega
    · exact o.tr _ _ _ ht (kid_best o h1 hy i0 hi ha)
  · exact h.e1 i a b i0 hi ha hb
end
end Go.Proofs.Ythcekfmodmnekaa.hp
