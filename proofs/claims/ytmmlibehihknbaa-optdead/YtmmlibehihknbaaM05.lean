/-
  Texts put together: Plain: a heap as a list: the item i is not ahead of the item (i - 1) / 2; one more is put, the first is taken. Over this program: a pile of numbers in memory; which one of the two below may come up (pile.kid). Over this program: a number more in a pile (pile.put). Over this program: a pile of pairs in memory; which of two comes ahead (pair.ahead), which one of the two below may come up (pile.kid).
-/
import Derived.Test.YtmmlibehihknbaaRows
import Derived.WalkKit
import Derived.ChangeAt
import Derived.Below
import Derived.Laws.Rows
import Derived.Laws.OwnMore
import Derived.WalkLawsBesides
import Derived.Deep.QuietTactic
import Derived.Deep.RegionHeld3
import Derived.WalkSmall
import Derived.BigQuiet
import Derived.Test.YtmmlibehihknbaaM00
import Derived.Lib.QuietBelow
namespace Go.Proofs.Ytmmlibehihknbaa.hp
set_option linter.unusedVariables false

structure Lt {α : Type} (lt : α → α → Bool) : Prop where
  tr : ∀ a b c, lt b a = false → lt c b = false → lt c a = false
  asym : ∀ a b, lt a b = true → lt b a = false
section
variable {α : Type} {lt : α → α → Bool}
theorem Lt.irr (h : Lt lt) (a : α) : lt a a = false := by
  cases e : lt a a with
  | false => rfl
  | true => have := h.asym a a e; rw [e] at this; exact this

def Heap (lt : α → α → Bool) (l : List α) : Prop := ∀ i a b, 0 < i → l[i]? = some a → l[(i - 1) / 2]? = some b → lt a b = false
theorem Heap.nil : Heap lt ([] : List α) := fun i a b _ h => by simp at h
theorem Heap.least (o : Lt lt) {l : List α} (h : Heap lt l) {b : α} (hb : l[0]? = some b) : ∀ (i : Nat) (a : α), l[i]? = some a → lt a b = false := by
  intro i
  induction i using Nat.strongRecOn with
  | _ i ih =>
    intro a ha
    by_cases h0 : i = 0
    · subst h0
      rw [hb] at ha
      cases ha
      exact o.irr _
    · have hl := (List.getElem?_eq_some_iff.1 ha).1
      have hp : (i - 1) / 2 < l.length := by omega
      have e := List.getElem?_eq_getElem hp
      exact o.tr _ _ _ (ih ((i - 1) / 2) (by omega) _ e) (h i a _ (by omega) ha e)

theorem set_get (l : List α) (i j : Nat) (x : α) (hi : i < l.length) : (l.set i x)[j]? = if i = j then some x else l[j]? := by
  rw [List.getElem?_set, if_pos hi]
theorem swap_perm (l : List α) (i j : Nat) (x y : α) (hi : i < l.length) (hij : i ≠ j) (hy : l[j]? = some y) : ((l.set i y).set j x).Perm (l.set i x) := by
  have hj := (List.getElem?_eq_some_iff.1 hy).1
  have hm : i < (l.set i x).length := by simpa using hi
  have hm2 : j < (l.set i x).length := by simpa using hj
  have h := List.set_set_perm hm hm2
  have e1 : (l.set i x)[j] = y := by
    have : (l.set i x)[j]? = some y := by rw [set_get l i j x hi, if_neg hij]; exact hy
    exact (List.getElem?_eq_some_iff.1 this).2
  have e2 : (l.set i x)[i] = x := by simp
  rw [e1, e2, List.set_set] at h
  exact h

/-- x goes up: a hole stands at `at` -/
structure Up (lt : α → α → Bool) (l : List α) (at_ : Nat) (x : α) : Prop where
  here : at_ < l.length
  e1 : ∀ i a b, 0 < i → i ≠ at_ → (l.set at_ x)[i]? = some a → (l.set at_ x)[(i - 1) / 2]? = some b → lt a b = false
  e2 : 0 < at_ → ∀ c a b, 0 < c → (c - 1) / 2 = at_ → (l.set at_ x)[c]? = some a → (l.set at_ x)[(at_ - 1) / 2]? = some b → lt a b = false
theorem Up.start {l : List α} (h : Heap lt l) (x : α) : Up lt (l ++ [x]) l.length x := by
  have e : (l ++ [x]).set l.length x = l ++ [x] := by simp
  refine ⟨by simp, fun i a b h0 hi ha hb => ?_, fun h0 c a b hc hp ha hb => ?_⟩
  · rw [e] at ha hb
    have hl := (List.getElem?_eq_some_iff.1 ha).1
    simp at hl
    rw [List.getElem?_append_left (by omega)] at ha hb
    exact h i a b h0 ha hb
  · rw [e] at ha
    have hl := (List.getElem?_eq_some_iff.1 ha).1
    simp at hl
    omega
theorem Up.step (o : Lt lt) {l : List α} {k : Nat} {x y : α} (h : Up lt l k x) (h0 : 0 < k) (hy : l[(k - 1) / 2]? = some y) (ht : lt x y = true) : Up lt (l.set k y) ((k - 1) / 2) x ∧ ((l.set k y).set ((k - 1) / 2) x).Perm (l.set k x) := by
  have hk := h.here
  have hp : (k - 1) / 2 < l.length := by omega
  have hne : k ≠ (k - 1) / 2 := by omega
  generalize hq : (k - 1) / 2 = p at *
  have g' : ∀ j, ((l.set k y).set p x)[j]? = if p = j then some x else if k = j then some y else l[j]? := fun j => by
    rw [set_get _ _ _ _ (by simpa using hp), set_get _ _ _ _ hk]
  have g : ∀ j, (l.set k x)[j]? = if k = j then some x else l[j]? := fun j => set_get _ _ _ _ hk
  have yx := o.asym _ _ ht
  refine ⟨⟨by simpa using hp, fun i a b i0 ip ha hb => ?_, fun p0 c a b c0 cp ha hb => ?_⟩, swap_perm l k p x y hk hne hy⟩
  · rw [g'] at ha hb
    rw [if_neg (Ne.symm ip)] at ha
    by_cases hik : k = i
    · subst hik
      rw [if_pos rfl] at ha
      rw [hq, if_pos rfl] at hb
      cases ha; cases hb
      exact yx
    · rw [if_neg hik] at ha
      have ga : (l.set k x)[i]? = some a := by rw [g, if_neg hik]; exact ha
      by_cases h1 : p = (i - 1) / 2
      · rw [if_pos h1] at hb
        cases hb
        have := h.e1 i a y i0 (Ne.symm hik) ga (by rw [g, ← h1, if_neg hne]; exact hy)
        exact o.tr _ _ _ yx this
      · rw [if_neg h1] at hb
        by_cases h2 : k = (i - 1) / 2
        · rw [if_pos h2] at hb
          cases hb
          exact h.e2 h0 i a y i0 h2.symm ga (by rw [hq, g, if_neg hne]; exact hy)
        · rw [if_neg h2] at hb
          exact h.e1 i a b i0 (Ne.symm hik) ga (by rw [g, if_neg h2]; exact hb)
  · rw [g'] at ha hb
    have n1 : ¬ p = c := by omega
    have n2 : ¬ p = (p - 1) / 2 := by omega
    have n3 : ¬ k = (p - 1) / 2 := by omega
    rw [if_neg n1] at ha
    rw [if_neg n2, if_neg n3] at hb
    have yb : lt y b = false := h.e1 p y b p0 (Ne.symm hne) (by rw [g, if_neg hne]; exact hy) (by rw [g, if_neg n3]; exact hb)
    by_cases hck : k = c
    · rw [if_pos hck] at ha
      cases ha
      exact yb
    · rw [if_neg hck] at ha
      have := h.e1 c a y c0 (Ne.symm hck) (by rw [g, if_neg hck]; exact ha) (by rw [cp, g, if_neg hne]; exact hy)
      exact o.tr _ _ _ yb this
theorem Up.stop {l : List α} {k : Nat} {x : α} (h : Up lt l k x) (hs : k = 0 ∨ ∃ y, l[(k - 1) / 2]? = some y ∧ lt x y = false) : Heap lt (l.set k x) := by
  intro i a b h0 ha hb
  by_cases hi : i = k
  · subst hi
    rcases hs with h1 | ⟨y, hy, ht⟩
    · omega
    · rw [set_get _ _ _ _ h.here, if_pos rfl] at ha
      rw [set_get _ _ _ _ h.here, if_neg (by omega), hy] at hb
      cases ha; cases hb
      exact ht
  · exact h.e1 i a b h0 hi ha hb

/-- which one of the two below may come up -/
def kidOf (lt : α → α → Bool) (l : List α) (k : Nat) : Nat :=
  if l.length ≤ 2 * k + 1 then 0
  else match l[2 * k + 2]?, l[2 * k + 1]? with
    | some a, some b => if lt a b then 2 * k + 2 else 2 * k + 1
    | _, _ => 2 * k + 1
theorem kid_none {l : List α} {k : Nat} (h : l.length ≤ 2 * k + 1) : kidOf lt l k = 0 := by simp [kidOf, h]
theorem kid_one {l : List α} {k : Nat} (h : ¬ l.length ≤ 2 * k + 1) (h2 : ¬ 2 * k + 2 < l.length) : kidOf lt l k = 2 * k + 1 := by
  have : l[2 * k + 2]? = none := List.getElem?_eq_none (by omega)
  simp [kidOf, h, this]
theorem kid_two {l : List α} {k : Nat} (h2 : 2 * k + 2 < l.length) : kidOf lt l k = if lt (l[2 * k + 2]'h2) (l[2 * k + 1]'(by omega)) = true then 2 * k + 2 else 2 * k + 1 := by
  have h : ¬ l.length ≤ 2 * k + 1 := by omega
  have e1 := List.getElem?_eq_getElem h2
  have e2 := List.getElem?_eq_getElem (show 2 * k + 1 < l.length by omega)
  simp only [kidOf, h, if_false, e1, e2]
theorem kid_lt {l : List α} {k : Nat} (h : 0 < kidOf lt l k) : kidOf lt l k < l.length ∧ k < kidOf lt l k ∧ (kidOf lt l k - 1) / 2 = k := by
  by_cases h1 : l.length ≤ 2 * k + 1
  · rw [kid_none h1] at h; omega
  · by_cases h2 : 2 * k + 2 < l.length
    · rw [kid_two h2]
      split <;> omega
    · rw [kid_one h1 h2]; omega
theorem kid_best (o : Lt lt) {l : List α} {k : Nat} {c : α} (h : 0 < kidOf lt l k) (hc : l[kidOf lt l k]? = some c) {i : Nat} {a : α} (i0 : 0 < i) (hi : (i - 1) / 2 = k) (ha : l[i]? = some a) : lt a c = false := by
  have hl := (List.getElem?_eq_some_iff.1 ha).1
  have h1 : ¬ l.length ≤ 2 * k + 1 := by omega
  by_cases h2 : 2 * k + 2 < l.length
  · have e1 := List.getElem?_eq_getElem h2
    have e2 := List.getElem?_eq_getElem (show 2 * k + 1 < l.length by omega)
    rw [kid_two h2] at hc
    split at hc
    · rename_i ht
      rw [e1] at hc
      cases hc
      rcases (show i = 2 * k + 1 ∨ i = 2 * k + 2 by omega) with rfl | rfl
      · rw [e2] at ha
        cases ha
        exact o.asym _ _ ht
      · rw [e1] at ha
        cases ha
        exact o.irr _
    · rename_i ht
      rw [e2] at hc
      cases hc
      rcases (show i = 2 * k + 1 ∨ i = 2 * k + 2 by omega) with rfl | rfl
      · rw [e2] at ha
        cases ha
        exact o.irr _
      · rw [e1] at ha
        cases ha
        exact eq_false_of_ne_true ht
  · rw [kid_one h1 h2] at hc
    have : i = 2 * k + 1 := by omega
    subst this
    rw [hc] at ha
    cases ha
    exact o.irr _

/-- x goes down: a hole stands at `at` -/
structure Dn (lt : α → α → Bool) (l : List α) (at_ : Nat) (x : α) : Prop where
  here : at_ < l.length
  e1 : ∀ i a b, 0 < i → (i - 1) / 2 ≠ at_ → (l.set at_ x)[i]? = some a → (l.set at_ x)[(i - 1) / 2]? = some b → lt a b = false
  e2 : 0 < at_ → ∀ c a b, 0 < c → (c - 1) / 2 = at_ → (l.set at_ x)[c]? = some a → (l.set at_ x)[(at_ - 1) / 2]? = some b → lt a b = false
theorem Dn.start {l : List α} (h : Heap lt l) (x z : α) (m : List α) (hl : l = m ++ [z]) (h0 : 0 < m.length) : Dn lt m 0 x := by
  subst hl
  have pre : ∀ (i : Nat) a, i ≠ 0 → (m.set 0 x)[i]? = some a → (m ++ [z])[i]? = some a := fun i a i0 ha => by
    rw [set_get _ _ _ _ h0, if_neg (Ne.symm i0)] at ha
    have := (List.getElem?_eq_some_iff.1 ha).1
    rw [List.getElem?_append_left this]
    exact ha
  exact ⟨h0, fun i a b i0 ip ha hb => h i a b i0 (pre i a (by omega) ha) (pre _ b ip hb), fun h => absurd h (by omega)⟩
theorem Dn.step (o : Lt lt) {l : List α} {k : Nat} {x y : α} (h : Dn lt l k x) (h0 : 0 < kidOf lt l k) (hy : l[kidOf lt l k]? = some y) (ht : lt y x = true) : Dn lt (l.set k y) (kidOf lt l k) x ∧ ((l.set k y).set (kidOf lt l k) x).Perm (l.set k x) := by
  have hk := h.here
  obtain ⟨k1, k2, k3⟩ := kid_lt h0
  have best : ∀ i a, 0 < i → (i - 1) / 2 = k → l[i]? = some a → lt a y = false := fun i a i0 hi ha => kid_best o h0 hy i0 hi ha
  generalize kidOf lt l k = p at *
  have hne : k ≠ p := by omega
  have g' : ∀ j, ((l.set k y).set p x)[j]? = if p = j then some x else if k = j then some y else l[j]? := fun j => by
    rw [set_get _ _ _ _ (by simpa using k1), set_get _ _ _ _ hk]
  have g : ∀ j, (l.set k x)[j]? = if k = j then some x else l[j]? := fun j => set_get _ _ _ _ hk
  have xy := o.asym _ _ ht
  refine ⟨⟨by simpa using k1, fun i a b i0 ip ha hb => ?_, fun p0 c a b c0 cp ha hb => ?_⟩, swap_perm l k p x y hk hne hy⟩
  · rw [g'] at ha hb
    rw [if_neg (Ne.symm ip)] at hb
    by_cases hik : k = (i - 1) / 2
    · rw [if_pos hik] at hb
      cases hb
      by_cases hpi : p = i
      · rw [if_pos hpi] at ha
        cases ha
        exact xy
      · rw [if_neg hpi, if_neg (by omega)] at ha
        exact best i a i0 hik.symm ha
    · rw [if_neg hik] at hb
      rw [if_neg (by intro e; subst e; omega)] at ha
      have gb : (l.set k x)[(i - 1) / 2]? = some b := by rw [g, if_neg hik]; exact hb
      by_cases hki : k = i
      · rw [if_pos hki] at ha
        cases ha
        subst hki
        exact h.e2 i0 p y b h0 k3 (by rw [g, if_neg hne]; exact hy) gb
      · rw [if_neg hki] at ha
        exact h.e1 i a b i0 (Ne.symm hik) (by rw [g, if_neg hki]; exact ha) gb
  · rw [g'] at ha hb
    rw [if_neg (by omega), if_neg (by omega)] at ha
    rw [k3, if_neg (Ne.symm hne), if_pos rfl] at hb
    cases hb
    exact h.e1 c a y c0 (by omega) (by rw [g, if_neg (by omega)]; exact ha) (by rw [cp, g, if_neg hne]; exact hy)
theorem Dn.stop (o : Lt lt) {l : List α} {k : Nat} {x : α} (h : Dn lt l k x) (hs : kidOf lt l k = 0 ∨ (0 < kidOf lt l k ∧ ∃ y, l[kidOf lt l k]? = some y ∧ lt y x = false)) : Heap lt (l.set k x) := by
  have hk := h.here
  intro i a b i0 ha hb
  by_cases hi : (i - 1) / 2 = k
  · rw [set_get _ _ _ _ hk, if_pos hi.symm] at hb
    rw [set_get _ _ _ _ hk, if_neg (by omega)] at ha
    cases hb
    rcases hs with h1 | ⟨h1, y, hy, ht⟩
    · exfalso
      have hl := (List.getElem?_eq_some_iff.1 ha).1
      have n1 : ¬ l.length ≤ 2 * k + 1 := by omega
      by_cases n2 : 2 * k + 2 < l.length
      · rw [kid_two n2] at h1
        split at h1 <;> omega
      · rw [kid_one n1 n2] at h1; omega
    · exact o.tr _ _ _ ht (kid_best o h1 hy i0 hi ha)
  · exact h.e1 i a b i0 hi ha hb
end
end Go.Proofs.Ytmmlibehihknbaa.hp

namespace Go.Proofs.Ytmmlibehihknbaa.hp
open Go.ChangeShapes Go.WideShapes Go.ChangeAt Go.RowKit
set_option linter.unusedVariables false

abbrev nv (x : Int) : Value := .int .i64 x
abbrev nlt (a b : Int) : Bool := decide (a < b)
theorem nlt_ok : Lt nlt := ⟨fun a b c h1 h2 => by simp [nlt] at *; omega, fun a b h => by simp [nlt] at *; omega⟩
/-- a pile of numbers: the cell that holds its row, the row -/
structure Pil (w : World) (B b off : Nat) (v : Value) (l : List Int) : Prop where
  cell : w.cell? ⟨b, off, none⟩ = some v
  thaw : w.frozen? ⟨b, off, none⟩ = false
  own : w.ownsRow B 168 1 v l.length (l.map nv)
  apart : some b ≠ v.ownBlock
theorem Pil.form {w : World} {B b off : Nat} {v : Value} {l : List Int} (h : Pil w B b off v l) : ∃ g cap, v = .slice g l.length cap ∧ l.length ≤ cap ∧ cap ≤ 9223372036854775807 := by
  rcases h.own.2 with ⟨rfl, h0⟩ | ⟨gg, cap, cur, rfl, hb, _, h1, h2, _⟩
  · exact ⟨_, _, by rw [h0], by omega, by omega⟩
  · exact ⟨_, _, rfl, h1, by unfold maxLen at h2; omega⟩
theorem Pil.at {w : World} {B b off : Nat} {v : Value} {l : List Int} (h : Pil w B b off v l) (i : Nat) (hi : i < l.length) : ∃ g cap, v = .slice (some ⟨g, 0, none⟩) l.length cap ∧ g < w.heap.size ∧ w.cell? ⟨g, i, none⟩ = some (nv l[i]) := by
  rcases h.own.2 with ⟨rfl, h0⟩ | ⟨gg, cap, cur, rfl, hb, hg, h1, h2, h3, h4⟩
  · omega
  · refine ⟨gg, cap, rfl, (Array.getElem?_eq_some_iff.1 hg).1, ?_⟩
    rw [World.ownsRow.cellAt h.own i (by omega)]
    simp [hi]
theorem own_keep {W W' : World} {B e sz n : Nat} {v : Value} {xs : List Value} (h : W.ownsRow B e sz v n xs) (hh : ∀ g, v.ownBlock = some g → W'.heap[g]? = W.heap[g]?) : W'.ownsRow B e sz v n xs := by
  refine ⟨h.1, ?_⟩
  rcases h.2 with h0 | ⟨g, cap, cur, rfl, hb, hg, hr⟩
  · exact .inl h0
  · exact .inr ⟨g, cap, cur, rfl, hb, (hh g rfl).trans hg, hr⟩
theorem Pil.lt {w : World} {B b off : Nat} {v : Value} {l : List Int} (h : Pil w B b off v l) : b < w.heap.size := World.block_lt_of_cell? w ⟨b, off, none⟩ h.cell
theorem Pil.keep {w w' : World} {B b off : Nat} {v : Value} {l : List Int} (h : Pil w B b off v l) (hb : w'.heap[b]? = w.heap[b]?) (hv : ∀ g, v.ownBlock = some g → w'.heap[g]? = w.heap[g]?) : Pil w' B b off v l :=
  ⟨(World.cell?_of_block (a := ⟨b, off, none⟩) hb).trans h.cell, (World.frozen?_of_block (a := ⟨b, off, none⟩) hb).trans h.thaw, own_keep h.own hv, h.apart⟩
theorem Pil.later {w w' : World} {B b off : Nat} {v : Value} {l : List Int} (h : Pil w B b off v l) (hb : Below w.heap.size w w') : Pil w' B b off v l :=
  h.keep (hb.block b h.lt) fun g eg => hb.block g (h.own.lt g eg).2
theorem below_drewN {B : Nat} {a w : World} (h : Below B a w) (n : Nat) : Below B a (w.drewN n) := ⟨h.os, h.tape, h.output, h.size, h.block⟩

end Go.Proofs.Ytmmlibehihknbaa.hp

namespace Go.Proofs.Ytmmlibehihknbaa.hp
open Go.ChangeShapes Go.WideShapes Go.ChangeAt Go.RowKit
set_option linter.unusedVariables false
set_option maxRecDepth 100000

/-- what a call may change: one cell, one row, new blocks -/
structure Mv (w w' : World) (b off : Nat) (r : Option Nat) : Prop where
  os : w'.os = w.os
  tape : w'.tape = w.tape
  output : w'.output = w.output
  size : w.heap.size ≤ w'.heap.size
  block : ∀ k, k < w.heap.size → k ≠ b → some k ≠ r → w'.heap[k]? = w.heap[k]?
  self : ∀ cs t, w.heap[b]? = some (.cells cs t (0, 0)) → ∃ u, w'.heap[b]? = some (.cells (cs.setIfInBounds off u) t (0, 0))
theorem set_twice {α : Type} (cs : Array α) (j : Nat) (u v : α) : (cs.setIfInBounds j u).setIfInBounds j v = cs.setIfInBounds j v := by simp
theorem set_self {α : Type} {cs : Array α} {j : Nat} {u : α} (h : cs[j]? = some u) : cs.setIfInBounds j u = cs := by
  apply Array.ext_getElem?
  intro i
  rw [Array.getElem?_setIfInBounds]
  split
  · rename_i e
    subst e
    have hl := (Array.getElem?_eq_some_iff.1 h).1
    rw [h]; simp [hl]
  · rfl
theorem Mv.refl {w : World} {b off : Nat} {v : Value} {r : Option Nat} (h : w.cell? ⟨b, off, none⟩ = some v) : Mv w w b off r :=
  ⟨rfl, rfl, rfl, Nat.le_refl _, fun _ _ _ _ => rfl, fun cs t hb => ⟨v, by
    rw [hb]
    have : cs[off]? = some v := by rw [← Lib.cell_of_heap hb]; exact h
    rw [set_self this]⟩⟩
theorem Mv.trans {w w1 w2 : World} {b off : Nat} {r r1 : Option Nat} (h1 : Mv w w1 b off r) (h2 : Mv w1 w2 b off r1) (hr : r1 = r ∨ ∀ g, r1 = some g → w.heap.size ≤ g) : Mv w w2 b off r := by
  refine ⟨h2.os.trans h1.os, h2.tape.trans h1.tape, h2.output.trans h1.output, Nat.le_trans h1.size h2.size, fun k hk hb hne => ?_, fun cs t hb => ?_⟩
  · refine (h2.block k (Nat.lt_of_lt_of_le hk h1.size) hb ?_).trans (h1.block k hk hb hne)
    rcases hr with rfl | hr
    · exact hne
    · intro e; have := hr k e.symm; omega
  · obtain ⟨u, hu⟩ := h1.self cs t hb
    obtain ⟨u', hu'⟩ := h2.self _ t hu
    exact ⟨u', by rw [hu', set_twice]⟩
theorem Mv.below {w w1 w2 : World} {b off : Nat} {r : Option Nat} (h1 : Mv w w1 b off r) (h2 : Below w1.heap.size w1 w2) (hb : b < w.heap.size) : Mv w w2 b off r :=
  ⟨h2.os.trans h1.os, h2.tape.trans h1.tape, h2.output.trans h1.output, Nat.le_trans h1.size h2.size, fun k hk hb hne => (h2.block k (Nat.lt_of_lt_of_le hk h1.size)).trans (h1.block k hk hb hne), fun cs t hc => by
    obtain ⟨u, hu⟩ := h1.self cs t hc
    exact ⟨u, (h2.block b (Nat.lt_of_lt_of_le hb h1.size)).trans hu⟩⟩
theorem Mv.drew {w w' : World} {b off : Nat} {r : Option Nat} (h : Mv w w' b off r) : Mv w w'.drew b off r := ⟨h.os, h.tape, h.output, h.size, h.block, h.self⟩
theorem map_set (l : List Int) (j : Nat) (x : Int) : (l.map nv).set j (nv x) = (l.set j x).map nv := by rw [List.map_set]
theorem Pil.len {w : World} {B b off n cap : Nat} {o : Option Addr} {l : List Int} (h : Pil w B b off (.slice o n cap) l) : n = l.length ∧ n ≤ cap ∧ cap ≤ 9223372036854775807 := by
  obtain ⟨_, _, e, h1, h2⟩ := h.form
  cases e
  exact ⟨rfl, h1, h2⟩
theorem Pil.row {w : World} {B b off g n cap : Nat} {l : List Int} (h : Pil w B b off (.slice (some ⟨g, 0, none⟩) n cap) l) {i : Nat} {x : Int} (hx : l[i]? = some x) : w.cell? ⟨g, i, none⟩ = some (nv x) ∧ w.frozen? ⟨g, i, none⟩ = false := by
  obtain ⟨hl, rfl⟩ := List.getElem?_eq_some_iff.1 hx
  have e := h.len.1
  subst e
  obtain ⟨_, _, e, _, hc⟩ := h.at i hl
  cases e
  exact ⟨hc, h.own.frozenAt i⟩
/-- a number is laid at a place of the row -/
theorem Pil.set {w : World} {B b off g n cap : Nat} {l : List Int} (h : Pil w B b off (.slice (some ⟨g, 0, none⟩) n cap) l) (j : Nat) (x : Int) : Pil (w.setCell ⟨g, j, none⟩ (nv x)) B b off (.slice (some ⟨g, 0, none⟩) n cap) (l.set j x) ∧ Mv w (w.setCell ⟨g, j, none⟩ (nv x)) b off (some g) := by
  have hn : n = l.length := by obtain ⟨_, _, e, _⟩ := h.form; cases e; rfl
  subst hn
  obtain ⟨s1, s2⟩ := h.own.stored j (nv x)
  have hbg : b ≠ g := fun e => h.apart (by rw [e]; rfl)
  have hb : (w.setCell ⟨g, j, none⟩ (nv x)).heap[b]? = w.heap[b]? := s2.block b h.lt (fun e => h.apart e)
  refine ⟨⟨(World.cell?_of_block (a := ⟨b, off, none⟩) hb).trans h.cell, (World.frozen?_of_block (a := ⟨b, off, none⟩) hb).trans h.thaw, ?_, h.apart⟩, s2.os, s2.tape, s2.output, s2.size, fun k hk _ hne => s2.block k hk hne, fun cs t hc => ⟨.slice (some ⟨g, 0, none⟩) l.length cap, ?_⟩⟩
  · rw [map_set] at s1
    simpa using s1
  · rw [hb, hc]
    have : cs[off]? = some (.slice (some ⟨g, 0, none⟩) l.length cap) := by rw [← Lib.cell_of_heap hc]; exact h.cell
    rw [set_self this]
/-- the row of a pile with one more, and the pile's cell -/
theorem Pil.more {w w2 : World} {B b off g cap : Nat} {v : Value} {l : List Int} {x : Int} (h : Pil w B b off v l) (hB : B ≤ b)
    (ho : w2.ownsRow B 168 1 (.slice (some ⟨g, 0, none⟩) (l.length + 1) cap) (l.length + 1) (l.map nv ++ [nv x])) (hg : (w.alloc (.cells #[nv x] 168)).grownBy w2 v.ownBlock) (hw : some g = v.ownBlock ∨ (w.alloc (.cells #[nv x] 168)).heap.size ≤ g) :
    Pil (w2.setCell ⟨b, off, none⟩ (.slice (some ⟨g, 0, none⟩) (l.length + 1) cap)) B b off (.slice (some ⟨g, 0, none⟩) (l.length + 1) cap) (l ++ [x]) ∧ Mv w (w2.setCell ⟨b, off, none⟩ (.slice (some ⟨g, 0, none⟩) (l.length + 1) cap)) b off v.ownBlock ∧ w2.cell? ⟨b, off, none⟩ = some v ∧ w2.frozen? ⟨b, off, none⟩ = false := by
  have ba := (Below.refl w.heap.size w).alloc (Nat.le_refl _) (.cells #[nv x] 168)
  have hb2 : w2.heap[b]? = w.heap[b]? := (hg.block b (Nat.lt_of_lt_of_le h.lt ba.size) h.apart).trans (ba.block b h.lt)
  have c2 : w2.cell? ⟨b, off, none⟩ = some v := (World.cell?_of_block (a := ⟨b, off, none⟩) hb2).trans h.cell
  have f2 : w2.frozen? ⟨b, off, none⟩ = false := (World.frozen?_of_block (a := ⟨b, off, none⟩) hb2).trans h.thaw
  have hbg : b ≠ g := by
    intro e
    subst e
    rcases hw with e | e
    · exact h.apart e
    · have := h.lt; have := ba.size; omega
  have oth : ∀ k, k ≠ b → (w2.setCell ⟨b, off, none⟩ (.slice (some ⟨g, 0, none⟩) (l.length + 1) cap)).heap[k]? = w2.heap[k]? := fun k hk => Below.heap_setCell _ _ _ _ hk
  refine ⟨⟨World.cell?_setCell_same w2 ⟨b, off, none⟩ _ c2, by simp [f2], ?_, ?_⟩, ⟨hg.os.trans ba.os, hg.tape.trans ba.tape, hg.output.trans ba.output, ?_, fun k hk hne hr => ?_, fun cs t hc => ⟨.slice (some ⟨g, 0, none⟩) (l.length + 1) cap, ?_⟩⟩, c2, f2⟩
  · have := own_keep ho (W' := w2.setCell ⟨b, off, none⟩ (.slice (some ⟨g, 0, none⟩) (l.length + 1) cap)) fun k e => oth k (by intro e'; subst e'; cases e; exact hbg rfl)
    simpa using this
  · intro e; cases e; exact hbg rfl
  · rw [World.size_setCell]; exact Nat.le_trans ba.size hg.size
  · rw [oth k hne, hg.block k (Nat.lt_of_lt_of_le hk ba.size) hr, ba.block k hk]
  · exact heap_setCell_same w2 b off cs t _ (hb2.trans hc)
end Go.Proofs.Ytmmlibehihknbaa.hp

namespace Go.Proofs.Ytmmlibehihknbaa.pp
open Go.ChangeShapes Go.WideShapes Go.ChangeAt Go.RowKit
open Go.Sort
open hp (Lt Heap Up Dn kidOf kid_none kid_one kid_two kid_lt nv own_keep Mv below_drewN)
set_option linter.unusedVariables false
set_option maxRecDepth 100000

abbrev Pr := Int × Int
abbrev pv (p : Pr) : Value := .agg #[.int .i64 p.1, .int .i64 p.2]
def plt (a b : Pr) : Bool := decide (a.1 < b.1) || (decide (a.1 = b.1) && decide (a.2 < b.2))
theorem plt_ok : Lt plt := by
  refine ⟨fun a b c h1 h2 => ?_, fun a b h => ?_⟩
  · simp [plt] at *
    omega
  · simp [plt] at *
    omega
set_option maxHeartbeats 1000000 in
theorem ahead_pair (a1 a2 b1 b2 : Int) (w : World) : Calls Try.prog 133 #[pv (a1, a2), pv (b1, b2)] w fun e w' => e = .returned (.bool (plt (a1, a2) (b1, b2))) ∧ Below w.heap.size w w' := by
  have hb : Below w.heap.size w ((w.alloc (.cells #[.int .i64 a1, .int .i64 a2] 165)).alloc (.cells #[.int .i64 b1, .int .i64 b2] 165)) := ((Below.refl w.heap.size w).alloc (Nat.le_refl _) _).alloc (by simp) _
  by_cases h1 : a1 < b1
  · have e : plt (a1, a2) (b1, b2) = true := by simp [plt, h1]
    have d1 : decide (a1 < b1) = true := decide_eq_true h1
    rw [e]
    clear e h1
    go_enter Try.func133, Try.ntmps133
    go_wp2_with (fail)
    go_ret
    exact ⟨rfl, hb⟩
  · have d1 : decide (a1 < b1) = false := decide_eq_false h1
    by_cases h2 : a1 = b1
    · subst h2
      have e : plt (a1, a2) (a1, b2) = decide (a2 < b2) := by simp [plt]
      have d2 : (a1 == a1) = true := by simp
      rw [e]
      clear e h1
      go_enter Try.func133, Try.ntmps133
      go_wp2_with (fail)
      go_ret
      exact ⟨rfl, hb⟩
    · have e : plt (a1, a2) (b1, b2) = false := by simp [plt, h2]; omega
      have d2 : (a1 == b1) = false := by simp [h2]
      rw [e]
      clear e h1 h2
      go_enter Try.func133, Try.ntmps133
      go_wp2_with (fail)
      go_ret
      exact ⟨rfl, hb⟩
theorem method_pair (x : Pr) (W : World) : Sem.run Try.prog (method 288 165 (pv x) "fretsaw/heap.ahead") W = .ok (133, pv x) W := by kernel_rfl

/-- pairs as cells -/
def cs2 : List Pr → List Value
  | [] => []
  | p :: l => .int .i64 p.1 :: .int .i64 p.2 :: cs2 l
theorem cs2_len (l : List Pr) : (cs2 l).length = l.length * 2 := by
  induction l with
  | nil => rfl
  | cons p l ih => simp [cs2, ih]; omega
theorem cs2_app (l : List Pr) (p : Pr) : cs2 (l ++ [p]) = cs2 l ++ [.int .i64 p.1, .int .i64 p.2] := by
  induction l with
  | nil => rfl
  | cons q l ih => simp [cs2, ih]
theorem cs2_at : ∀ (l : List Pr) (i : Nat) (p : Pr), l[i]? = some p → (cs2 l)[i * 2]? = some (.int .i64 p.1) ∧ (cs2 l)[i * 2 + 1]? = some (.int .i64 p.2) := by
  intro l
  induction l with
  | nil => intro i p h; simp at h
  | cons q l ih =>
    intro i p h
    cases i with
    | zero => simp at h; subst h; exact ⟨rfl, rfl⟩
    | succ i =>
      simp at h
      have := ih i p h
      rw [show (i + 1) * 2 = i * 2 + 1 + 1 by omega]
      simpa [cs2] using this
theorem cs2_set : ∀ (l : List Pr) (i : Nat) (p : Pr), ((cs2 l).set (i * 2) (.int .i64 p.1)).set (i * 2 + 1) (.int .i64 p.2) = cs2 (l.set i p) := by
  intro l
  induction l with
  | nil => intro i p; simp [cs2]
  | cons q l ih =>
    intro i p
    cases i with
    | zero => simp [cs2]
    | succ i =>
      rw [show (i + 1) * 2 = i * 2 + 1 + 1 by omega]
      simp [cs2, ← ih i p]

/-- a pile of pairs: the cell that holds its row, the row -/
structure Pil (w : World) (B b off : Nat) (v : Value) (l : List Pr) : Prop where
  cell : w.cell? ⟨b, off, none⟩ = some v
  thaw : w.frozen? ⟨b, off, none⟩ = false
  own : w.ownsRow B 165 2 v l.length (cs2 l)
  apart : some b ≠ v.ownBlock
theorem Pil.form {w : World} {B b off : Nat} {v : Value} {l : List Pr} (h : Pil w B b off v l) : ∃ g cap, v = .slice g l.length cap ∧ l.length ≤ cap ∧ cap ≤ 9223372036854775807 := by
  rcases h.own.2 with ⟨rfl, h0⟩ | ⟨gg, cap, cur, rfl, hb, _, h1, h2, _⟩
  · exact ⟨_, _, by rw [h0], by omega, by omega⟩
  · exact ⟨_, _, rfl, h1, by unfold maxLen at h2; omega⟩
theorem Pil.lt {w : World} {B b off : Nat} {v : Value} {l : List Pr} (h : Pil w B b off v l) : b < w.heap.size := World.block_lt_of_cell? w ⟨b, off, none⟩ h.cell
theorem Pil.keep {w w' : World} {B b off : Nat} {v : Value} {l : List Pr} (h : Pil w B b off v l) (hb : w'.heap[b]? = w.heap[b]?) (hv : ∀ g, v.ownBlock = some g → w'.heap[g]? = w.heap[g]?) : Pil w' B b off v l :=
  ⟨(World.cell?_of_block (a := ⟨b, off, none⟩) hb).trans h.cell, (World.frozen?_of_block (a := ⟨b, off, none⟩) hb).trans h.thaw, own_keep h.own hv, h.apart⟩
theorem Pil.later {w w' : World} {B b off : Nat} {v : Value} {l : List Pr} (h : Pil w B b off v l) (hb : Below w.heap.size w w') : Pil w' B b off v l :=
  h.keep (hb.block b h.lt) fun g eg => hb.block g (h.own.lt g eg).2
theorem Pil.len {w : World} {B b off n cap : Nat} {o : Option Addr} {l : List Pr} (h : Pil w B b off (.slice o n cap) l) : n = l.length ∧ n ≤ cap ∧ cap ≤ 9223372036854775807 := by
  obtain ⟨_, _, e, h1, h2⟩ := h.form
  cases e
  exact ⟨rfl, h1, h2⟩
theorem Pil.full {w : World} {B b off : Nat} {v : Value} {l : List Pr} (h : Pil w B b off v l) (h0 : 0 < l.length) : ∃ g cap, v = .slice (some ⟨g, 0, none⟩) l.length cap := by
  rcases h.own.2 with ⟨rfl, h0'⟩ | ⟨gg, cap, cur, rfl, _⟩
  · omega
  · exact ⟨gg, cap, rfl⟩
theorem Pil.row {w : World} {B b off g n cap : Nat} {l : List Pr} (h : Pil w B b off (.slice (some ⟨g, 0, none⟩) n cap) l) {i : Nat} {x : Pr} (hx : l[i]? = some x) : w.cell? ⟨g, i * 2, none⟩ = some (.int .i64 x.1) ∧ w.cell? ⟨g, i * 2 + 1, none⟩ = some (.int .i64 x.2) ∧ (∀ j, w.frozen? ⟨g, j, none⟩ = false) ∧ g < w.heap.size := by
  obtain ⟨hl, -⟩ := List.getElem?_eq_some_iff.1 hx
  have e := h.len.1
  subst e
  obtain ⟨q1, q2⟩ := cs2_at l i x hx
  refine ⟨?_, ?_, fun j => h.own.frozenAt j, (h.own.lt g rfl).2⟩
  · rw [World.ownsRow.cellAt h.own (i * 2) (by omega)]; exact q1
  · rw [World.ownsRow.cellAt h.own (i * 2 + 1) (by omega)]; exact q2

set_option maxHeartbeats 2000000 in
theorem kid_any (l : List Pr) (k : Nat) (hk : k ≤ 1000000) (hl : l.length ≤ 1000000) {w : World} {B b off : Nat} {v : Value} (h : Pil w B b off v l) : Calls Try.prog 116 #[.pointer (some ⟨b, off, none⟩), nv k] w fun e w' => e = .returned (nv (kidOf plt l k : Nat)) ∧ Below w.heap.size w w' := by
  by_cases h1 : l.length ≤ 2 * k + 1
  · rw [kid_none h1]
    obtain ⟨g, cap, rfl, c1, c2⟩ := h.form
    have hc := h.cell
    clear h
    go_enter Try.func116, Try.ntmps116
    go_wp2_with (fail)
    go_ret
    exact ⟨rfl, Below.refl _ _⟩
  · by_cases h2 : 2 * k + 2 < l.length
    · obtain ⟨g, cap, rfl⟩ := h.full (by omega)
      obtain ⟨c1, c2, -, -⟩ := h.row (i := 2 * k + 1) (x := l[2 * k + 1]) (List.getElem?_eq_getElem (by omega))
      obtain ⟨c3, c4, -, -⟩ := h.row (i := 2 * k + 1 + 1) (x := l[2 * k + 2]) (List.getElem?_eq_getElem h2)
      rw [kid_two h2]
      have hc := h.cell
      obtain ⟨-, f1, f2⟩ := h.len
      generalize l[2 * k + 1] = x1 at *
      generalize l[2 * k + 2] = x2 at *
      obtain ⟨x11, x12⟩ := x1
      obtain ⟨x21, x22⟩ := x2
      simp only at c1 c2 c3 c4
      have key : ∀ bt : Bool, plt (x21, x22) (x11, x12) = bt → Calls Try.prog 116 #[.pointer (some ⟨b, off, none⟩), nv k] w fun e w' => e = .returned (nv ((if bt = true then 2 * k + 1 + 1 else 2 * k + 1 : Nat) : Int)) ∧ Below w.heap.size w w' := by
        intro bt ht
        have ca : ∀ d os, Calls Try.prog 133 #[pv (x21, x22), pv (x11, x12)] (grow (redrawn w d) os) fun e w'' => e = .returned (.bool bt) ∧ ∃ p : Regrown, w'' = grow (redrawn w p.d) p.os := fun d os => Calls.regrown_of (ht ▸ ahead_pair x21 x22 x11 x12 _)
        have hm := fun W => method_pair (x21, x22) W
        have z0 := cell_regrown hc
        have z1 := cell_regrown c1
        have z2 := cell_regrown c2
        have z3 := cell_regrown c3
        have z4 := cell_regrown c4
        clear ht h
        generalize l.length = n at *
        go_enter Try.func116, Try.ntmps116
        go_wp2_with (fail)
        have e : (2 * (k : Int) + 1) = ((2 * k + 1 : Nat) : Int) := by omega
        rw [e]
        clear e
        have hk2 : 2 * k + 1 ≤ 3000000 := by omega
        have h2' : 2 * k + 1 + 1 < n := h2
        clear h2
        generalize hmm : 2 * k + 1 = m at *
        have HMM := (show Hid (2 * k + 1 = m) from hmm)
        clear hmm
        have d1 : decide ((m : Int) + 1 < (n : Int)) = true := decide_eq_true (by omega)
        refine wp_region_quiet_below (by kernel_rfl) (by kernel_rfl) ?_
        repeat (go_big_quiet_step (first | (with_reducible exact ca _ _)))
        refine wpQuiet_nil ?_
        intro _ hw'
        obtain ⟨⟨dq, osq⟩, hw''⟩ := hw'
        subst hw''
        have b1 := below_regrown w dq osq
        clear ca z0 z1 z2 z3 z4 hm
        generalize grow (redrawn w dq) osq = w1 at *
        cases bt
        · go_wp2_with (fail)
          go_ret
          exact ⟨by show Ending.returned (nv (m : Nat)) = _; rw [← HMM.out]; rfl, b1⟩
        · go_wp2_with (fail)
          go_ret
          exact ⟨by show Ending.returned (nv ((m : Int) + 1)) = _; rw [← HMM.out]; go_num, b1⟩
      exact key _ rfl
    · rw [kid_one h1 h2]
      obtain ⟨g, cap, rfl, c1, c2⟩ := h.form
      have hc := h.cell
      have d1 : decide (2 * k + 1 + 1 < l.length) = false := by simp; omega
      have hw : IntKind.i64.wrap (2 * (k : Int) + 1 + 1) = 2 * (k : Int) + 1 + 1 := IntWalk.i64_in _ (by omega)
      have d2 : decide (2 * (k : Int) + 1 + 1 < (l.length : Int)) = false := decide_eq_false (by omega)
      clear h h2
      generalize l.length = n at *
      go_enter Try.func116, Try.ntmps116
      go_wp2_with (fail)
      go_quiet (fail)
      go_wp2_with (fail)
      go_ret
      exact ⟨rfl, below_drewN (Below.refl _ _) _⟩
end Go.Proofs.Ytmmlibehihknbaa.pp
