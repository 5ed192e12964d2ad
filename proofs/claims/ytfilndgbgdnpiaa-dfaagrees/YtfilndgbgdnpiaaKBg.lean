/-
  Plain mathematics: sets of bytes that are handed on over Free edges, until nothing more comes (builder.spread).
-/
import Derived.Test.YtfilndgbgdnpiaaM04
import Derived.Test.YtfilndgbgdnpiaaM05
namespace Go.Proofs.Ytfilndgbgdnpiaa.bd
open nf (Nfa Ed Over Rt hasE setOf)
open st (Q4 none4 Fits has nth jn cnt mem)
set_option linter.unusedVariables false

theorem filter_le {p r : Nat → Bool} : ∀ (l : List Nat), (∀ x ∈ l, p x = true → r x = true) → (l.filter p).length ≤ (l.filter r).length
  | [], _ => Nat.le_refl _
  | x :: l, h => by
    have ih := filter_le l fun y hy => h y (List.mem_cons_of_mem _ hy)
    have hx := h x List.mem_cons_self
    rw [List.filter_cons, List.filter_cons]
    cases hp : p x with
    | true => rw [hx hp]; simpa using ih
    | false =>
      cases hr : r x with
      | true => simp; omega
      | false => simpa using ih
theorem filter_lt {p r : Nat → Bool} : ∀ (l : List Nat), (∀ x ∈ l, p x = true → r x = true) → (∃ x ∈ l, p x = false ∧ r x = true) → (l.filter p).length < (l.filter r).length
  | [], _, ⟨x, hx, _⟩ => by simp at hx
  | x :: l, h, ⟨y, hy, hp, hr⟩ => by
    rw [List.filter_cons, List.filter_cons]
    rcases List.mem_cons.1 hy with e | hy
    · subst e
      have ih := filter_le l fun y hy => h y (List.mem_cons_of_mem _ hy)
      rw [hp, hr]
      simp
      omega
    · have ih := filter_lt l (fun y hy => h y (List.mem_cons_of_mem _ hy)) ⟨y, hy, hp, hr⟩
      have hx := h x List.mem_cons_self
      cases hp : p x with
      | true => rw [hx hp]; simpa using ih
      | false =>
        cases hr : r x with
        | true => simp; omega
        | false => simpa using ih
theorem cnt_more {q r : Q4} (hq : Fits q) (hr : Fits r) (h : jn q r ≠ q) : cnt q < cnt (jn q r) := by
  unfold cnt mem
  refine filter_lt _ (fun x hx hp => ?_) ?_
  · rw [st.has_jn q r x (List.mem_range.1 hx), hp]; rfl
  · by_cases e : ∃ x, x < 256 ∧ has q x = false ∧ has (jn q r) x = true
    · obtain ⟨x, h1, h2, h3⟩ := e
      exact ⟨x, List.mem_range.2 h1, h2, h3⟩
    · exfalso
      refine h (st.ext (st.fits_jn hq hr) hq fun x hx => ?_)
      cases hp : has q x with
      | true => rw [st.has_jn q r x hx, hp]; rfl
      | false =>
        cases hj : has (jn q r) x with
        | true => exact absurd ⟨x, hx, hp, hj⟩ e
        | false => rfl
theorem jn_self {q : Q4} (h : Fits q) : jn q q = q := st.ext (st.fits_jn h h) h fun n hn => by rw [st.has_jn q q n hn, Bool.or_self]

def miss (R : List Q4) : Nat := (R.map fun q => 256 - cnt q).sum
theorem miss_set : ∀ (R : List Q4) (i : Nat) (hi : i < R.length) (q : Q4), cnt R[i] < cnt q → miss (R.set i q) < miss R
  | [], i, hi, _, _ => by simp at hi
  | r :: R, 0, _, q, h => by
    have := st.cnt_le q
    simp at h
    simp [miss]
    omega
  | r :: R, i + 1, hi, q, h => by
    have := miss_set R i (by simpa using hi) q (by simpa using h)
    simp [miss] at this ⊢
    omega
theorem nth_get (R : List Q4) (i : Nat) (h : i < R.length) : nth R i = R[i] := by unfold nth; rw [List.getD_eq_getElem?_getD, List.getElem?_eq_getElem h]; rfl
theorem nth_set (R : List Q4) (i j : Nat) (q : Q4) (hi : i < R.length) (hj : j < R.length) : nth (R.set i q) j = if j = i then q else nth R j := by
  rw [nth_get _ _ (by simpa using hj), nth_get _ _ hj, List.getElem_set]
  by_cases e : i = j
  · rw [if_pos e, if_pos e.symm]
  · rw [if_neg e, if_neg (Ne.symm e)]
theorem fits_nth {R : List Q4} (hf : ∀ q ∈ R, Fits q) (i : Nat) (h : i < R.length) : Fits (nth R i) := by rw [nth_get _ _ h]; exact hf _ (List.getElem_mem h)
theorem fits_set {R : List Q4} (hf : ∀ q ∈ R, Fits q) (i : Nat) {q : Q4} (hq : Fits q) : ∀ r ∈ R.set i q, Fits r := fun r hr => by
  rcases List.mem_or_eq_of_mem_set hr with h | h
  · exact hf r h
  · rw [h]; exact hq

/-- where a byte lies -/
def At (R : List Q4) (c : Nat) (t : Int) : Prop := ∃ j : Nat, j < R.length ∧ t = (j : Int) ∧ has (nth R j) c = true
/-- the targets of a state's Free edges -/
def Tgt (x : Nfa) (n : Nat) (F : Nat → List Int) : Prop := ∀ s, s < n → ∀ t, t ∈ F s ↔ ∃ e ∈ x.edges, e.free = true ∧ e.fr = (s : Int) ∧ e.to = t
structure Hand (x : Nfa) (n : Nat) (F : Nat → List Int) (R0 R : List Q4) (q : List Int) (s : Nat) (p : List Int) : Prop where
  len : R.length = n
  fits : ∀ q ∈ R, Fits q
  base : ∀ i c, i < n → c < 256 → has (nth R0 i) c = true → has (nth R i) c = true
  snd : ∀ i c, i < n → c < 256 → has (nth R i) c = true → nf.Reach x (At R0 c) (i : Int)
  cls : ∀ i, i < n → (i : Int) ∉ q → i ≠ s → ∀ t : Nat, (t : Int) ∈ F i → ∀ c, c < 256 → has (nth R i) c = true → has (nth R t) c = true
  own : ∀ t : Nat, (t : Int) ∈ p → ∀ c, c < 256 → has (nth R s) c = true → has (nth R t) c = true
  rng : ∀ t ∈ q, 0 ≤ t ∧ t < (n : Int)
section
variable {x : Nfa} {n : Nat} {F : Nat → List Int} {R0 R : List Q4} {q : List Int} {s : Nat} {p : List Int}
theorem Hand.same (h : Hand x n F R0 R q s p) {t : Nat} (ht : t < n) (hs : s < n) (he : jn (nth R t) (nth R s) = nth R t) : Hand x n F R0 R q s (p ++ [(t : Int)]) :=
  ⟨h.len, h.fits, h.base, h.snd, h.cls, fun u hu c hc hh => by
    rcases List.mem_append.1 hu with h1 | h1
    · exact h.own u h1 c hc hh
    · have e : u = t := by have := List.mem_singleton.1 h1; omega
      rw [e, ← he, st.has_jn _ _ c hc, hh, Bool.or_true], h.rng⟩
theorem Hand.more (R1 : Rt x n) (hF : Tgt x n F) (h : Hand x n F R0 R q s p) {t : Nat} (ht : t < n) (hs : s < n) (hm : (t : Int) ∈ F s) (he : jn (nth R t) (nth R s) ≠ nth R t) : Hand x n F R0 (R.set t (jn (nth R t) (nth R s))) (q ++ [(t : Int)]) s (p ++ [(t : Int)]) := by
  have hl := h.len
  have hts : t ≠ s := fun e => he (by rw [e]; exact jn_self (fits_nth h.fits s (by omega)))
  have g : ∀ j, j < n → nth (R.set t (jn (nth R t) (nth R s))) j = if j = t then jn (nth R t) (nth R s) else nth R j := fun j hj => nth_set R t j _ (by omega) (by omega)
  have up : ∀ j c, j < n → c < 256 → has (nth R j) c = true → has (nth (R.set t (jn (nth R t) (nth R s))) j) c = true := fun j c hj hc hh => by
    rw [g j hj]
    by_cases e : j = t
    · rw [if_pos e, st.has_jn _ _ c hc, ← e, hh, Bool.true_or]
    · rw [if_neg e]; exact hh
  have tn : ∀ i, i < n → ∀ u : Nat, (u : Int) ∈ F i → u < n := fun i hi u hu => by
    obtain ⟨e, he1, _, _, he2⟩ := (hF i hi _).1 hu
    have := R1.to e he1
    omega
  refine ⟨by simpa using hl, fits_set h.fits t (st.fits_jn (fits_nth h.fits t (by omega)) (fits_nth h.fits s (by omega))), fun i c hi hc hh => up i c hi hc (h.base i c hi hc hh), fun i c hi hc hh => ?_, fun i hi hn hne u hu c hc hh => ?_, fun u hu c hc hh => ?_, fun u hu => ?_⟩
  · rw [g i hi] at hh
    by_cases e : i = t
    · rw [if_pos e, st.has_jn _ _ c hc, Bool.or_eq_true] at hh
      rcases hh with h1 | h1
      · rw [e]; exact h.snd t c ht hc h1
      · obtain ⟨ed, a1, a2, a3, a4⟩ := (hF s hs _).1 hm
        have := nf.Reach.step (x := x) (P := At R0 c) (e := ed) (by rw [a3]; exact h.snd s c hs hc h1) a1 a2
        rw [a4] at this
        rw [e]; exact this
    · rw [if_neg e] at hh; exact h.snd i c hi hc hh
  · have hit : i ≠ t := fun e => hn (List.mem_append_right _ (by rw [e]; exact List.mem_singleton_self _))
    rw [g i hi, if_neg hit] at hh
    exact up u c (tn i hi u hu) hc (h.cls i hi (fun e => hn (List.mem_append_left _ e)) hne u hu c hc hh)
  · rw [g s hs, if_neg (Ne.symm hts)] at hh
    rcases List.mem_append.1 hu with h1 | h1
    · by_cases hu2 : u < n
      · exact up u c hu2 hc (h.own u h1 c hc hh)
      · have := h.own u h1 c hc hh
        unfold nth at this ⊢
        rw [List.getD_eq_getElem?_getD, List.getElem?_eq_none (by simp; omega)]
        rw [List.getD_eq_getElem?_getD, List.getElem?_eq_none (by omega)] at this
        exact this
    · have e : u = t := by have := List.mem_singleton.1 h1; omega
      rw [e, g t ht, if_pos rfl, st.has_jn _ _ c hc, hh, Bool.or_true]
  · rcases List.mem_append.1 hu with h1 | h1
    · exact h.rng u h1
    · rw [List.mem_singleton.1 h1]; omega
end
/-- between two states -/
structure Held (x : Nfa) (n : Nat) (F : Nat → List Int) (R0 R : List Q4) (q : List Int) : Prop where
  len : R.length = n
  fits : ∀ q ∈ R, Fits q
  base : ∀ i c, i < n → c < 256 → has (nth R0 i) c = true → has (nth R i) c = true
  snd : ∀ i c, i < n → c < 256 → has (nth R i) c = true → nf.Reach x (At R0 c) (i : Int)
  cls : ∀ i, i < n → (i : Int) ∉ q → ∀ t : Nat, (t : Int) ∈ F i → ∀ c, c < 256 → has (nth R i) c = true → has (nth R t) c = true
  rng : ∀ t ∈ q, 0 ≤ t ∧ t < (n : Int)
theorem Held.pop {x : Nfa} {n : Nat} {F : Nat → List Int} {R0 R : List Q4} {q : List Int} {s : Nat} (h : Held x n F R0 R (q ++ [(s : Int)])) : Hand x n F R0 R q s [] :=
  ⟨h.len, h.fits, h.base, h.snd, fun i hi hn hne => h.cls i hi fun hm => by
    rcases List.mem_append.1 hm with h1 | h1
    · exact hn h1
    · exact hne (by have := List.mem_singleton.1 h1; omega), fun t ht => by simp at ht, fun t ht => h.rng t (List.mem_append_left _ ht)⟩
theorem Hand.done {x : Nfa} {n : Nat} {F : Nat → List Int} {R0 R : List Q4} {q : List Int} {s : Nat} (h : Hand x n F R0 R q s (F s)) : Held x n F R0 R q :=
  ⟨h.len, h.fits, h.base, h.snd, fun i hi hn t ht c hc hh => by
    by_cases e : i = s
    · rw [e] at hh ht; exact h.own t ht c hc hh
    · exact h.cls i hi hn e t ht c hc hh, h.rng⟩
theorem Held.all {x : Nfa} {n : Nat} (R1 : Rt x n) {F : Nat → List Int} (hF : Tgt x n F) {R0 R : List Q4} (hl0 : R0.length = n) (h : Held x n F R0 R []) (i c : Nat) (hi : i < n) (hc : c < 256) : has (nth R i) c = true ↔ nf.Reach x (At R0 c) (i : Int) := by
  refine ⟨h.snd i c hi hc, fun r => ?_⟩
  have key : ∃ j : Nat, j < n ∧ (i : Int) = (j : Int) ∧ has (nth R j) c = true := by
    refine r.least (Q := fun t => ∃ j : Nat, j < n ∧ t = (j : Int) ∧ has (nth R j) c = true) ?_ ?_
    · rintro t ⟨j, h1, h2, h3⟩
      exact ⟨j, by omega, h2, h.base j c (by omega) hc h3⟩
    · rintro e he hf ⟨j, h1, h2, h3⟩
      have ht := R1.to e he
      refine ⟨e.to.toNat, by omega, by omega, h.cls j h1 (by simp) e.to.toNat ((hF j h1 _).2 ⟨e, he, hf, h2, by omega⟩) c hc h3⟩
  obtain ⟨j, h1, h2, h3⟩ := key
  have : i = j := by omega
  rw [this]; exact h3
end Go.Proofs.Ytfilndgbgdnpiaa.bd
