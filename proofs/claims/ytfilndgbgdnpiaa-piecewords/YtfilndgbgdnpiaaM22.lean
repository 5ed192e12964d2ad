/-
  Texts put together: Plain mathematics, no program: the classes into which sets part the bytes; texts of bits; a list without its repeats. Plain mathematics, no program: each set is a whole number of classes; two classes are parted by some set; a set more, made of those there, changes none. Plain mathematics: sets of states as rows of bools; the automaton whose states are such sets takes what the nfa takes.
-/
import Derived.Test.YtfilndgbgdnpiaaKSets
import Derived.Test.YtfilndgbgdnpiaaM10
import Derived.Test.YtfilndgbgdnpiaaM00
namespace Go.Proofs.Ytfilndgbgdnpiaa.st
set_option linter.unusedVariables false

/-- which sets a byte is in -/
def sig (l : List Q4) (b : Nat) : List Bool := l.map (fun q => has q b)
theorem sig_length (l : List Q4) (b : Nat) : (sig l b).length = l.length := by unfold sig; simp
theorem sig_eq (l : List Q4) (b c : Nat) : sig l b = sig l c ↔ ∀ q ∈ l, has q b = has q c := by
  unfold sig
  exact List.map_inj_left

/-- the least bytes of the classes of the bytes below a number, by a test of likeness -/
def repsBy (p : Nat → Nat → Bool) : Nat → List Nat
  | 0 => []
  | i + 1 => if (repsBy p i).any (fun c => p i c) then repsBy p i else repsBy p i ++ [i]
def clsBy (p : Nat → Nat → Bool) (b : Nat) : Nat := (repsBy p (b + 1)).findIdx (fun c => p b c)
def like (l : List Q4) (b c : Nat) : Bool := decide (sig l b = sig l c)

theorem repsBy_in {p : Nat → Nat → Bool} {i : Nat} (h : (repsBy p i).any (fun c => p i c) = true) : repsBy p (i + 1) = repsBy p i := by
  rw [repsBy, if_pos h]
theorem repsBy_out {p : Nat → Nat → Bool} {i : Nat} (h : (repsBy p i).any (fun c => p i c) = false) : repsBy p (i + 1) = repsBy p i ++ [i] := by
  rw [repsBy, if_neg (by rw [h]; simp)]
theorem repsBy_lt (p : Nat → Nat → Bool) (i : Nat) : ∀ c ∈ repsBy p i, c < i := by
  induction i with
  | zero => simp [repsBy]
  | succ i ih =>
    intro c hc
    cases h : (repsBy p i).any (fun c => p i c)
    · rw [repsBy_out h] at hc
      rcases List.mem_append.1 hc with hc | hc
      · have := ih c hc; omega
      · simp at hc; omega
    · rw [repsBy_in h] at hc
      have := ih c hc; omega
theorem repsBy_length (p : Nat → Nat → Bool) (i : Nat) : (repsBy p i).length ≤ i := by
  induction i with
  | zero => simp [repsBy]
  | succ i ih =>
    cases h : (repsBy p i).any (fun c => p i c)
    · rw [repsBy_out h, List.length_append]; simp; omega
    · rw [repsBy_in h]; omega
theorem clsBy_in {p : Nat → Nat → Bool} {i : Nat} (h : (repsBy p i).any (fun c => p i c) = true) : clsBy p i = (repsBy p i).findIdx (fun c => p i c) ∧ clsBy p i < (repsBy p i).length := by
  unfold clsBy
  rw [repsBy_in h]
  refine ⟨rfl, List.findIdx_lt_length.2 ?_⟩
  exact List.any_eq_true.1 h
theorem clsBy_out {p : Nat → Nat → Bool} {i : Nat} (hp : p i i = true) (h : (repsBy p i).any (fun c => p i c) = false) : clsBy p i = (repsBy p i).length := by
  unfold clsBy
  rw [repsBy_out h, List.findIdx_append]
  have : ¬ (repsBy p i).findIdx (fun c => p i c) < (repsBy p i).length := by
    rw [List.findIdx_lt_length]
    rintro ⟨x, hx, hpx⟩
    have := List.any_eq_false.1 h x hx
    exact this hpx
  rw [if_neg this]
  simp [List.findIdx_cons, hp]
theorem clsBy_lt (p : Nat → Nat → Bool) (i : Nat) (hp : p i i = true) : clsBy p i ≤ i := by
  have := repsBy_length p i
  cases h : (repsBy p i).any (fun c => p i c)
  · rw [clsBy_out hp h]; omega
  · have := (clsBy_in h).2; omega
theorem repsBy_congr {p r : Nat → Nat → Bool} (h : ∀ i c, p i c = r i c) (i : Nat) : repsBy p i = repsBy r i := by
  have : p = r := by funext a b; exact h a b
  rw [this]
theorem clsBy_congr {p r : Nat → Nat → Bool} (h : ∀ i c, p i c = r i c) (i : Nat) : clsBy p i = clsBy r i := by
  have : p = r := by funext a b; exact h a b
  rw [this]

/-- the table of the classes, as far as it is made -/
def tbl (p : Nat → Nat → Bool) (i : Nat) : List Nat := (List.range i).map (clsBy p) ++ List.replicate (256 - i) 0
theorem tbl_length (p : Nat → Nat → Bool) (i : Nat) (h : i ≤ 256) : (tbl p i).length = 256 := by unfold tbl; simp; omega
theorem tbl_step (p : Nat → Nat → Bool) (i : Nat) (h : i < 256) : (tbl p i).set i (clsBy p i) = tbl p (i + 1) := by
  unfold tbl
  have e : 256 - i = (256 - (i + 1)) + 1 := by omega
  rw [List.range_succ, List.map_append, e, List.replicate_succ, List.set_append]
  simp
theorem tbl_zero (p : Nat → Nat → Bool) : tbl p 0 = List.replicate 256 0 := rfl
theorem tbl_at (p : Nat → Nat → Bool) (b : Nat) (h : b < 256) : (tbl p 256)[b]? = some (clsBy p b) := by
  unfold tbl
  simp [h]

/-! ### a list without its repeats -/
instance : DecidableEq Q4 := fun q r =>
  if h : q.a = r.a ∧ q.b = r.b ∧ q.c = r.c ∧ q.d = r.d then isTrue (by cases q; cases r; simp_all) else isFalse (by rintro rfl; simp at h)
def diff : List Q4 → List Q4 → List Q4
  | acc, [] => acc
  | acc, q :: l => if q ∈ acc then diff acc l else diff (acc ++ [q]) l
theorem diff_length (l acc : List Q4) : (diff acc l).length ≤ acc.length + l.length := by
  induction l generalizing acc with
  | nil => simp [diff]
  | cons q l ih =>
    unfold diff
    split
    · have := ih acc; simp; omega
    · have := ih (acc ++ [q]); simp at this ⊢; omega
theorem mem_diff (l acc : List Q4) (q : Q4) : q ∈ diff acc l ↔ q ∈ acc ∨ q ∈ l := by
  induction l generalizing acc with
  | nil => simp [diff]
  | cons x l ih =>
    unfold diff
    split
    · rename_i hx
      rw [ih, List.mem_cons]
      constructor
      · rintro (h | h)
        · exact .inl h
        · exact .inr (.inr h)
      · rintro (h | rfl | h)
        · exact .inl h
        · exact .inl hx
        · exact .inr h
    · rw [ih, List.mem_append, List.mem_singleton, List.mem_cons]
      constructor
      · rintro ((h | h) | h)
        · exact .inl h
        · exact .inr (.inl h)
        · exact .inr (.inr h)
      · rintro (h | h | h)
        · exact .inl (.inl h)
        · exact .inl (.inr h)
        · exact .inr h
theorem like_diff (l : List Q4) (b c : Nat) : like (diff [] l) b c = like l b c := by
  unfold like
  rw [decide_eq_decide, sig_eq, sig_eq]
  constructor
  · intro h q hq
    exact h q ((mem_diff l [] q).2 (.inr hq))
  · intro h q hq
    rcases (mem_diff l [] q).1 hq with h1 | h1
    · simp at h1
    · exact h q h1
theorem diff_take (l : List Q4) (acc : List Q4) (q : Q4) : diff acc (l ++ [q]) = if q ∈ diff acc l then diff acc l else diff acc l ++ [q] := by
  induction l generalizing acc with
  | nil =>
    rw [List.nil_append]
    simp only [diff]
    by_cases h : q ∈ acc <;> simp [h]
  | cons x l ih =>
    rw [List.cons_append]
    unfold diff
    split
    · rw [ih]
    · rw [ih]

/-! ### a text of bits -/
def packTo (s : List Bool) : Nat → List Nat
  | 0 => List.replicate ((s.length + 7) / 8) 0
  | i + 1 => if s.getD i false then (packTo s i).set (i / 8) ((packTo s i).getD (i / 8) 0 ||| 2 ^ (i % 8)) else packTo s i
theorem packTo_length (s : List Bool) (i : Nat) : (packTo s i).length = (s.length + 7) / 8 := by
  induction i with
  | zero => simp [packTo]
  | succ i ih =>
    unfold packTo
    split
    · simp [ih]
    · exact ih
theorem getD_lt_256 (l : List Nat) (h : ∀ x ∈ l, x < 256) (i : Nat) : l.getD i 0 < 256 := by
  rw [List.getD_eq_getElem?_getD]
  cases hi : l[i]? with
  | none => simp
  | some v => exact h v (List.mem_of_getElem? hi)
theorem packTo_lt (s : List Bool) (i : Nat) : ∀ x ∈ packTo s i, x < 256 := by
  induction i with
  | zero => intro x hx; simp [packTo] at hx; omega
  | succ i ih =>
    unfold packTo
    split
    · intro x hx
      rcases List.mem_or_eq_of_mem_set hx with h | h
      · exact ih x h
      · rw [h]
        exact Nat.or_lt_two_pow (n := 8) (getD_lt_256 _ ih _) (Nat.pow_lt_pow_right (by omega) (by omega))
    · exact ih
theorem packTo_bit (s : List Bool) (i : Nat) (hi : i ≤ s.length) (m : Nat) (hm : m < s.length) : ((packTo s i).getD (m / 8) 0).testBit (m % 8) = (decide (m < i) && s.getD m false) := by
  induction i with
  | zero =>
    simp only [packTo, Nat.not_lt_zero, decide_false, Bool.false_and]
    rw [List.getD_eq_getElem?_getD, List.getElem?_replicate]
    split <;> simp
  | succ i ih =>
    have h1 := ih (by omega)
    have hlen := packTo_length s i
    unfold packTo
    cases hs : s.getD i false
    · simp only [Bool.false_eq_true, if_false]
      rw [h1]
      by_cases hmi : m = i
      · subst hmi; rw [hs]; simp
      · have : decide (m < i + 1) = decide (m < i) := by rw [decide_eq_decide]; omega
        rw [this]
    · simp only [if_true]
      by_cases hk : i / 8 = m / 8
      · rw [hk, List.getD_eq_getElem?_getD, List.getElem?_set_self (by omega), Option.getD_some, Nat.testBit_or, h1, Nat.testBit_two_pow]
        by_cases hmi : m = i
        · subst hmi
          rw [hs]
          simp
        · have e1 : decide (i % 8 = m % 8) = false := by simp; omega
          have e2 : decide (m < i + 1) = decide (m < i) := by rw [decide_eq_decide]; omega
          rw [e1, e2, Bool.or_false]
      · rw [List.getD_eq_getElem?_getD, List.getElem?_set_ne hk, ← List.getD_eq_getElem?_getD, h1]
        have hne : i ≠ m := fun e => hk (by rw [e])
        have e2 : decide (m < i + 1) = decide (m < i) := by rw [decide_eq_decide]; omega
        rw [e2]
theorem pack_inj {s t : List Bool} (hl : s.length = t.length) (h : packTo s s.length = packTo t t.length) : s = t := by
  apply List.ext_getElem? 
  intro m
  by_cases hm : m < s.length
  · have h1 := packTo_bit s s.length (Nat.le_refl _) m hm
    have h2 := packTo_bit t t.length (Nat.le_refl _) m (by omega)
    rw [h, h2] at h1
    have e1 : decide (m < t.length) = true := by simp; omega
    have e2 : decide (m < s.length) = true := by simp; omega
    rw [e1, e2, Bool.true_and, Bool.true_and, List.getD_eq_getElem?_getD, List.getD_eq_getElem?_getD, List.getElem?_eq_getElem hm, List.getElem?_eq_getElem (by omega : m < t.length)] at h1
    rw [List.getElem?_eq_getElem hm, List.getElem?_eq_getElem (by omega : m < t.length)]
    simp at h1
    rw [h1]
  · rw [List.getElem?_eq_none (by omega), List.getElem?_eq_none (by omega)]
/-- the text of bits of a byte -/
def key (l : List Q4) (b : Nat) : List UInt8 := (packTo (sig l b) l.length).map UInt8.ofNat
theorem key_eq (l : List Q4) (b c : Nat) : key l b = key l c ↔ sig l b = sig l c := by
  unfold key
  constructor
  · intro h
    refine pack_inj (by rw [sig_length, sig_length]) ?_
    rw [sig_length, sig_length]
    have hx := packTo_lt (sig l b) l.length
    have hy := packTo_lt (sig l c) l.length
    generalize packTo (sig l b) l.length = x at *
    generalize packTo (sig l c) l.length = y at *
    apply List.ext_getElem?
    intro i
    have := congrArg (fun z : List UInt8 => z[i]?) h
    simp only [List.getElem?_map] at this
    cases h1 : x[i]? <;> cases h2 : y[i]? <;> rw [h1, h2] at this <;> simp at this
    · rename_i u v
      have hu := hx u (List.mem_of_getElem? h1)
      have hv := hy v (List.mem_of_getElem? h2)
      have := congrArg UInt8.toNat this
      simp [Nat.mod_eq_of_lt hu, Nat.mod_eq_of_lt hv] at this
      rw [this]
  · intro h
    rw [h]
theorem key_length (l : List Q4) (b : Nat) : (key l b).length = (l.length + 7) / 8 := by
  unfold key
  rw [List.length_map, packTo_length, sig_length]
end Go.Proofs.Ytfilndgbgdnpiaa.st

namespace Go.Proofs.Ytfilndgbgdnpiaa.st
set_option linter.unusedVariables false

theorem reps_prefix (p : Nat → Nat → Bool) (i d : Nat) : ∃ t, repsBy p (i + d) = repsBy p i ++ t := by
  induction d with
  | zero => exact ⟨[], by simp⟩
  | succ d ih =>
    obtain ⟨t, ht⟩ := ih
    cases h : (repsBy p (i + d)).any (fun c => p (i + d) c)
    · exact ⟨t ++ [i + d], by rw [← Nat.add_assoc, repsBy_out h, ht, List.append_assoc]⟩
    · exact ⟨t, by rw [← Nat.add_assoc, repsBy_in h, ht]⟩
theorem reps_rise (p : Nat → Nat → Bool) (i : Nat) : (repsBy p i).Pairwise (fun x y => x < y ∧ p y x = false) := by
  induction i with
  | zero => simp [repsBy]
  | succ i ih =>
    cases h : (repsBy p i).any (fun c => p i c)
    · rw [repsBy_out h, List.pairwise_append]
      refine ⟨ih, by simp, ?_⟩
      intro x hx y hy
      simp at hy
      subst hy
      refine ⟨repsBy_lt p y x hx, ?_⟩
      have := List.any_eq_false.1 h x hx
      simpa using this
    · rw [repsBy_in h]; exact ih
theorem reps_pair (p : Nat → Nat → Bool) (i : Nat) {m k : Nat} (hmk : m < k) (hk : k < (repsBy p i).length) : (repsBy p i)[m] < (repsBy p i)[k] ∧ p (repsBy p i)[k] (repsBy p i)[m] = false :=
  List.pairwise_iff_getElem.1 (reps_rise p i) m k (by omega) hk hmk
theorem found (p : Nat → Nat → Bool) (hp : ∀ b, p b b = true) (b : Nat) : clsBy p b < (repsBy p (b + 1)).length := by
  cases h : (repsBy p b).any (fun c => p b c)
  · rw [clsBy_out (hp b) h, repsBy_out h]; simp
  · rw [repsBy_in h]; exact (clsBy_in h).2
theorem cls_in {N : Nat} (hN : N = 256) (p : Nat → Nat → Bool) (hp : ∀ b, p b b = true) (b : Nat) (hb : b < 256) : ∃ hlt : clsBy p b < (repsBy p N).length, p b (repsBy p N)[clsBy p b] = true ∧ (repsBy p N)[clsBy p b] ≤ b := by
  obtain ⟨t, ht⟩ := reps_prefix p (b + 1) (N - (b + 1))
  rw [show b + 1 + (N - (b + 1)) = N from by omega] at ht
  have hf := found p hp b
  have hlt : clsBy p b < (repsBy p N).length := by rw [ht, List.length_append]; omega
  refine ⟨hlt, ?_⟩
  have e : (repsBy p N)[clsBy p b] = (repsBy p (b + 1))[clsBy p b] := by
    have h1 : (repsBy p N)[clsBy p b]? = (repsBy p (b + 1))[clsBy p b]? := by rw [ht, List.getElem?_append_left hf]
    rw [List.getElem?_eq_getElem hlt, List.getElem?_eq_getElem hf] at h1
    exact Option.some.inj h1
  rw [e]
  refine ⟨?_, ?_⟩
  · have : clsBy p b = (repsBy p (b + 1)).findIdx (fun c => p b c) := rfl
    have h2 := List.findIdx_getElem (p := fun c => p b c) (xs := repsBy p (b + 1)) (w := by rw [← this]; exact hf)
    exact h2
  · have := repsBy_lt p (b + 1) _ (List.getElem_mem hf)
    omega
theorem cls_rep {N : Nat} (hN : N = 256) (p : Nat → Nat → Bool) (hp : ∀ b, p b b = true) (hs : ∀ a b c, p a b = true → p a c = true → p b c = true) (k : Nat) (hk : k < (repsBy p N).length) : clsBy p (repsBy p N)[k] = k := by
  have hb : (repsBy p N)[k] < 256 := by have := repsBy_lt p N _ (List.getElem_mem hk); omega
  obtain ⟨hlt, h1, _⟩ := cls_in hN p hp _ hb
  rcases Nat.lt_trichotomy (clsBy p (repsBy p N)[k]) k with h | h | h
  · have := (reps_pair p N h hk).2
    rw [this] at h1
    cases h1
  · exact h
  · have h2 := (reps_pair p N h hlt).2
    have h3 := hs _ _ _ h1 (hp _)
    rw [h3] at h2
    cases h2

/-- the least bytes, found from above -/
def dn (f : Nat → Nat) (n : Nat) : Nat → List Nat
  | 0 => List.replicate n 0
  | i + 1 => (dn f n i).set (f (255 - i)) (255 - i)
theorem dn_length (f : Nat → Nat) (n i : Nat) : (dn f n i).length = n := by
  induction i with
  | zero => simp [dn]
  | succ i ih => simp [dn, ih]
theorem dn_at {N : Nat} (hN : N = 256) (p : Nat → Nat → Bool) (hp : ∀ b, p b b = true) (hs : ∀ a b c, p a b = true → p a c = true → p b c = true) (i : Nat) (hi : i ≤ 256) (k : Nat) (hk : k < (repsBy p N).length) (h : 256 - i ≤ (repsBy p N)[k]) :
    (dn (clsBy p) (repsBy p N).length i)[k]? = some (repsBy p N)[k] := by
  induction i with
  | zero =>
    have hb : (repsBy p N)[k] < 256 := by have := repsBy_lt p N _ (List.getElem_mem hk); omega
    omega
  | succ i ih =>
    rw [dn]
    by_cases e : clsBy p (255 - i) = k
    · rw [e, List.getElem?_set_self (by rw [dn_length]; exact hk)]
      obtain ⟨hlt, _, h2⟩ := cls_in hN p hp (255 - i) (by omega)
      have h3 : (repsBy p N)[k] ≤ 255 - i := by
        have : (repsBy p N)[clsBy p (255 - i)] = (repsBy p N)[k] := by congr 1
        omega
      congr 1
      omega
    · rw [List.getElem?_set_ne e]
      refine ih (by omega) ?_
      rcases Nat.lt_or_ge (repsBy p N)[k] (256 - i) with h4 | h4
      · exfalso
        have h5 : (repsBy p N)[k] = 255 - i := by omega
        have h6 := cls_rep hN p hp hs k hk
        rw [h5] at h6
        exact e h6
      · exact h4
theorem dn_all {N : Nat} (hN : N = 256) (p : Nat → Nat → Bool) (hp : ∀ b, p b b = true) (hs : ∀ a b c, p a b = true → p a c = true → p b c = true) : dn (clsBy p) (repsBy p N).length 256 = repsBy p N := by
  apply List.ext_getElem?
  intro k
  by_cases hk : k < (repsBy p N).length
  · rw [dn_at hN p hp hs 256 (by omega) k hk (by omega), List.getElem?_eq_getElem hk]
  · rw [List.getElem?_eq_none (by rw [dn_length]; omega), List.getElem?_eq_none (by omega)]

theorem like_trans (l : List Q4) (a b c : Nat) (h1 : like l a b = true) (h2 : like l a c = true) : like l b c = true := by
  simp [like] at *
  rw [← h1, ← h2]
theorem like_refl (l : List Q4) (a : Nat) : like l a a = true := by simp [like]
theorem like_has {l : List Q4} {a b : Nat} (h : like l a b = true) {q : Q4} (hq : q ∈ l) : has q a = has q b := by
  have : sig l a = sig l b := by simpa [like] using h
  exact (sig_eq l a b).1 this q hq

theorem reps_cong {p r : Nat → Nat → Bool} (h : ∀ i c, i < 256 → c < 256 → p i c = r i c) (i : Nat) (hi : i ≤ 256) : repsBy p i = repsBy r i := by
  induction i with
  | zero => rfl
  | succ i ih =>
    have e := ih (by omega)
    have e2 : (repsBy p i).any (fun c => p i c) = (repsBy r i).any (fun c => r i c) := by
      rw [e, Bool.eq_iff_iff, List.any_eq_true, List.any_eq_true]
      constructor
      · rintro ⟨x, hx, hh⟩
        exact ⟨x, hx, by rw [← h i x (by omega) (by have := repsBy_lt r i x hx; omega)]; exact hh⟩
      · rintro ⟨x, hx, hh⟩
        exact ⟨x, hx, by rw [h i x (by omega) (by have := repsBy_lt r i x hx; omega)]; exact hh⟩
    rw [repsBy, repsBy, e2, e]
theorem findIdx_cong {p r : Nat → Bool} (L : List Nat) (h : ∀ x ∈ L, p x = r x) : L.findIdx p = L.findIdx r := by
  induction L with
  | nil => rfl
  | cons x L ih => rw [List.findIdx_cons, List.findIdx_cons, h x (by simp), ih (fun y hy => h y (by simp [hy]))]
theorem cls_cong {p r : Nat → Nat → Bool} (h : ∀ i c, i < 256 → c < 256 → p i c = r i c) (b : Nat) (hb : b < 256) : clsBy p b = clsBy r b := by
  unfold clsBy
  rw [reps_cong h (b + 1) (by omega)]
  exact findIdx_cong _ (fun x hx => h b x hb (by have := repsBy_lt r (b + 1) x hx; omega))
theorem tbl_cong {p r : Nat → Nat → Bool} (h : ∀ i c, i < 256 → c < 256 → p i c = r i c) : tbl p 256 = tbl r 256 := by
  unfold tbl
  congr 1
  apply List.map_congr_left
  intro b hb
  exact cls_cong h b (by simpa using hb)
theorem like_more {l : List Q4} (hf : ∀ q ∈ l, Fits q) {q r : Q4} (hq : q ∈ l) (hr : r ∈ l) (b c : Nat) (hb : b < 256) (hc : c < 256) : like (l ++ [jn q (nt r)]) b c = like l b c := by
  unfold like
  rw [decide_eq_decide, sig_eq, sig_eq]
  constructor
  · intro h x hx
    exact h x (by simp [hx])
  · intro h x hx
    rcases List.mem_append.1 hx with hx | hx
    · exact h x hx
    · rw [List.mem_singleton.1 hx, has_jn _ _ b hb, has_jn _ _ c hc, has_nt (hf r hr) b hb, has_nt (hf r hr) c hc, h q hq, h r hr]
theorem reps_one {p : Nat → Nat → Bool} (h : ∀ a b, p a b = true) (i : Nat) : repsBy p (i + 1) = [0] := by
  induction i with
  | zero => rw [repsBy_out (by simp [repsBy])]; simp [repsBy]
  | succ i ih => rw [repsBy_in (by rw [ih]; simp [h]), ih]

/-- all that the law asks of the classes -/
structure Parts (l : List Q4) (xs L : List Nat) : Prop where
  len : xs.length = 256
  few : L.length ≤ 256
  c_lt : ∀ b, b < 256 → xs.getD b 0 < L.length
  l_lt : ∀ k, k < L.length → L.getD k 0 < 256
  rise : ∀ k, k + 1 < L.length → L.getD k 0 < L.getD (k + 1) 0
  parted : ∀ m k, m < k → k < L.length → like l (L.getD k 0) (L.getD m 0) = false
  whole : ∀ b, b < 256 → like l b (L.getD (xs.getD b 0) 0) = true
  down : dn (fun b => xs.getD b 0) L.length 256 = L
  lone : l = [] → L.length = 1
theorem dn_cong {f g : Nat → Nat} (h : ∀ b, b < 256 → f b = g b) (n i : Nat) : dn f n i = dn g n i := by
  induction i with
  | zero => rfl
  | succ i ih => rw [dn, dn, ih, h (255 - i) (by omega)]
theorem parts_of {N : Nat} (hN : N = 256) (l : List Q4) : Parts l (tbl (like l) 256) (repsBy (like l) N) := by
  have hx : ∀ b, b < 256 → (tbl (like l) 256).getD b 0 = clsBy (like l) b := fun b hb => by
    rw [List.getD_eq_getElem?_getD, tbl_at _ b hb]; rfl
  have hL : ∀ k (h : k < (repsBy (like l) N).length), (repsBy (like l) N).getD k 0 = (repsBy (like l) N)[k] := fun k h => by
    rw [List.getD_eq_getElem?_getD, List.getElem?_eq_getElem h]; rfl
  refine ⟨tbl_length _ _ (by omega), by have := repsBy_length (like l) N; omega, fun b hb => ?_, fun k hk => ?_, fun k hk => ?_, fun m k hmk hk => ?_, fun b hb => ?_, ?_, fun h => ?_⟩
  · rw [hx b hb]
    exact (cls_in hN _ (like_refl l) b hb).1
  · rw [hL k hk]
    have := repsBy_lt _ N _ (List.getElem_mem hk)
    omega
  · rw [hL k (by omega), hL (k + 1) hk]
    exact (reps_pair _ N (Nat.lt_succ_self k) hk).1
  · rw [hL k hk, hL m (by omega)]
    exact (reps_pair _ N hmk hk).2
  · obtain ⟨hlt, h1, _⟩ := cls_in hN _ (like_refl l) b hb
    rw [hx b hb, hL _ hlt]
    exact h1
  · rw [dn_cong hx]
    exact dn_all hN _ (like_refl l) (like_trans l)
  · subst h
    have h1 : ∀ a b, like [] a b = true := fun a b => rfl
    rw [show N = 255 + 1 from hN, reps_one h1]
    rfl
theorem parts_more {l : List Q4} (hf : ∀ q ∈ l, Fits q) {q r : Q4} (hq : q ∈ l) (hr : r ∈ l) : tbl (like (l ++ [jn q (nt r)])) 256 = tbl (like l) 256 ∧ repsBy (like (l ++ [jn q (nt r)])) 256 = repsBy (like l) 256 :=
  ⟨tbl_cong (fun b c hb hc => like_more hf hq hr b c hb hc), reps_cong (fun b c hb hc => like_more hf hq hr b c hb hc) 256 (by omega)⟩
end Go.Proofs.Ytfilndgbgdnpiaa.st

namespace Go.Proofs.Ytfilndgbgdnpiaa.bd
open nf (Nfa Ed Over Base IsRuns SoFar Rt hasE setOf)
set_option linter.unusedVariables false

def On (σ : List Bool) (t : Int) : Prop := ∃ i : Nat, t = (i : Int) ∧ σ[i]? = some true
structure IsSet (n : Nat) (S : Int → Prop) (σ : List Bool) : Prop where
  len : σ.length = n
  mem : ∀ i (h : i < σ.length), σ[i] = true ↔ S (i : Int)
theorem IsSet.uniq {n : Nat} {S : Int → Prop} {σ τ : List Bool} (h : IsSet n S σ) (k : IsSet n S τ) : σ = τ := by
  refine List.ext_getElem (by rw [h.len, k.len]) fun i h1 h2 => ?_
  rw [Bool.eq_iff_iff, h.mem i h1, k.mem i h2]
theorem IsSet.congr {n : Nat} {S T : Int → Prop} {σ : List Bool} (h : IsSet n S σ) (e : ∀ i : Nat, i < n → (S (i : Int) ↔ T (i : Int))) : IsSet n T σ :=
  ⟨h.len, fun i hi => (h.mem i hi).trans (e i (by rw [← h.len]; exact hi))⟩
theorem set_ex (S : Int → Prop) : ∀ n : Nat, ∃ σ, IsSet n S σ
  | 0 => ⟨[], rfl, fun i h => by simp at h⟩
  | n + 1 => by
    obtain ⟨σ, h⟩ := set_ex S n
    by_cases hs : S (n : Int)
    · refine ⟨σ ++ [true], by simp [h.len], fun i hi => ?_⟩
      by_cases e : i < σ.length
      · rw [List.getElem_append_left e]; exact h.mem i e
      · have e2 : i = n := by have := h.len; simp at hi; omega
        subst e2
        rw [List.getElem_append_right (by omega)]
        simp [hs]
    · refine ⟨σ ++ [false], by simp [h.len], fun i hi => ?_⟩
      by_cases e : i < σ.length
      · rw [List.getElem_append_left e]; exact h.mem i e
      · have e2 : i = n := by have := h.len; simp at hi; omega
        subst e2
        rw [List.getElem_append_right (by omega)]
        simp [hs]
theorem IsSet.on {n : Nat} {S : Int → Prop} {σ : List Bool} (h : IsSet n S σ) (hS : ∀ t, S t → 0 ≤ t ∧ t < (n : Int)) (t : Int) : On σ t ↔ S t := by
  constructor
  · rintro ⟨i, rfl, h1⟩
    obtain ⟨h2, h3⟩ := List.getElem?_eq_some_iff.1 h1
    exact (h.mem i h2).1 h3
  · intro hs
    obtain ⟨h1, h2⟩ := hS t hs
    have h3 : t.toNat < σ.length := by rw [h.len]; omega
    refine ⟨t.toNat, by omega, List.getElem?_eq_some_iff.2 ⟨h3, (h.mem _ h3).2 ?_⟩⟩
    rw [show ((t.toNat : Nat) : Int) = t by omega]
    exact hs
def off (n : Nat) : List Bool := List.replicate n false
theorem off_iff {n : Nat} {S : Int → Prop} {σ : List Bool} (h : IsSet n S σ) : σ = off n ↔ ∀ i : Nat, i < n → ¬ S (i : Int) := by
  constructor
  · intro e i hi hs
    have h1 : i < σ.length := by rw [h.len]; exact hi
    have := (h.mem i h1).2 hs
    subst e
    simp [off] at this
  · intro hn
    refine List.ext_getElem (by rw [h.len]; simp [off]) fun i h1 h2 => ?_
    have : ¬ σ[i] = true := fun e => hn i (by rw [← h.len]; exact h1) ((h.mem i h1).1 e)
    simp [off, this]
/-- where one comes to from a set over a byte -/
def To (x : Nfa) (c : Nat) (σ : List Bool) (t : Int) : Prop := nf.Reach x (Over x c (On σ)) t
def Begin (x : Nfa) (t : Int) : Prop := nf.Reach x (fun s => s = x.s) t
theorem reach_in {x : Nfa} {n : Nat} (R : Rt x n) {P : Int → Prop} (hP : ∀ t, P t → 0 ≤ t ∧ t < (n : Int)) (t : Int) (h : nf.Reach x P t) : 0 ≤ t ∧ t < (n : Int) :=
  h.least (Q := fun t => 0 ≤ t ∧ t < (n : Int)) hP (fun e he _ _ => R.to e he)
theorem over_in {x : Nfa} {n : Nat} (R : Rt x n) {c : Nat} {S : Int → Prop} (t : Int) (h : Over x c S t) : 0 ≤ t ∧ t < (n : Int) := by
  obtain ⟨e, he, _, _, rfl, _⟩ := h
  exact R.to e he
theorem to_in {x : Nfa} {n : Nat} (R : Rt x n) {c : Nat} {σ : List Bool} (t : Int) (h : To x c σ t) : 0 ≤ t ∧ t < (n : Int) := reach_in R (fun t h => over_in R t h) t h
theorem begin_in {x : Nfa} {n : Nat} (R : Rt x n) (t : Int) (h : Begin x t) : 0 ≤ t ∧ t < (n : Int) := reach_in R (fun t h => by rw [h]; exact R.s) t h
theorem over_mono {x : Nfa} {c : Nat} {S T : Int → Prop} (h : ∀ t, S t → T t) {t : Int} (k : Over x c S t) : Over x c T t := by
  obtain ⟨e, a, b, d, f, g⟩ := k
  exact ⟨e, a, b, d, f, h _ g⟩

/-- a list of numbered sets -/
structure Nums (x : Nfa) (n : Nat) (L : List (List Bool)) : Prop where
  len : ∀ σ ∈ L, σ.length = n
  nd : L.Nodup
  ne : ∀ σ ∈ L, σ ≠ off n
  first : ∃ σ, L[0]? = some σ ∧ IsSet n (Begin x) σ
  par : ∀ (k : Nat) τ, L[k + 1]? = some τ → ∃ (j c : Nat) (σ : List Bool), j < k + 1 ∧ c < 256 ∧ L[j]? = some σ ∧ IsSet n (To x c σ) τ
/-- the row of a set -/
structure RowOf (x : Nfa) (n : Nat) (ls : List Nat) (L : List (List Bool)) (σ : List Bool) (r : List Int) : Prop where
  len : r.length = ls.length
  at' : ∀ (c : Nat) y, ls[c]? = some y → ∃ τ, IsSet n (To x y σ) τ ∧ (r[c]? = some (-1) ∧ τ = off n ∨ ∃ k : Nat, r[c]? = some (k : Int) ∧ L[k]? = some τ)
theorem get_pre {α : Type} {L M : List α} (h : L <+: M) {k : Nat} {a : α} (e : L[k]? = some a) : M[k]? = some a := by
  obtain ⟨t, rfl⟩ := h
  rw [List.getElem?_append_left (List.getElem?_eq_some_iff.1 e).1]
  exact e
theorem RowOf.more {x : Nfa} {n : Nat} {ls : List Nat} {L M : List (List Bool)} {σ : List Bool} {r : List Int} (h : RowOf x n ls L σ r) (p : L <+: M) : RowOf x n ls M σ r :=
  ⟨h.len, fun c y hc => by
    obtain ⟨τ, h1, h2⟩ := h.at' c y hc
    refine ⟨τ, h1, ?_⟩
    rcases h2 with h2 | ⟨k, h3, h4⟩
    · exact .inl h2
    · exact .inr ⟨k, h3, get_pre p h4⟩⟩
/-- what is built -/
structure Built (x : Nfa) (n : Nat) (ls : List Nat) (L : List (List Bool)) (d : df.Dfa) : Prop where
  nums : Nums x n L
  rows : d.next.length = L.length
  row : ∀ (k : Nat) σ r, L[k]? = some σ → d.next[k]? = some r → RowOf x n ls L σ r
  acc : d.acc = L.map fun σ => σ.getD x.e.toNat false
  l1 : 1 ≤ ls.length
  l2 : ls.length ≤ 256
  lb : ∀ y ∈ ls, y < 256
  cls : ∀ b, b < 256 → ∃ y, ls[d.cls b]? = some y ∧ ∀ e ∈ x.edges, e.free = false → hasE e b = hasE e y
  own : ∀ (c : Nat) y, ls[c]? = some y → d.cls y = c
theorem over_alike {x : Nfa} {b y : Nat} (h : ∀ e ∈ x.edges, e.free = false → hasE e b = hasE e y) {S : Int → Prop} (t : Int) : Over x b S t ↔ Over x y S t := by
  constructor
  · rintro ⟨e, a, c, d, f, g⟩
    exact ⟨e, a, c, by rw [← h e a c]; exact d, f, g⟩
  · rintro ⟨e, a, c, d, f, g⟩
    exact ⟨e, a, c, by rw [h e a c]; exact d, f, g⟩
theorem to_alike {x : Nfa} {b y : Nat} (h : ∀ e ∈ x.edges, e.free = false → hasE e b = hasE e y) {σ : List Bool} (t : Int) : To x b σ t ↔ To x y σ t :=
  ⟨fun r => r.mono fun t => (over_alike h t).1, fun r => r.mono fun t => (over_alike h t).2⟩
section
variable {x : Nfa} {n : Nat} {ls : List Nat} {L : List (List Bool)} {d : df.Dfa}
theorem Built.pos (h : Built x n ls L d) : 1 ≤ L.length := by
  obtain ⟨σ, h1, _⟩ := h.nums.first
  have := (List.getElem?_eq_some_iff.1 h1).1
  omega
theorem Built.wide (h : Built x n ls L d) (k : Nat) (r : List Int) (hk : d.next[k]? = some r) : r.length = ls.length := by
  have h1 := (List.getElem?_eq_some_iff.1 hk).1
  rw [h.rows] at h1
  exact (h.row k _ r (List.getElem?_eq_getElem h1) hk).len
theorem Built.width (h : Built x n ls L d) : df.width d = ls.length := by
  unfold df.width
  have h1 := h.pos
  rw [← h.rows] at h1
  rw [List.getElem?_eq_getElem (by omega : 0 < d.next.length)]
  exact h.wide 0 _ (List.getElem?_eq_getElem (by omega))
theorem Built.go (h : Built x n ls L d) (k : Nat) (σ : List Bool) (hk : L[k]? = some σ) (b : Nat) (hb : b < 256) : ∃ τ, IsSet n (To x b σ) τ ∧ (df.nxt d k (d.cls b) = -1 ∧ τ = off n ∨ ∃ j : Nat, df.nxt d k (d.cls b) = (j : Int) ∧ L[j]? = some τ) := by
  have h1 := (List.getElem?_eq_some_iff.1 hk).1
  have h2 : k < d.next.length := by rw [h.rows]; exact h1
  have hr := h.row k σ _ hk (List.getElem?_eq_getElem h2)
  obtain ⟨y, hy, ha⟩ := h.cls b hb
  obtain ⟨τ, ht, hq⟩ := hr.at' _ y hy
  refine ⟨τ, ht.congr fun i _ => (to_alike ha _).symm, ?_⟩
  unfold df.nxt
  rw [List.getElem?_eq_getElem h2]
  rcases hq with ⟨e1, e2⟩ | ⟨j, e1, e2⟩
  · exact .inl ⟨by simp [e1], e2⟩
  · exact .inr ⟨j, by simp [e1], e2⟩
theorem Built.right (h : Built x n ls L d) (hL : L.length ≤ 400) : df.right d = true := by
  have h0 := h.pos
  unfold df.right
  rw [h.width, h.rows, h.acc]
  have h3 : d.next.all (df.rowOk L.length ls.length) = true := by
    rw [List.all_eq_true]
    intro r hr
    obtain ⟨k, hk, rfl⟩ := List.mem_iff_getElem.1 hr
    have hk2 : k < L.length := by rw [← h.rows]; exact hk
    have hro := h.row k _ _ (List.getElem?_eq_getElem hk2) (List.getElem?_eq_getElem hk)
    unfold df.rowOk df.goOn
    rw [hro.len]
    simp only [beq_self_eq_true, Bool.true_and, List.all_eq_true, Bool.and_eq_true, decide_eq_true_eq]
    intro y hy
    obtain ⟨c, hc, rfl⟩ := List.mem_iff_getElem.1 hy
    have hc2 : c < ls.length := by rw [← hro.len]; exact hc
    obtain ⟨τ, _, hq⟩ := hro.at' c _ (List.getElem?_eq_getElem hc2)
    rw [List.getElem?_eq_getElem hc] at hq
    rcases hq with ⟨e1, _⟩ | ⟨j, e1, e2⟩
    · rw [Option.some.inj e1]; omega
    · rw [Option.some.inj e1]; have := (List.getElem?_eq_some_iff.1 e2).1; omega
  have h4 : df.clsOk d = true := by
    unfold df.clsOk
    rw [h.width]
    simp only [List.all_eq_true, decide_eq_true_eq, List.mem_range]
    intro b hb
    obtain ⟨y, hy, _⟩ := h.cls b hb
    exact (List.getElem?_eq_some_iff.1 hy).1
  have := h.l1
  have := h.l2
  rw [h3, h4]
  simp
  omega
theorem Built.acpt (h : Built x n ls L d) (R : Rt x n) (k : Nat) (σ : List Bool) (hk : L[k]? = some σ) (S : Int → Prop) (hs : IsSet n S σ) : df.acpt d k = true ↔ S x.e := by
  unfold df.acpt
  rw [h.acc, List.getElem?_map, hk]
  have h1 := R.e
  have h2 : x.e.toNat < σ.length := by rw [hs.len]; omega
  simp only [Option.map_some, Option.getD_some, List.getD_eq_getElem?_getD, List.getElem?_eq_getElem h2]
  rw [hs.mem _ h2, show ((x.e.toNat : Nat) : Int) = x.e by omega]
end
/-- what is taken from the k-th byte on is what is not so far -/
theorem takes {x : Nfa} {n : Nat} {ls : List Nat} {L : List (List Bool)} {d : df.Dfa} (R : Rt x n) (h : Built x n ls L d) (s : ByteArray) (at' : Nat) : ∀ f k q (es : List Int), at' + k + f = s.size →
    SoFar x (df.byteAt s) at' k es → (q = -1 ∧ (∀ t, ¬ Base x (df.byteAt s) at' k t) ∨ ∃ (j : Nat) (σ : List Bool), q = (j : Int) ∧ L[j]? = some σ ∧ IsSet n (nf.Reach x (Base x (df.byteAt s) at' k)) σ) →
    IsRuns x (df.byteAt s) at' s.size (es ++ df.ends d s f q (at' + k)) := by
  intro f
  induction f with
  | zero =>
    intro k q es hk hso hq
    rcases hq with ⟨rfl, hn⟩ | ⟨j, σ, rfl, hj, hσ⟩
    · rw [df.ends_neg d s 0 _ _ (by omega), List.append_nil]
      exact hso.none (by omega) hn
    · rw [df.ends_zero]
      have ha := h.acpt R j σ hj _ hσ
      cases hb : df.acpt d j with
      | true =>
        unfold df.here
        rw [hb, if_pos rfl]
        exact (hso.yes (ha.1 hb)).all (by omega)
      | false =>
        unfold df.here
        rw [hb]
        simp only [Bool.false_eq_true, if_false, List.append_nil]
        exact (hso.no (fun e => by rw [ha.2 e] at hb; cases hb)).all (by omega)
  | succ f ih =>
    intro k q es hk hso hq
    rcases hq with ⟨rfl, hn⟩ | ⟨j, σ, rfl, hj, hσ⟩
    · rw [df.ends_neg d s _ _ _ (by omega), List.append_nil]
      exact hso.none (by omega) hn
    · rw [df.ends_succ, ← List.append_assoc]
      have ha := h.acpt R j σ hj _ hσ
      have hin : ∀ t, nf.Reach x (Base x (df.byteAt s) at' k) t → 0 ≤ t ∧ t < (n : Int) := by
        refine reach_in R ?_
        cases k with
        | zero => intro t ht; rw [show t = x.s from ht]; exact R.s
        | succ k => intro t ht; exact over_in R t ht
      obtain ⟨τ, hτ, hgo⟩ := h.go j σ hj (df.byteAt s (at' + k)) (df.byte_lt _ _)
      have hov : ∀ t, Over x (df.byteAt s (at' + k)) (On σ) t ↔ Base x (df.byteAt s) at' (k + 1) t := fun t =>
        ⟨fun r => over_mono (fun u hu => (hσ.on hin u).1 hu) r, fun r => over_mono (fun u hu => (hσ.on hin u).2 hu) r⟩
      have hτ2 : IsSet n (nf.Reach x (Base x (df.byteAt s) at' (k + 1))) τ := hτ.congr fun i _ => ⟨fun r => r.mono fun t => (hov t).1, fun r => r.mono fun t => (hov t).2⟩
      have hgo2 : df.nxt d j (d.cls (df.byteAt s (at' + k))) = -1 ∧ (∀ t, ¬ Base x (df.byteAt s) at' (k + 1) t) ∨ ∃ (j' : Nat) (σ' : List Bool), df.nxt d j (d.cls (df.byteAt s (at' + k))) = (j' : Int) ∧ L[j']? = some σ' ∧ IsSet n (nf.Reach x (Base x (df.byteAt s) at' (k + 1))) σ' := by
        rcases hgo with ⟨e1, e2⟩ | ⟨j', e1, e2⟩
        · refine .inl ⟨e1, fun t ht => ?_⟩
          have h1 := over_in R t ht
          have h2 := (off_iff hτ2).1 e2 t.toNat (by omega)
          rw [show ((t.toNat : Nat) : Int) = t by omega] at h2
          exact h2 (.base ht)
        · exact .inr ⟨j', τ, e1, e2, hτ2⟩
      have hs2 : SoFar x (df.byteAt s) at' (k + 1) (es ++ df.here d j (at' + k)) := by
        unfold df.here
        cases hb : df.acpt d j with
        | true => exact hso.yes (ha.1 hb)
        | false =>
          simp only [Bool.false_eq_true, if_false, List.append_nil]
          exact hso.no (fun e => by rw [ha.2 e] at hb; cases hb)
      have := ih (k + 1) _ _ (by omega) hs2 hgo2
      rw [show at' + (k + 1) = at' + k + 1 by omega] at this
      exact this
theorem takes_all {x : Nfa} {n : Nat} {ls : List Nat} {L : List (List Bool)} {d : df.Dfa} (R : Rt x n) (h : Built x n ls L d) (hL : L.length ≤ 400) (s : ByteArray) (at' : Nat) (hat : at' ≤ s.size) : IsRuns x (df.byteAt s) at' s.size (df.ends d s (s.size - at') 0 at') := by
  obtain ⟨σ, h1, h2⟩ := h.nums.first
  have := takes R h s at' (s.size - at') 0 0 [] (by omega) (.zero x _ at') (.inr ⟨0, σ, rfl, h1, h2⟩)
  simpa using this

/-! which sets are reached -/
inductive RSet (x : Nfa) (n : Nat) : List Bool → Prop
  | first {σ : List Bool} : IsSet n (Begin x) σ → RSet x n σ
  | step {σ τ : List Bool} {c : Nat} : RSet x n σ → c < 256 → IsSet n (To x c σ) τ → τ ≠ off n → RSet x n τ
theorem Nums.reached {x : Nfa} {n : Nat} {L : List (List Bool)} (h : Nums x n L) : ∀ (k : Nat) σ, L[k]? = some σ → RSet x n σ := by
  intro k
  induction k using Nat.strongRecOn with
  | ind k ih =>
    intro σ hk
    cases k with
    | zero =>
      obtain ⟨τ, h1, h2⟩ := h.first
      rw [h1] at hk
      cases hk
      exact .first h2
    | succ k =>
      obtain ⟨j, c, ρ, h1, h2, h3, h4⟩ := h.par k σ hk
      exact .step (ih j h1 ρ h3) h2 h4 (h.ne σ (List.mem_of_getElem? hk))
theorem Built.closed {x : Nfa} {n : Nat} {ls : List Nat} {L : List (List Bool)} {d : df.Dfa} (h : Built x n ls L d) {σ : List Bool} (r : RSet x n σ) : σ ∈ L := by
  induction r with
  | first hs =>
    obtain ⟨τ, h1, h2⟩ := h.nums.first
    rw [hs.uniq h2]
    exact List.mem_of_getElem? h1
  | step hr hc ht hne ih =>
    obtain ⟨k, hk⟩ := List.getElem?_of_mem ih
    obtain ⟨τ, h1, h2⟩ := h.go k _ hk _ hc
    rw [ht.uniq h1]
    rcases h2 with ⟨_, e⟩ | ⟨j, _, e⟩
    · exact absurd (ht.uniq h1 ▸ e) hne
    · exact List.mem_of_getElem? e
theorem few_of : ∀ {L M : List (List Bool)}, L.Nodup → (∀ a ∈ L, a ∈ M) → L.length ≤ M.length
  | [], _, _, _ => Nat.zero_le _
  | a :: L, M, h, hs => by
    have h1 := List.nodup_cons.1 h
    have h2 : L.length ≤ (M.erase a).length := few_of h1.2 fun b hb => (List.mem_erase_of_ne (fun (e : b = a) => h1.1 (by rw [← e]; exact hb))).2 (hs b (List.mem_cons_of_mem _ hb))
    have h3 := List.length_erase_of_mem (hs a List.mem_cons_self)
    have h4 := List.length_pos_of_mem (hs a List.mem_cons_self)
    simp
    omega
/-- each state is reached -/
theorem Built.way {x : Nfa} {n : Nat} {ls : List Nat} {L : List (List Bool)} {d : df.Dfa} (h : Built x n ls L d) (k : Nat) (hk : k + 1 < L.length) : ∃ j b, j < k + 1 ∧ b < 256 ∧ df.nxt d j (d.cls b) = ((k + 1 : Nat) : Int) := by
  obtain ⟨j, c, σ, h1, h2, h3, h4⟩ := h.nums.par k _ (List.getElem?_eq_getElem hk)
  obtain ⟨τ, h5, h6⟩ := h.go j σ h3 c h2
  have e := h4.uniq h5
  refine ⟨j, c, h1, h2, ?_⟩
  rcases h6 with ⟨_, e2⟩ | ⟨i, e1, e2⟩
  · exact absurd (e ▸ e2) (h.nums.ne _ (List.getElem_mem hk))
  · obtain ⟨hi, e3⟩ := List.getElem?_eq_some_iff.1 e2
    rw [e1]
    have : i = k + 1 := (List.getElem_inj h.nums.nd).1 (e3.trans e.symm)
    rw [this]
end Go.Proofs.Ytfilndgbgdnpiaa.bd
