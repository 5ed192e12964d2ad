/-
  Plain mathematics, no program: the classes into which sets part the bytes; texts of bits; a list without its repeats.
-/
import Derived.Test.YtfpihoghpogblaaSets
namespace Go.Proofs.Ytfpihoghpogblaa.st
set_option linter.unusedVariables false

/-- which sets a byte is in -/
def sig (l : List Q4) (b : Nat) : List Bool := l.map (fun q => has q b)
theorem sig_length (l : List Q4) (b : Nat) : (sig l b).length = l.length := by unfold sig; simp
theorem sig_eq (l : List Q4) (b c : Nat) : sig l b = sig l c ↔ ∀ q ∈ l, has q b = has q c := by
  unfold sig
  exact List.map_inj_left

/-- the least bytes of the classes of the bytes below a number, by a test of likeness -/
def repsBy (p : Nat → Nat → Bool) : Nat → List Nat
  | 0 => []
  | i + 1 => if (repsBy p i).any (fun c => p i c) then repsBy p i else repsBy p i ++ [i]
def clsBy (p : Nat → Nat → Bool) (b : Nat) : Nat := (repsBy p (b + 1)).findIdx (fun c => p b c)
def like (l : List Q4) (b c : Nat) : Bool := decide (sig l b = sig l c)

theorem repsBy_in {p : Nat → Nat → Bool} {i : Nat} (h : (repsBy p i).any (fun c => p i c) = true) : repsBy p (i + 1) = repsBy p i := by
  rw [repsBy, if_pos h]
theorem repsBy_out {p : Nat → Nat → Bool} {i : Nat} (h : (repsBy p i).any (fun c => p i c) = false) : repsBy p (i + 1) = repsBy p i ++ [i] := by
  rw [repsBy, if_neg (by rw [h]; simp)]
theorem repsBy_lt (p : Nat → Nat → Bool) (i : Nat) : ∀ c ∈ repsBy p i, c < i := by
  induction i with
  | zero => simp [repsBy]
  | succ i ih =>
    intro c hc
    cases h : (repsBy p i).any (fun c => p i c)
    · rw [repsBy_out h] at hc
      rcases List.mem_append.1 hc with hc | hc
      · have := ih c hc; omega
      · simp at hc; omega
    · rw [repsBy_in h] at hc
      have := ih c hc; omega
theorem repsBy_length (p : Nat → Nat → Bool) (i : Nat) : (repsBy p i).length ≤ i := by
  induction i with
  | zero => simp [repsBy]
  | succ i ih =>
    cases h : (repsBy p i).any (fun c => p i c)
    · rw [repsBy_out h, List.length_append]; simp; omega
    · rw [repsBy_in h]; omega
theorem clsBy_in {p : Nat → Nat → Bool} {i : Nat} (h : (repsBy p i).any (fun c => p i c) = true) : clsBy p i = (repsBy p i).findIdx (fun c => p i c) ∧ clsBy p i < (repsBy p i).length := by
  unfold clsBy
  rw [repsBy_in h]
  refine ⟨rfl, List.findIdx_lt_length.2 ?_⟩
  exact List.any_eq_true.1 h
theorem clsBy_out {p : Nat → Nat → Bool} {i : Nat} (hp : p i i = true) (h : (repsBy p i).any (fun c => p i c) = false) : clsBy p i = (repsBy p i).length := by
  unfold clsBy
  rw [repsBy_out h, List.findIdx_append]
  have : ¬ (repsBy p i).findIdx (fun c => p i c) < (repsBy p i).length := by
    rw [List.findIdx_lt_length]
    rintro ⟨x, hx, hpx⟩
    have := List.any_eq_false.1 h x hx
    exact this hpx
  rw [if_neg this]
  simp [List.findIdx_cons, hp]
theorem clsBy_lt (p : Nat → Nat → Bool) (i : Nat) (hp : p i i = true) : clsBy p i ≤ i := by
  have := repsBy_length p i
  cases h : (repsBy p i).any (fun c => p i c)
  · rw [clsBy_out hp h]; omega
  · have := (clsBy_in h).2; omega
theorem repsBy_congr {p r : Nat → Nat → Bool} (h : ∀ i c, p i c = r i c) (i : Nat) : repsBy p i = repsBy r i := by
  have : p = r := by funext a b; exact h a b
  rw [this]
theorem clsBy_congr {p r : Nat → Nat → Bool} (h : ∀ i c, p i c = r i c) (i : Nat) : clsBy p i = clsBy r i := by
  have : p = r := by funext a b; exact h a b
  rw [this]

/-- the table of the classes, as far as it is made -/
def tbl (p : Nat → Nat → Bool) (i : Nat) : List Nat := (List.range i).map (clsBy p) ++ List.replicate (256 - i) 0
theorem tbl_length (p : Nat → Nat → Bool) (i : Nat) (h : i ≤ 256) : (tbl p i).length = 256 := by unfold tbl; simp; omega
theorem tbl_step (p : Nat → Nat → Bool) (i : Nat) (h : i < 256) : (tbl p i).set i (clsBy p i) = tbl p (i + 1) := by
  unfold tbl
  have e : 256 - i = (256 - (i + 1)) + 1 := by omega
  rw [List.range_succ, List.map_append, e, List.replicate_succ, List.set_append]
  simp
theorem tbl_zero (p : Nat → Nat → Bool) : tbl p 0 = List.replicate 256 0 := rfl
theorem tbl_at (p : Nat → Nat → Bool) (b : Nat) (h : b < 256) : (tbl p 256)[b]? = some (clsBy p b) := by
  unfold tbl
  simp [h]

/-! ### a list without its repeats -/
instance : DecidableEq Q4 := fun q r =>
  if h : q.a = r.a ∧ q.b = r.b ∧ q.c = r.c ∧ q.d = r.d then isTrue (by cases q; cases r; simp_all) else isFalse (by rintro rfl; simp at h)
def diff : List Q4 → List Q4 → List Q4
  | acc, [] => acc
  | acc, q :: l => if q ∈ acc then diff acc l else diff (acc ++ [q]) l
theorem diff_length (l acc : List Q4) : (diff acc l).length ≤ acc.length + l.length := by
  induction l generalizing acc with
  | nil => simp [diff]
  | cons q l ih =>
    unfold diff
    split
    · have := ih acc; simp; omega
    · have := ih (acc ++ [q]); simp at this ⊢; omega
theorem mem_diff (l acc : List Q4) (q : Q4) : q ∈ diff acc l ↔ q ∈ acc ∨ q ∈ l := by
  induction l generalizing acc with
  | nil => simp [diff]
  | cons x l ih =>
    unfold diff
    split
    · rename_i hx
      rw [ih, List.mem_cons]
      constructor
      · rintro (h | h)
        · exact .inl h
        · exact .inr (.inr h)
      · rintro (h | rfl | h)
        · exact .inl h
        · exact .inl hx
        · exact .inr h
    · rw [ih, List.mem_append, List.mem_singleton, List.mem_cons]
      constructor
      · rintro ((h | h) | h)
        · exact .inl h
        · exact .inr (.inl h)
        · exact .inr (.inr h)
      · rintro (h | h | h)
        · exact .inl (.inl h)
        · exact .inl (.inr h)
        · exact .inr h
theorem like_diff (l : List Q4) (b c : Nat) : like (diff [] l) b c = like l b c := by
  unfold like
  rw [decide_eq_decide, sig_eq, sig_eq]
  constructor
  · intro h q hq
    exact h q ((mem_diff l [] q).2 (.inr hq))
  · intro h q hq
    rcases (mem_diff l [] q).1 hq with h1 | h1
    · simp at h1
    · exact h q h1
theorem diff_take (l : List Q4) (acc : List Q4) (q : Q4) : diff acc (l ++ [q]) = if q ∈ diff acc l then diff acc l else diff acc l ++ [q] := by
  induction l generalizing acc with
  | nil =>
    rw [List.nil_append]
    simp only [diff]
    by_cases h : q ∈ acc <;> simp [h]
  | cons x l ih =>
    rw [List.cons_append]
    unfold diff
    split
    · rw [ih]
    · rw [ih]

/-! ### a text of bits -/
def packTo (s : List Bool) : Nat → List Nat
  | 0 => List.replicate ((s.length + 7) / 8) 0
  | i + 1 => if s.getD i false then (packTo s i).set (i / 8) ((packTo s i).getD (i / 8) 0 ||| 2 ^ (i % 8)) else packTo s i
theorem packTo_length (s : List Bool) (i : Nat) : (packTo s i).length = (s.length + 7) / 8 := by
  induction i with
  | zero => simp [packTo]
  | succ i ih =>
    unfold packTo
    split
    · simp [ih]
    · exact ih
theorem getD_lt_256 (l : List Nat) (h : ∀ x ∈ l, x < 256) (i : Nat) : l.getD i 0 < 256 := by
  rw [List.getD_eq_getElem?_getD]
  cases hi : l[i]? with
  | none => simp
  | some v => exact h v (List.mem_of_getElem? hi)
theorem packTo_lt (s : List Bool) (i : Nat) : ∀ x ∈ packTo s i, x < 256 := by
  induction i with
  | zero => intro x hx; simp [packTo] at hx; omega
  | succ i ih =>
    unfold packTo
    split
    · intro x hx
      rcases List.mem_or_eq_of_mem_set hx with h | h
      · exact ih x h
      · rw [h]
        exact Nat.or_lt_two_pow (n := 8) (getD_lt_256 _ ih _) (Nat.pow_lt_pow_right (by omega) (by omega))
    · exact ih
theorem packTo_bit (s : List Bool) (i : Nat) (hi : i ≤ s.length) (m : Nat) (hm : m < s.length) : ((packTo s i).getD (m / 8) 0).testBit (m % 8) = (decide (m < i) && s.getD m false) := by
  induction i with
  | zero =>
    simp only [packTo, Nat.not_lt_zero, decide_false, Bool.false_and]
    rw [List.getD_eq_getElem?_getD, List.getElem?_replicate]
    split <;> simp
  | succ i ih =>
    have h1 := ih (by omega)
    have hlen := packTo_length s i
    unfold packTo
    cases hs : s.getD i false
    · simp only [Bool.false_eq_true, if_false]
      rw [h1]
      by_cases hmi : m = i
      · subst hmi; rw [hs]; simp
      · have : decide (m < i + 1) = decide (m < i) := by rw [decide_eq_decide]; omega
        rw [this]
    · simp only [if_true]
      by_cases hk : i / 8 = m / 8
      · rw [hk, List.getD_eq_getElem?_getD, List.getElem?_set_self (by omega), Option.getD_some, Nat.testBit_or, h1, Nat.testBit_two_pow]
        by_cases hmi : m = i
        · subst hmi
          rw [hs]
          simp
        · have e1 : decide (i % 8 = m % 8) = false := by simp; omega
          have e2 : decide (m < i + 1) = decide (m < i) := by rw [decide_eq_decide]; omega
          rw [e1, e2, Bool.or_false]
      · rw [List.getD_eq_getElem?_getD, List.getElem?_set_ne hk, ← List.getD_eq_getElem?_getD, h1]
        have hne : i ≠ m := fun e => hk (by rw [e])
        have e2 : decide (m < i + 1) = decide (m < i) := by rw [decide_eq_decide]; omega
        rw [e2]
theorem pack_inj {s t : List Bool} (hl : s.length = t.length) (h : packTo s s.length = packTo t t.length) : s = t := by
  apply List.ext_getElem? 
  intro m
  by_cases hm : m < s.length
  · have h1 := packTo_bit s s.length (Nat.le_refl _) m hm
    have h2 := packTo_bit t t.length (Nat.le_refl _) m (by omega)
    rw [h, h2] at h1
    have e1 : decide (m < t.length) = true := by simp; omega
    have e2 : decide (m < s.length) = true := by simp; omega
    rw [e1, e2, Bool.true_and, Bool.true_and, List.getD_eq_getElem?_getD, List.getD_eq_getElem?_getD, List.getElem?_eq_getElem hm, List.getElem?_eq_getElem (by omega : m < t.length)] at h1
    rw [List.getElem?_eq_getElem hm, List.getElem?_eq_getElem (by omega : m < t.length)]
    simp at h1
    rw [h1]
  · rw [List.getElem?_eq_none (by omega), List.getElem?_eq_none (by omega)]
/-- the text of bits of a byte -/
def key (l : List Q4) (b : Nat) : List UInt8 := (packTo (sig l b) l.length).map UInt8.ofNat
theorem key_eq (l : List Q4) (b c : Nat) : key l b = key l c ↔ sig l b = sig l c := by
  unfold key
  constructor
  · intro h
    refine pack_inj (by rw [sig_length, sig_length]) ?_
    rw [sig_length, sig_length]
    have hx := packTo_lt (sig l b) l.length
    have hy := packTo_lt (sig l c) l.length
    generalize packTo (sig l b) l.length = x at *
    generalize packTo (sig l c) l.length = y at *
    apply List.ext_getElem?
    intro i
    have := congrArg (fun z : List UInt8 => z[i]?) h
    simp only [List.getElem?_map] at this
    cases h1 : x[i]? <;> cases h2 : y[i]? <;> rw [h1, h2] at this <;> simp at this
    · rename_i u v
      have hu := hx u (List.mem_of_getElem? h1)
      have hv := hy v (List.mem_of_getElem? h2)
      have := congrArg UInt8.toNat this
      simp [Nat.mod_eq_of_lt hu, Nat.mod_eq_of_lt hv] at this
      rw [this]
  · intro h
    rw [h]
theorem key_length (l : List Q4) (b : Nat) : (key l b).length = (l.length + 7) / 8 := by
  unfold key
  rw [List.length_map, packTo_length, sig_length]
end Go.Proofs.Ytfpihoghpogblaa.st
