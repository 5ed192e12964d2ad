/-
  Plain mathematics, no program: a set of bytes as four numbers below 2^64; what is in it, and what sets are made of it.
-/
import Derived.WalkKit
namespace Go.Proofs.YtfclidcfhadohaaDoor.st
set_option linter.unusedVariables false

structure Q4 where
  a : Nat
  b : Nat
  c : Nat
  d : Nat

def word (q : Q4) : Nat → Nat
  | 0 => q.a
  | 1 => q.b
  | 2 => q.c
  | 3 => q.d
  | _ => 0
def mk4 (f : Nat → Nat) : Q4 := ⟨f 0, f 1, f 2, f 3⟩
def two64 : Nat := 18446744073709551616
theorem two64_pow : two64 = 2 ^ 64 := by decide
structure Fits (q : Q4) : Prop where
  a : q.a < 18446744073709551616
  b : q.b < 18446744073709551616
  c : q.c < 18446744073709551616
  d : q.d < 18446744073709551616

def has (q : Q4) (n : Nat) : Bool := (word q (n / 64)).testBit (n % 64)

theorem word_mk4 (f : Nat → Nat) (i : Nat) (h : i < 4) : word (mk4 f) i = f i := by
  match i, h with
  | 0, _ => rfl
  | 1, _ => rfl
  | 2, _ => rfl
  | 3, _ => rfl
  | n + 4, h => omega
theorem has_mk4 (f : Nat → Nat) (n : Nat) (h : n < 256) : has (mk4 f) n = (f (n / 64)).testBit (n % 64) := by
  unfold has
  rw [word_mk4 f _ (by omega)]
theorem Fits.word {q : Q4} (h : Fits q) (i : Nat) : word q i < 2 ^ 64 := by
  have := h.a; have := h.b; have := h.c; have := h.d
  match i with
  | 0 => simp only [st.word]; omega
  | 1 => simp only [st.word]; omega
  | 2 => simp only [st.word]; omega
  | 3 => simp only [st.word]; omega
  | n + 4 => simp only [st.word]; omega
theorem fits_mk4 {f : Nat → Nat} (h : ∀ i, f i < 2 ^ 64) : Fits (mk4 f) :=
  ⟨Nat.lt_of_lt_of_le (h 0) (by decide), Nat.lt_of_lt_of_le (h 1) (by decide), Nat.lt_of_lt_of_le (h 2) (by decide), Nat.lt_of_lt_of_le (h 3) (by decide)⟩

theorem word_ext {x y : Nat} (hx : x < 2 ^ 64) (hy : y < 2 ^ 64) (h : ∀ j, j < 64 → x.testBit j = y.testBit j) : x = y := by
  apply Nat.eq_of_testBit_eq
  intro j
  by_cases hj : j < 64
  · exact h j hj
  · rw [Nat.testBit_lt_two_pow (Nat.lt_of_lt_of_le hx (Nat.pow_le_pow_right (by omega) (by omega))), Nat.testBit_lt_two_pow (Nat.lt_of_lt_of_le hy (Nat.pow_le_pow_right (by omega) (by omega)))]

theorem ext {q r : Q4} (hq : Fits q) (hr : Fits r) (h : ∀ n, n < 256 → has q n = has r n) : q = r := by
  have key : ∀ i, i < 4 → word q i = word r i := by
    intro i hi
    refine word_ext (hq.word i) (hr.word i) fun j hj => ?_
    have := h (64 * i + j) (by omega)
    unfold has at this
    rw [show (64 * i + j) / 64 = i from by omega, show (64 * i + j) % 64 = j from by omega] at this
    exact this
  have h0 := key 0 (by omega)
  have h1 := key 1 (by omega)
  have h2 := key 2 (by omega)
  have h3 := key 3 (by omega)
  cases q; cases r
  simp only [word] at h0 h1 h2 h3
  rw [h0, h1, h2, h3]

def none4 : Q4 := ⟨0, 0, 0, 0⟩
theorem fits_none : Fits none4 := ⟨by decide, by decide, by decide, by decide⟩
theorem has_none (n : Nat) : has none4 n = false := by
  unfold has
  have : word none4 (n / 64) = 0 := by
    generalize n / 64 = i
    match i with
    | 0 => rfl
    | 1 => rfl
    | 2 => rfl
    | 3 => rfl
    | n + 4 => rfl
  rw [this, Nat.zero_testBit]

/-- a set, and a byte -/
def wth (q : Q4) (n : Nat) : Q4 := mk4 fun i => if i = n / 64 then word q i ||| 2 ^ (n % 64) else word q i
theorem fits_wth {q : Q4} (h : Fits q) (n : Nat) : Fits (wth q n) := by
  refine fits_mk4 fun i => ?_
  split
  · exact Nat.or_lt_two_pow (h.word i) (Nat.pow_lt_pow_right (by omega) (by omega))
  · exact h.word i
theorem has_wth (q : Q4) (n m : Nat) (hm : m < 256) : has (wth q n) m = (decide (m = n) || has q m) := by
  unfold wth
  rw [has_mk4 _ _ hm]
  by_cases h : m / 64 = n / 64
  · rw [if_pos h, Nat.testBit_or, Nat.testBit_two_pow, Bool.or_comm]
    unfold has
    congr 1
    rw [decide_eq_decide]
    omega
  · rw [if_neg h]
    have : decide (m = n) = false := by simp; intro e; exact h (by rw [e])
    rw [this, Bool.false_or]
    rfl

def ofl (l : List Nat) : Q4 := l.foldl wth none4
theorem foldl_fits (l : List Nat) (q : Q4) (h : Fits q) : Fits (l.foldl wth q) := by
  induction l generalizing q with
  | nil => exact h
  | cons x l ih => exact ih _ (fits_wth h x)
theorem foldl_has (l : List Nat) (q : Q4) (m : Nat) (hm : m < 256) : has (l.foldl wth q) m = (decide (m ∈ l) || has q m) := by
  induction l generalizing q with
  | nil => simp
  | cons x l ih =>
    rw [List.foldl_cons, ih, has_wth q x m hm]
    by_cases h1 : m = x <;> by_cases h2 : m ∈ l <;> simp [h1, h2]
theorem fits_ofl (l : List Nat) : Fits (ofl l) := foldl_fits l _ fits_none
theorem has_ofl (l : List Nat) (m : Nat) (hm : m < 256) : has (ofl l) m = decide (m ∈ l) := by
  unfold ofl
  rw [foldl_has l _ m hm, has_none, Bool.or_false]

/-- the bytes of a set, rising -/
def mem (q : Q4) : List Nat := (List.range 256).filter (has q)
theorem ofl_mem {q : Q4} (h : Fits q) : ofl (mem q) = q := by
  refine ext (fits_ofl _) h fun n hn => ?_
  rw [has_ofl _ _ hn]
  unfold mem
  cases hh : has q n <;> simp [hh, hn]
theorem mem_lt {q : Q4} {n : Nat} (h : n ∈ mem q) : n < 256 := by
  unfold mem at h
  simpa using (List.mem_filter.1 h).1

def jn (q r : Q4) : Q4 := mk4 fun i => word q i ||| word r i
def mt (q r : Q4) : Q4 := mk4 fun i => word q i &&& word r i
def nt (q : Q4) : Q4 := mk4 fun i => 2 ^ 64 - (word q i + 1)
theorem fits_jn {q r : Q4} (hq : Fits q) (hr : Fits r) : Fits (jn q r) := fits_mk4 fun i => Nat.or_lt_two_pow (hq.word i) (hr.word i)
theorem fits_mt {q r : Q4} (hq : Fits q) (hr : Fits r) : Fits (mt q r) := fits_mk4 fun i => Nat.and_lt_two_pow _ (hr.word i)
theorem fits_nt (q : Q4) : Fits (nt q) := fits_mk4 fun i => by have : 0 < 2 ^ 64 := by decide
                                                               omega
theorem has_jn (q r : Q4) (n : Nat) (h : n < 256) : has (jn q r) n = (has q n || has r n) := by
  unfold jn
  rw [has_mk4 _ _ h, Nat.testBit_or]
  rfl
theorem has_mt (q r : Q4) (n : Nat) (h : n < 256) : has (mt q r) n = (has q n && has r n) := by
  unfold mt
  rw [has_mk4 _ _ h, Nat.testBit_and]
  rfl
theorem has_nt {q : Q4} (hq : Fits q) (n : Nat) (h : n < 256) : has (nt q) n = !has q n := by
  unfold nt
  rw [has_mk4 _ _ h, Nat.testBit_two_pow_sub_succ (hq.word _)]
  have : decide (n % 64 < 64) = true := by simp; omega
  rw [this, Bool.true_and]
  rfl

/-! ### how many -/
def cnt (q : Q4) : Nat := (mem q).length
def ones (x : Nat) : Nat := (List.range 64).countP (fun j => x.testBit j)
theorem countP_add (p : Nat → Bool) (n m : Nat) : (List.range (n + m)).countP p = (List.range n).countP p + (List.range m).countP (fun j => p (n + j)) := by
  induction m with
  | zero => simp
  | succ m ih => rw [← Nat.add_assoc, List.range_succ, List.range_succ, List.countP_append, List.countP_append, ih]; simp [List.countP_cons]; omega
theorem countP_cong {p r : Nat → Bool} (n : Nat) (h : ∀ j, j < n → p j = r j) : (List.range n).countP p = (List.range n).countP r := by
  induction n with
  | zero => rfl
  | succ n ih =>
    rw [List.range_succ, List.countP_append, List.countP_append, ih (fun j hj => h j (by omega))]
    simp [List.countP_cons, h n (by omega)]
theorem cnt_words (q : Q4) : cnt q = ones q.a + ones q.b + ones q.c + ones q.d := by
  unfold cnt mem
  rw [← List.countP_eq_length_filter, show 256 = 64 + (64 + (64 + 64)) from rfl, countP_add, countP_add, countP_add]
  have e0 : (List.range 64).countP (has q) = ones q.a := countP_cong 64 fun j hj => by
    unfold has
    rw [show j / 64 = 0 from by omega, show j % 64 = j from by omega]; rfl
  have e1 : (List.range 64).countP (fun j => has q (64 + j)) = ones q.b := countP_cong 64 fun j hj => by
    unfold has
    rw [show (64 + j) / 64 = 1 from by omega, show (64 + j) % 64 = j from by omega]; rfl
  have e2 : (List.range 64).countP (fun j => has q (64 + (64 + j))) = ones q.c := countP_cong 64 fun j hj => by
    unfold has
    rw [show (64 + (64 + j)) / 64 = 2 from by omega, show (64 + (64 + j)) % 64 = j from by omega]; rfl
  have e3 : (List.range 64).countP (fun j => has q (64 + (64 + (64 + j)))) = ones q.d := countP_cong 64 fun j hj => by
    unfold has
    rw [show (64 + (64 + (64 + j))) / 64 = 3 from by omega, show (64 + (64 + (64 + j))) % 64 = j from by omega]; rfl
  rw [e0, e1, e2, e3]
  omega
theorem cnt_le (q : Q4) : cnt q ≤ 256 := by
  have := List.length_filter_le (has q) (List.range 256)
  unfold cnt mem
  simpa using this

theorem cnt_two {q r s : Q4} {f : Bool → Bool → Bool} (n : Nat) (p1 p2 p3 p4 : Nat → Bool) (h : ∀ j, j < n → (if p1 j then 1 else 0) + (if p2 j then 1 else 0) = (if p3 j then 1 else 0) + (if p4 j then 1 else 0)) :
    (List.range n).countP p1 + (List.range n).countP p2 = (List.range n).countP p3 + (List.range n).countP p4 := by
  induction n with
  | zero => rfl
  | succ n ih =>
    have h1 := ih (fun j hj => h j (by omega))
    have h2 := h n (by omega)
    rw [List.range_succ, List.countP_append, List.countP_append, List.countP_append, List.countP_append]
    simp only [List.countP_cons, List.countP_nil]
    omega
theorem cnt_nt {q : Q4} (hq : Fits q) : cnt q + cnt (nt q) = 256 := by
  have := cnt_two (q := q) (r := q) (s := q) (f := fun a _ => a) 256 (has q) (has (nt q)) (fun _ => true) (fun _ => false) (by
    intro j hj
    rw [has_nt hq j hj]
    cases has q j <;> rfl)
  unfold cnt mem
  rw [← List.countP_eq_length_filter, ← List.countP_eq_length_filter, this]
  simp
theorem cnt_jn (q r : Q4) : cnt (jn q r) + cnt (mt q r) = cnt q + cnt r := by
  have := cnt_two (q := q) (r := q) (s := q) (f := fun a _ => a) 256 (has (jn q r)) (has (mt q r)) (has q) (has r) (by
    intro j hj
    rw [has_jn q r j hj, has_mt q r j hj]
    cases has q j <;> cases has r j <;> rfl)
  unfold cnt mem
  rw [← List.countP_eq_length_filter, ← List.countP_eq_length_filter, ← List.countP_eq_length_filter, ← List.countP_eq_length_filter, this]

/-! ### the rules of sets -/
theorem rule1 {q r : Q4} (hq : Fits q) (hr : Fits r) : nt (jn q r) = mt (nt q) (nt r) :=
  ext (fits_nt _) (fits_mt (fits_nt _) (fits_nt _)) fun n h => by
    rw [has_nt (fits_jn hq hr) n h, has_jn _ _ n h, has_mt _ _ n h, has_nt hq n h, has_nt hr n h, Bool.not_or]
theorem rule2 {q r : Q4} (hq : Fits q) (hr : Fits r) : jn q (mt q r) = q :=
  ext (fits_jn hq (fits_mt hq hr)) hq fun n h => by
    rw [has_jn _ _ n h, has_mt _ _ n h]
    cases has q n <;> simp
theorem rule3 {q r : Q4} (hq : Fits q) (hr : Fits r) : mt q (jn q r) = q :=
  ext (fits_mt hq (fits_jn hq hr)) hq fun n h => by
    rw [has_mt _ _ n h, has_jn _ _ n h]
    cases has q n <;> simp
theorem rule4 {q r s : Q4} (hq : Fits q) (hr : Fits r) (hs : Fits s) : mt q (jn r s) = jn (mt q r) (mt q s) :=
  ext (fits_mt hq (fits_jn hr hs)) (fits_jn (fits_mt hq hr) (fits_mt hq hs)) fun n h => by
    rw [has_mt _ _ n h, has_jn _ _ n h, has_jn _ _ n h, has_mt _ _ n h, has_mt _ _ n h, Bool.and_or_distrib_left]
theorem rule5 {q : Q4} (hq : Fits q) : nt (nt q) = q :=
  ext (fits_nt _) hq fun n h => by rw [has_nt (fits_nt _) n h, has_nt hq n h, Bool.not_not]
theorem rule6 (q r : Q4) (hq : Fits q) (hr : Fits r) : jn q r = jn r q :=
  ext (fits_jn hq hr) (fits_jn hr hq) fun n h => by rw [has_jn _ _ n h, has_jn _ _ n h, Bool.or_comm]
end Go.Proofs.YtfclidcfhadohaaDoor.st
