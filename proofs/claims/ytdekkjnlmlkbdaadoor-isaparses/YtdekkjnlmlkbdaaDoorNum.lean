/-
  Plain mathematics, without the program: how a number is written by its digits of base 128, and what stands at the beginning of a list of bytes, read as a number.
-/
namespace Go.Proofs.YtdekkjnlmlkbdaaDoor.num

/-- a number as it is written -/
def digs (n : Nat) : List UInt8 := if n < 128 then [UInt8.ofNat n] else UInt8.ofNat (n % 128 + 128) :: digs (n / 128)
  termination_by n
  decreasing_by omega

/-- the number that digits make -/
def val : List UInt8 → Nat
  | [] => 0
  | b :: l => b.toNat % 128 + 128 * val l

/-- how many bytes at the beginning are 128 or more -/
def high : List UInt8 → Nat
  | [] => 0
  | b :: l => if 128 ≤ b.toNat then high l + 1 else 0

def nth (l : List UInt8) (i : Nat) : Nat := (l.getD i 0).toNat

/-- whether a number may end with the digit d at the place k -/
def okLast (k d : Nat) : Bool := decide (k = 0 ∨ (d ≠ 0 ∧ (k < 9 ∨ d ≤ 1)))

/-- the number at the beginning, how many bytes it takes, and the error -/
def rd (l : List UInt8) : Nat × Nat × Nat :=
  if 10 ≤ high l then (0, 0, 21)
  else if l.length ≤ high l then (0, 0, 20)
  else if okLast (high l) (nth l (high l)) then (val (l.take (high l + 1)), high l + 1, 0)
  else (0, 0, 21)

theorem digs_small {n : Nat} (h : n < 128) : digs n = [UInt8.ofNat n] := by unfold digs; rw [if_pos h]
theorem digs_great {n : Nat} (h : ¬ n < 128) : digs n = UInt8.ofNat (n % 128 + 128) :: digs (n / 128) := by rw [digs]; rw [if_neg h]

theorem high_le (l : List UInt8) : high l ≤ l.length := by
  induction l with
  | nil => exact Nat.le_refl _
  | cons b l ih => unfold high; split <;> simp <;> omega

theorem high_cons_ge {b : UInt8} (l : List UInt8) (h : 128 ≤ b.toNat) : high (b :: l) = high l + 1 := by simp [high, h]
theorem high_cons_lt {b : UInt8} (l : List UInt8) (h : ¬ 128 ≤ b.toNat) : high (b :: l) = 0 := by simp [high, h]
theorem nth_succ (b : UInt8) (l : List UInt8) (i : Nat) : nth (b :: l) (i + 1) = nth l i := by simp [nth]
theorem nth_zero (b : UInt8) (l : List UInt8) : nth (b :: l) 0 = b.toNat := by simp [nth]
theorem nth_lt (l : List UInt8) (i : Nat) : nth l i < 256 := by unfold nth; exact UInt8.toNat_lt _

theorem low_at (l : List UInt8) (h : high l < l.length) : nth l (high l) < 128 := by
  induction l with
  | nil => simp at h
  | cons b l ih =>
    by_cases hb : 128 ≤ b.toNat
    · rw [high_cons_ge l hb] at h ⊢
      rw [nth_succ]
      exact ih (by simpa using h)
    · rw [high_cons_lt l hb, nth_zero]; omega

theorem high_at (l : List UInt8) (i : Nat) (h : i < high l) : 128 ≤ nth l i := by
  induction l generalizing i with
  | nil => simp [high] at h
  | cons b l ih =>
    by_cases hb : 128 ≤ b.toNat
    · rw [high_cons_ge l hb] at h
      cases i with
      | zero => rw [nth_zero]; exact hb
      | succ i => rw [nth_succ]; exact ih i (by omega)
    · rw [high_cons_lt l hb] at h; omega

/-- the bytes ahead of a place are all 128 or more: then there are so many at least -/
theorem high_ge (l : List UInt8) (i : Nat) (hi : i ≤ l.length) (h : ∀ j, j < i → 128 ≤ nth l j) : i ≤ high l := by
  induction l generalizing i with
  | nil => simp at hi; omega
  | cons b l ih =>
    cases i with
    | zero => omega
    | succ i =>
      have hb : 128 ≤ b.toNat := by have := h 0 (by omega); rwa [nth_zero] at this
      rw [high_cons_ge l hb]
      have := ih i (by simpa using hi) (fun j hj => by have := h (j + 1) (by omega); rwa [nth_succ] at this)
      omega

/-- .. and just so many, where the next is below 128 or isn't there -/
theorem high_eq (l : List UInt8) (i : Nat) (hi : i ≤ l.length) (h : ∀ j, j < i → 128 ≤ nth l j) (h2 : i < l.length → nth l i < 128) : high l = i := by
  have h1 := high_ge l i hi h
  have h3 := high_le l
  by_cases hlt : i < high l
  · have := high_at l i hlt
    have := h2 (by omega)
    omega
  · omega

theorem bounds (l : List UInt8) (h : high l < l.length) :
    128 ^ high l * nth l (high l) ≤ val (l.take (high l + 1)) ∧ val (l.take (high l + 1)) < 128 ^ high l * (nth l (high l) + 1) := by
  induction l with
  | nil => simp at h
  | cons b l ih =>
    by_cases hb : 128 ≤ b.toNat
    · rw [high_cons_ge l hb] at h ⊢
      have ih := ih (by simpa using h)
      rw [nth_succ, List.take_succ_cons, val, Nat.pow_succ]
      have e1 : 128 ^ high l * 128 * nth l (high l) = 128 * (128 ^ high l * nth l (high l)) := by rw [Nat.mul_comm (128 ^ high l) 128, Nat.mul_assoc]
      have e2 : 128 ^ high l * 128 * (nth l (high l) + 1) = 128 * (128 ^ high l * (nth l (high l) + 1)) := by rw [Nat.mul_comm (128 ^ high l) 128, Nat.mul_assoc]
      rw [e1, e2]
      generalize 128 ^ high l * nth l (high l) = A at *
      generalize 128 ^ high l * (nth l (high l) + 1) = B at *
      omega
    · rw [high_cons_lt l hb, nth_zero]
      simp [val]
      omega

theorem pow_pos (k : Nat) : 1 ≤ 128 ^ k := Nat.pow_pos (by omega)

theorem digs_val (l : List UInt8) (h : high l < l.length) (h1 : high l = 0 ∨ nth l (high l) ≠ 0) : digs (val (l.take (high l + 1))) = l.take (high l + 1) := by
  induction l with
  | nil => simp at h
  | cons b l ih =>
    by_cases hb : 128 ≤ b.toNat
    · rw [high_cons_ge l hb] at h h1 ⊢
      have hl : high l < l.length := by simpa using h
      have hn : nth l (high l) ≠ 0 := by rw [nth_succ] at h1; omega
      have ih := ih hl (.inr hn)
      have hbd := (bounds l hl).1
      have hp : 1 ≤ 128 ^ high l * nth l (high l) := Nat.mul_pos (pow_pos _) (by omega)
      rw [List.take_succ_cons, val]
      generalize val (l.take (high l + 1)) = v at *
      have hb2 := b.toNat_lt
      rw [digs_great (by omega)]
      have e1 : (b.toNat % 128 + 128 * v) / 128 = v := by omega
      have e2 : (b.toNat % 128 + 128 * v) % 128 + 128 = b.toNat := by omega
      rw [e1, e2, ih]
      congr 1
      exact UInt8.ofNat_toNat
    · rw [high_cons_lt l hb]
      simp only [List.take_succ_cons, List.take_zero, val]
      have e : b.toNat % 128 + 128 * 0 = b.toNat := by omega
      rw [e, digs_small (by omega)]
      congr 1
      exact UInt8.ofNat_toNat

theorem byte_toNat {n : Nat} (h : n < 256) : (UInt8.ofNat n).toNat = n := by
  rw [UInt8.toNat_ofNat']; exact Nat.mod_eq_of_lt h

theorem digs_pos (n : Nat) : 1 ≤ (digs n).length := by
  by_cases h : n < 128
  · rw [digs_small h]; simp
  · rw [digs_great h]; simp

theorem high_digs (n : Nat) (r : List UInt8) : high (digs n ++ r) + 1 = (digs n).length ∧ val (digs n) = n ∧ (128 ≤ n → nth (digs n ++ r) (high (digs n ++ r)) ≠ 0) ∧ (1 ≤ n → nth (digs n ++ r) (high (digs n ++ r)) ≠ 0) := by
  induction n using Nat.strongRecOn with
  | ind n ih =>
    by_cases h : n < 128
    · rw [digs_small h]
      have e := byte_toNat (n := n) (by omega)
      have hh : high (UInt8.ofNat n :: r) = 0 := high_cons_lt _ (by omega)
      simp only [List.cons_append, List.nil_append, hh, nth_zero, e, val]
      refine ⟨rfl, by omega, by omega, by omega⟩
    · rw [digs_great h]
      have ih := ih (n / 128) (by omega)
      have e := byte_toNat (n := n % 128 + 128) (by omega)
      have hh : high (UInt8.ofNat (n % 128 + 128) :: (digs (n / 128) ++ r)) = high (digs (n / 128) ++ r) + 1 := high_cons_ge _ (by omega)
      simp only [List.cons_append, hh, nth_succ, val, e, List.length_cons]
      refine ⟨by omega, by omega, fun _ => ih.2.2.2 (by omega), fun _ => ih.2.2.2 (by omega)⟩

theorem val_digs (n : Nat) : val (digs n) = n := (high_digs n []).2.1
theorem digs_inj {m n : Nat} (h : digs m = digs n) : m = n := by rw [← val_digs m, h, val_digs]

theorem nine : (128 : Nat) ^ 9 = 9223372036854775808 := by decide

theorem rd_digs (n : Nat) (r : List UInt8) (hn : n < 18446744073709551616) : rd (digs n ++ r) = (n, (digs n).length, 0) := by
  obtain ⟨h1, h2, h3, h4⟩ := high_digs n r
  have hlen : high (digs n ++ r) < (digs n ++ r).length := by rw [List.length_append]; omega
  have ht : (digs n ++ r).take (high (digs n ++ r) + 1) = digs n := by rw [h1]; simp
  have hb := bounds _ hlen
  rw [ht, h2] at hb
  have hk0 : n < 128 → high (digs n ++ r) = 0 := fun h => by rw [digs_small h] at h1; simp at h1; rw [digs_small h]; simpa using h1
  have hk : high (digs n ++ r) ≤ 9 := by
    by_cases h : n < 128
    · rw [hk0 h]; omega
    · have hne := h3 (by omega)
      by_cases hg : high (digs n ++ r) ≤ 9
      · exact hg
      · exfalso
        have hp : 128 ^ 10 ≤ 128 ^ high (digs n ++ r) := Nat.pow_le_pow_right (by omega) (by omega)
        have hm : 128 ^ high (digs n ++ r) * 1 ≤ 128 ^ high (digs n ++ r) * nth (digs n ++ r) (high (digs n ++ r)) := Nat.mul_le_mul_left _ (by omega)
        have he : (128 : Nat) ^ 10 = 1180591620717411303424 := by decide
        omega
  have hok : okLast (high (digs n ++ r)) (nth (digs n ++ r) (high (digs n ++ r))) = true := by
    unfold okLast
    rw [decide_eq_true_eq]
    by_cases h : n < 128
    · exact .inl (hk0 h)
    · refine .inr ⟨h3 (by omega), ?_⟩
      by_cases h9 : high (digs n ++ r) < 9
      · exact .inl h9
      · right
        have e : high (digs n ++ r) = 9 := by omega
        rw [e, nine] at hb
        rw [e]
        omega
  unfold rd
  rw [if_neg (by omega), if_neg (by omega), if_pos hok, ht, h2, h1]

/-- what is read is written so -/
theorem rd_ok {l : List UInt8} {n k : Nat} (h : rd l = (n, k, 0)) : digs n = l.take k ∧ 1 ≤ k ∧ k ≤ 10 ∧ k ≤ l.length ∧ n < 18446744073709551616 := by
  unfold rd at h
  by_cases h1 : 10 ≤ high l
  · rw [if_pos h1] at h; simp at h
  · rw [if_neg h1] at h
    by_cases h2 : l.length ≤ high l
    · rw [if_pos h2] at h; simp at h
    · rw [if_neg h2] at h
      by_cases h3 : okLast (high l) (nth l (high l)) = true
      · rw [if_pos h3] at h
        simp only [Prod.mk.injEq, and_true] at h
        obtain ⟨rfl, rfl⟩ := h
        unfold okLast at h3
        rw [decide_eq_true_eq] at h3
        have hb := (bounds l (by omega)).2
        have hlow := low_at l (by omega)
        refine ⟨digs_val l (by omega) (by omega), by omega, by omega, by omega, ?_⟩
        by_cases h9 : high l < 9
        · have hp : 128 ^ high l ≤ 128 ^ 8 := Nat.pow_le_pow_right (by omega) (by omega)
          have hm : 128 ^ high l * (nth l (high l) + 1) ≤ 128 ^ 8 * 128 := Nat.mul_le_mul hp (by omega)
          have he : (128 : Nat) ^ 8 * 128 = 9223372036854775808 := by decide
          omega
        · have e : high l = 9 := by omega
          rw [e, nine] at hb
          rw [e] at h3 ⊢
          omega
      · rw [if_neg h3] at h; simp at h

theorem rd_err (l : List UInt8) : (rd l).2.2 = 0 ∨ rd l = (0, 0, 20) ∨ rd l = (0, 0, 21) := by
  unfold rd
  split
  · exact .inr (.inr rfl)
  · split
    · exact .inr (.inl rfl)
    · split
      · exact .inl rfl
      · exact .inr (.inr rfl)

/-- the document's own test: what stands there is the number's writing, where what goes round is cut off -/
theorem round_test (l : List UInt8) (h : high l < l.length) (h9 : high l < 10) (m : Nat) (hm : m = val (l.take (high l + 1)) % 18446744073709551616) :
    (digs m = l.take (high l + 1)) ↔ okLast (high l) (nth l (high l)) = true := by
  have hb := bounds l h
  constructor
  · intro e
    have hv : val (l.take (high l + 1)) = m := by rw [← e, val_digs]
    unfold okLast
    rw [decide_eq_true_eq]
    by_cases h0 : high l = 0
    · exact .inl h0
    · right
      obtain ⟨g1, g2, g3, g4⟩ := high_digs m (l.drop (high l + 1))
      rw [e, List.take_append_drop] at g1 g3
      have hge : 128 ≤ m := by
        by_cases hs : m < 128
        · exfalso
          rw [digs_small hs] at e
          have := congrArg List.length e
          simp at this
          omega
        · omega
      refine ⟨g3 hge, ?_⟩
      by_cases h8 : high l < 9
      · exact .inl h8
      · right
        have e9 : high l = 9 := by omega
        rw [hv] at hb
        rw [e9, nine] at hb
        rw [e9]
        omega
  · intro hok
    have hr : rd l = (val (l.take (high l + 1)), high l + 1, 0) := by
      unfold rd
      rw [if_neg (by omega), if_neg (by omega), if_pos hok]
    have := rd_ok hr
    have e : m = val (l.take (high l + 1)) := by rw [hm]; exact Nat.mod_eq_of_lt this.2.2.2.2
    rw [e]
    exact this.1

/-- so many numbers, one behind the other: they, how many bytes, and the error -/
def rdN : Nat → List UInt8 → List Nat × Nat × Nat
  | 0, _ => ([], 0, 0)
  | m + 1, l => if (rd l).2.2 = 0 then
      (if (rdN m (l.drop (rd l).2.1)).2.2 = 0 then ((rd l).1 :: (rdN m (l.drop (rd l).2.1)).1, (rd l).2.1 + (rdN m (l.drop (rd l).2.1)).2.1, 0)
       else ([], 0, (rdN m (l.drop (rd l).2.1)).2.2))
    else ([], 0, (rd l).2.2)

/-- what was read ahead, and what is read on -/
def join (acc : List Nat) (p : Nat) (r : List Nat × Nat × Nat) : List Nat × Nat × Nat := if r.2.2 = 0 then (acc ++ r.1, p + r.2.1, 0) else ([], 0, r.2.2)

theorem join_ok {acc : List Nat} {p m n k : Nat} {l : List UInt8} (h : rd (l.drop p) = (n, k, 0)) : join acc p (rdN (m + 1) (l.drop p)) = join (acc ++ [n]) (p + k) (rdN m (l.drop (p + k))) := by
  have e1 : rdN (m + 1) (l.drop p) = if (rdN m (l.drop (p + k))).2.2 = 0 then (n :: (rdN m (l.drop (p + k))).1, k + (rdN m (l.drop (p + k))).2.1, 0) else ([], 0, (rdN m (l.drop (p + k))).2.2) := by
    rw [rdN, h]
    simp only [if_true, List.drop_drop]
  rw [e1]
  generalize rdN m (l.drop (p + k)) = r
  unfold join
  by_cases h0 : r.2.2 = 0
  · simp [h0, Nat.add_assoc]
  · simp [h0]

theorem join_err {acc : List Nat} {p m e : Nat} {l : List UInt8} (h : rd (l.drop p) = (0, 0, e)) (he : e ≠ 0) : join acc p (rdN (m + 1) (l.drop p)) = ([], 0, e) := by
  have e1 : rdN (m + 1) (l.drop p) = ([], 0, e) := by
    rw [rdN, h]
    simp [he]
  rw [e1]
  unfold join
  simp [he]

theorem join_end (acc : List Nat) (p : Nat) (l : List UInt8) : join acc p (rdN 0 l) = (acc, p, 0) := by simp [join, rdN]
theorem join_start (m : Nat) (l : List UInt8) : rdN m l = join [] 0 (rdN m (l.drop 0)) := by
  rw [List.drop_zero]
  cases m with
  | zero => simp [join, rdN]
  | succ m =>
    rw [rdN]
    unfold join
    split
    · split <;> simp_all
    · simp_all

/-- a list of numbers as it is written, without how many -/
def puts : List Nat → List UInt8
  | [] => []
  | n :: l => digs n ++ puts l

theorem puts_append (a b : List Nat) : puts (a ++ b) = puts a ++ puts b := by
  induction a with
  | nil => rfl
  | cons n a ih => simp [puts, ih]

theorem rdN_puts (l : List Nat) (r : List UInt8) (h : ∀ n ∈ l, n < 18446744073709551616) : rdN l.length (puts l ++ r) = (l, (puts l).length, 0) := by
  induction l with
  | nil => rfl
  | cons n l ih =>
    have e : puts (n :: l) ++ r = digs n ++ (puts l ++ r) := by simp [puts]
    have hr := rd_digs n (puts l ++ r) (h n (by simp))
    have ih := ih (fun m hm => h m (by simp [hm]))
    rw [List.length_cons, rdN, e, hr]
    simp only [if_true, List.drop_left, ih, puts, List.length_append]

theorem rdN_ok (m : Nat) (l : List UInt8) (h : (rdN m l).2.2 = 0) : (rdN m l).1.length = m ∧ puts (rdN m l).1 = l.take (rdN m l).2.1 ∧ (rdN m l).2.1 ≤ l.length ∧ m ≤ (rdN m l).2.1 ∧ ∀ n ∈ (rdN m l).1, n < 18446744073709551616 := by
  induction m generalizing l with
  | zero => simp [rdN, puts]
  | succ m ih =>
    by_cases h1 : (rd l).2.2 = 0
    · by_cases h2 : (rdN m (l.drop (rd l).2.1)).2.2 = 0
      · have ih := ih _ h2
        obtain ⟨d1, d2, d3, d4, d5⟩ := rd_ok (l := l) (n := (rd l).1) (k := (rd l).2.1) (by rw [← h1])
        have e : rdN (m + 1) l = ((rd l).1 :: (rdN m (l.drop (rd l).2.1)).1, (rd l).2.1 + (rdN m (l.drop (rd l).2.1)).2.1, 0) := by rw [rdN, if_pos h1, if_pos h2]
        rw [e]
        obtain ⟨i1, i2, i3, i4, i5⟩ := ih
        rw [List.length_drop] at i3
        refine ⟨by simp [i1], ?_, by simp only []; omega, by simp only []; omega, ?_⟩
        · simp only [puts, d1, i2]
          rw [List.take_add]
        · intro n hn
          simp only [List.mem_cons] at hn
          rcases hn with rfl | hn
          · exact d5
          · exact i5 n hn
      · have e : rdN (m + 1) l = ([], 0, (rdN m (l.drop (rd l).2.1)).2.2) := by rw [rdN, if_pos h1, if_neg h2]
        rw [e] at h
        exact absurd h h2
    · have e : rdN (m + 1) l = ([], 0, (rd l).2.2) := by rw [rdN, if_neg h1]
      rw [e] at h
      exact absurd h h1
end Go.Proofs.YtdekkjnlmlkbdaaDoor.num
