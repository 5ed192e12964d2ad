/-
  Plain mathematics, without the program: registers that are stepped over bits, as numbers; a text as one number, its first byte's lowest bit being the lowest.
-/
namespace Go.Proofs.Ytjnjjbacfodacaa.crc

/-- a register stepped over a bit 0 -/
def nt (r : Nat) : Nat := if r % 2 = 1 then r / 2 ^^^ 3988292384 else r / 2
/-- stepped over so many bits 0 -/
def nts : Nat → Nat → Nat
  | 0, r => r
  | k + 1, r => nts k (nt r)
/-- stepped over a bit -/
def stp (r d : Nat) : Nat := if r % 2 ≠ d then r / 2 ^^^ 3988292384 else r / 2
/-- stepped over a text -/
def reg (r : Nat) (l : List UInt8) : Nat := l.foldl (fun r b => nts 8 (r ^^^ b.toNat)) r
/-- the number that a text is -/
def num : List UInt8 → Nat
  | [] => 0
  | b :: l => b.toNat + 256 * num l

theorem reg_nil (r : Nat) : reg r [] = r := rfl
theorem reg_cons (r : Nat) (b : UInt8) (l : List UInt8) : reg r (b :: l) = reg (nts 8 (r ^^^ b.toNat)) l := rfl

theorem xor_half (a b : Nat) : (a ^^^ b) / 2 = a / 2 ^^^ b / 2 := by
  apply Nat.eq_of_testBit_eq
  intro i
  rw [Nat.testBit_xor, ← Nat.testBit_succ, ← Nat.testBit_succ, ← Nat.testBit_succ, Nat.testBit_xor]
theorem xor_low (a b : Nat) : (a ^^^ b) % 2 = (a + b) % 2 := by
  have h := Nat.testBit_xor a b 0
  rw [Nat.testBit_zero, Nat.testBit_zero, Nat.testBit_zero] at h
  rcases Nat.mod_two_eq_zero_or_one a with ha | ha <;> rcases Nat.mod_two_eq_zero_or_one b with hb | hb <;> rcases Nat.mod_two_eq_zero_or_one (a ^^^ b) with hx | hx <;> simp [ha, hb, hx] at h ⊢ <;> omega
theorem xor_xor (a b : Nat) : a ^^^ b ^^^ b = a := by rw [Nat.xor_assoc, Nat.xor_self, Nat.xor_zero]
theorem xor_four (a b c d : Nat) : (a ^^^ b) ^^^ (c ^^^ d) = (a ^^^ c) ^^^ (b ^^^ d) := by
  rw [Nat.xor_assoc, Nat.xor_assoc, ← Nat.xor_assoc b c d, Nat.xor_comm b c, Nat.xor_assoc c b d]
theorem xor_zero_eq {a b : Nat} (h : a ^^^ b = 0) : a = b := by
  have e := xor_xor a b
  rw [h, Nat.zero_xor] at e
  exact e.symm

theorem nt_xor (a b : Nat) : nt (a ^^^ b) = nt a ^^^ nt b := by
  unfold nt
  rw [xor_half, xor_low]
  rcases Nat.mod_two_eq_zero_or_one a with ha | ha <;> rcases Nat.mod_two_eq_zero_or_one b with hb | hb
  · rw [if_neg (by omega), if_neg (by omega), if_neg (by omega)]
  · rw [if_pos (by omega), if_neg (by omega), if_pos (by omega), Nat.xor_assoc]
  · rw [if_pos (by omega), if_pos (by omega), if_neg (by omega), Nat.xor_assoc, Nat.xor_assoc, Nat.xor_comm (b / 2)]
  · rw [if_neg (by omega), if_pos (by omega), if_pos (by omega), xor_four, Nat.xor_self, Nat.xor_zero]
theorem nts_xor (k a b : Nat) : nts k (a ^^^ b) = nts k a ^^^ nts k b := by
  induction k generalizing a b with
  | zero => rfl
  | succ k ih => rw [nts, nts, nts, nt_xor, ih]
theorem nts_add (j k r : Nat) : nts (j + k) r = nts k (nts j r) := by
  induction j generalizing r with
  | zero => rw [Nat.zero_add]; rfl
  | succ j ih => rw [Nat.succ_add, nts, ih]; rfl
theorem nts_one (r : Nat) : nts 1 r = nt r := rfl
theorem nts_succ (k r : Nat) : nts (k + 1) r = nt (nts k r) := by rw [nts_add]; rfl
theorem nts_comm (j k r : Nat) : nts j (nts k r) = nts k (nts j r) := by rw [← nts_add, ← nts_add, Nat.add_comm]

theorem nt_lt {r : Nat} (h : r < 4294967296) : nt r < 4294967296 := by
  unfold nt
  split
  · exact Nat.xor_lt_two_pow (n := 32) (by omega) (by omega)
  · omega
theorem nts_lt (k : Nat) {r : Nat} (h : r < 4294967296) : nts k r < 4294967296 := by
  induction k generalizing r with
  | zero => exact h
  | succ k ih => exact ih (nt_lt h)
theorem xor_lt {a b : Nat} (ha : a < 4294967296) (hb : b < 4294967296) : a ^^^ b < 4294967296 := Nat.xor_lt_two_pow (n := 32) ha hb

theorem nt_zero {r : Nat} (h : r < 4294967296) (h0 : nt r = 0) : r = 0 := by
  unfold nt at h0
  split at h0
  · have := xor_zero_eq h0
    omega
  · omega
theorem nts_zero (k : Nat) {r : Nat} (h : r < 4294967296) (h0 : nts k r = 0) : r = 0 := by
  induction k generalizing r with
  | zero => exact h0
  | succ k ih => exact nt_zero h (ih (nt_lt h) h0)
theorem nts_of_zero (k : Nat) : nts k 0 = 0 := by
  induction k with
  | zero => rfl
  | succ k ih => rw [nts]; exact ih

/-- what is shifted comes down -/
theorem nts_shift (k d : Nat) : nts k (d * 2 ^ k) = d := by
  induction k with
  | zero => simp [nts]
  | succ k ih =>
    have e : nt (d * 2 ^ (k + 1)) = d * 2 ^ k := by
      unfold nt
      rw [Nat.pow_succ, ← Nat.mul_assoc, if_neg (by omega)]
      omega
    rw [nts, e, ih]

theorem stp_low (c b : Nat) : stp c (b % 2) ^^^ b / 2 = nt (c ^^^ b) := by
  unfold stp nt
  rw [xor_half, xor_low]
  by_cases h : c % 2 = b % 2
  · rw [if_neg (by omega), if_neg (by omega)]
  · rw [if_pos (by omega), if_pos (by omega), Nat.xor_assoc, Nat.xor_assoc, Nat.xor_comm (b / 2)]
theorem stp_lt {c : Nat} (d : Nat) (h : c < 4294967296) : stp c d < 4294967296 := by
  unfold stp
  split
  · exact Nat.xor_lt_two_pow (n := 32) (by omega) (by omega)
  · omega

theorem num_bit (l : List UInt8) (i : Nat) : (num l).testBit i = ((l.getD (i / 8) 0).toNat).testBit (i % 8) := by
  induction l generalizing i with
  | nil => simp [num]
  | cons b l ih =>
    have hb := b.toNat_lt
    have e : num (b :: l) = 2 ^ 8 * num l + b.toNat := by rw [num, Nat.add_comm]
    rw [e, Nat.testBit_two_pow_mul_add _ (by simpa using hb)]
    by_cases h : i < 8
    · rw [if_pos h, show i / 8 = 0 from by omega, show i % 8 = i from by omega]
      rfl
    · rw [if_neg h, ih, show i / 8 = (i - 8) / 8 + 1 from by omega, show (i - 8) % 8 = i % 8 from by omega]
      rfl
theorem num_lt (l : List UInt8) : num l < 2 ^ (8 * l.length) := by
  induction l with
  | nil => simp [num]
  | cons b l ih =>
    have := b.toNat_lt
    rw [num, List.length_cons, Nat.mul_add, Nat.pow_add]
    generalize 2 ^ (8 * l.length) = P at *
    omega
theorem num_inj {a b : List UInt8} (hl : a.length = b.length) (h : num a = num b) : a = b := by
  induction a generalizing b with
  | nil => cases b with
    | nil => rfl
    | cons => simp at hl
  | cons x a ih => cases b with
    | nil => simp at hl
    | cons y b =>
      have hx := x.toNat_lt
      have hy := y.toNat_lt
      simp only [num] at h
      have e1 : x.toNat = y.toNat := by omega
      have e2 : num a = num b := by omega
      rw [ih (by simpa using hl) e2, UInt8.toNat_inj.1 e1]

/-- a text's first byte, and what is behind it, kept apart -/
theorem num_cons (b : UInt8) (l : List UInt8) : num (b :: l) = b.toNat ^^^ num l * 2 ^ 8 := by
  apply Nat.eq_of_testBit_eq
  intro i
  have hb := b.toNat_lt
  have e : num (b :: l) = 2 ^ 8 * num l + b.toNat := by rw [num, Nat.add_comm]
  rw [e, Nat.testBit_two_pow_mul_add _ (by simpa using hb), Nat.testBit_xor, Nat.testBit_mul_two_pow]
  by_cases h : i < 8
  · rw [if_pos h, decide_eq_false (by omega), Bool.false_and, Bool.xor_false]
  · rw [if_neg h, decide_eq_true (by omega), Bool.true_and, Nat.testBit_lt_two_pow (Nat.lt_of_lt_of_le (show b.toNat < 2 ^ 8 by simpa using hb) (Nat.pow_le_pow_right (by omega) (by omega))), Bool.false_xor]

/-- a text is stepped over as the number that it is -/
theorem reg_num (r : Nat) (l : List UInt8) : reg r l = nts (8 * l.length) (r ^^^ num l) := by
  induction l generalizing r with
  | nil => rw [reg_nil, num, Nat.xor_zero]; rfl
  | cons b l ih =>
    have e2 : 8 * (b :: l).length = 8 + 8 * l.length := by rw [List.length_cons]; omega
    rw [reg_cons, ih, e2, nts_add, num_cons, ← Nat.xor_assoc, nts_xor 8 (r ^^^ b.toNat), nts_shift]
theorem reg_lt {r : Nat} (l : List UInt8) (h : r < 4294967296) : reg r l < 4294967296 := by
  induction l generalizing r with
  | nil => exact h
  | cons b l ih =>
    have := b.toNat_lt
    rw [reg_cons]
    exact ih (nts_lt 8 (xor_lt h (by omega)))
theorem reg_append (r : Nat) (a b : List UInt8) : reg r (a ++ b) = reg (reg r a) b := by
  induction a generalizing r with
  | nil => rfl
  | cons x a ih => rw [List.cons_append, reg_cons, reg_cons, ih]

/-- the step by a table of bytes -/
theorem nts_byte (r b : Nat) : nts 8 (r ^^^ b) = r / 256 ^^^ nts 8 (r % 256 ^^^ b) := by
  have e : r = r / 256 * 2 ^ 8 ^^^ r % 256 := by
    apply Nat.eq_of_testBit_eq
    intro i
    have e : r = 2 ^ 8 * (r / 256) + r % 256 := by omega
    have hl : r % 256 < 2 ^ 8 := by omega
    conv => lhs; rw [e, Nat.testBit_two_pow_mul_add _ hl]
    rw [Nat.testBit_xor, Nat.testBit_mul_two_pow]
    by_cases h : i < 8
    · rw [if_pos h, decide_eq_false (by omega), Bool.false_and, Bool.false_xor]
    · rw [if_neg h, decide_eq_true (by omega), Bool.true_and, Nat.testBit_lt_two_pow (Nat.lt_of_lt_of_le hl (Nat.pow_le_pow_right (by omega) (by omega))), Bool.xor_false]
  conv => lhs; rw [e, Nat.xor_assoc, nts_xor, nts_shift]

/-- turning is what is left from all bits that are 1 -/
theorem not_is (r : Nat) (h : r < 4294967296) : 4294967295 ^^^ r = 4294967295 - r := by
  apply Nat.eq_of_testBit_eq
  intro i
  have e : 4294967295 - r = 2 ^ 32 - (r + 1) := by omega
  rw [e, Nat.testBit_two_pow_sub_succ (by omega), Nat.testBit_xor, show 4294967295 = 2 ^ 32 - 1 from rfl, Nat.testBit_two_pow_sub_one]
  by_cases hi : i < 32
  · simp [hi]
  · have : r.testBit i = false := Nat.testBit_lt_two_pow (Nat.lt_of_lt_of_le (show r < 2 ^ 32 from h) (Nat.pow_le_pow_right (by omega) (by omega)))
    simp [hi, this]

/-- bits turned within 32 of a text are found -/
theorem burst (s t : List UInt8) (r d f : Nat) (hl : t.length = s.length) (hd : d < 4294967296) (hf : f ≤ 8 * s.length) (ht : num t = num s ^^^ d * 2 ^ f) (h : reg r s = reg r t) : s = t := by
  rw [reg_num, reg_num, hl] at h
  have h0 : nts (8 * s.length) (d * 2 ^ f) = 0 := by
    have e : d * 2 ^ f = (r ^^^ num s) ^^^ (r ^^^ num t) := by
      rw [xor_four, Nat.xor_self, Nat.zero_xor, ht, ← Nat.xor_assoc, Nat.xor_self, Nat.zero_xor]
    rw [e, nts_xor, h, Nat.xor_self]
  rw [show 8 * s.length = f + (8 * s.length - f) from by omega, nts_add, nts_shift] at h0
  have hz := nts_zero _ hd h0
  rw [hz, Nat.zero_mul, Nat.xor_zero] at ht
  exact num_inj hl.symm ht.symm

/-- three texts of one length -/
theorem three (r k : Nat) (a b c x : List UInt8) (ha : a.length = k) (hb : b.length = k) (hc : c.length = k) (hx : x.length = k) (h : num x = num a ^^^ num b ^^^ num c) : reg r x = reg r a ^^^ reg r b ^^^ reg r c := by
  rw [reg_num, reg_num, reg_num, reg_num, ha, hb, hc, hx, ← nts_xor, ← nts_xor, h]
  congr 1
  rw [xor_four r (num a), Nat.xor_self, Nat.zero_xor, ← Nat.xor_assoc (num a ^^^ num b) r (num c), Nat.xor_comm (num a ^^^ num b) r, Nat.xor_assoc r (num a ^^^ num b)]

/-- the product of a register by what so many bits 0 make of the register that is 1 -/
theorem times_step (out a m : Nat) (ha : a < 4294967296) :
    out ^^^ nts m a = (if a / 2147483648 = 1 then out ^^^ nts m 2147483648 else out) ^^^ nts (m + 1) (a * 2 % 4294967296) := by
  have hn : ∀ y, y < 2147483648 → nts (m + 1) (y * 2) = nts m y := by
    intro y _
    rw [Nat.add_comm m 1, nts_add, show nts 1 (y * 2) = y from nts_shift 1 y]
  by_cases h : a / 2147483648 = 1
  · rw [if_pos h, show a * 2 % 4294967296 = (a - 2147483648) * 2 from by omega, hn _ (by omega), Nat.xor_assoc, ← nts_xor]
    congr 2
    apply Nat.eq_of_testBit_eq
    intro i
    have hy : a - 2147483648 < 2 ^ 31 := by omega
    have e : a = 2 ^ 31 * 1 + (a - 2147483648) := by omega
    conv => lhs; rw [e, Nat.testBit_two_pow_mul_add _ hy]
    rw [Nat.testBit_xor, show 2147483648 = 2 ^ 31 from rfl, Nat.testBit_two_pow]
    by_cases hi : i < 31
    · rw [if_pos hi, decide_eq_false (by omega), Bool.false_xor]
    · rw [if_neg hi, Nat.testBit_lt_two_pow (Nat.lt_of_lt_of_le (show a - 2 ^ 31 < 2 ^ 31 from hy) (Nat.pow_le_pow_right (by omega) (by omega))), Bool.xor_false]
      by_cases h31 : i = 31
      · subst h31; rfl
      · rw [decide_eq_false (by omega), Nat.testBit_lt_two_pow (Nat.lt_of_lt_of_le (show 1 < 2 ^ 1 by decide) (Nat.pow_le_pow_right (by omega) (by omega)))]
  · rw [if_neg h, show a * 2 % 4294967296 = a * 2 from by omega, hn _ (by omega)]
end Go.Proofs.Ytjnjjbacfodacaa.crc
