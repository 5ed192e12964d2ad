/-
  Plain mathematics, without the program: a text's bit turned, and bits of a pattern turned from a bit on.
-/
import Derived.Test.YtjnjjbacfodacaaCrc
namespace Go.Proofs.Ytjnjjbacfodacaa.crc

/-- what is turned by a pattern's first i bits, from the bit f on, in a text of m bits -/
def till (p f m i : Nat) : Nat := (p % 2 ^ i * 2 ^ f) % 2 ^ m

theorem till_bit (p f m i j : Nat) : (till p f m i).testBit j = (decide (j < m) && (decide (f ≤ j) && (decide (j - f < i) && p.testBit (j - f)))) := by
  unfold till
  rw [Nat.testBit_mod_two_pow, Nat.testBit_mul_two_pow, Nat.testBit_mod_two_pow]
theorem till_zero (p f m : Nat) : till p f m 0 = 0 := by
  unfold till
  rw [Nat.pow_zero, Nat.mod_one, Nat.zero_mul, Nat.zero_mod]
theorem till_same (p f m i : Nat) (h : p / 2 ^ i % 2 = 0 ∨ m ≤ f + i) : till p f m (i + 1) = till p f m i := by
  apply Nat.eq_of_testBit_eq
  intro j
  rw [till_bit, till_bit]
  by_cases hj : j = f + i
  · subst hj
    rcases h with h | h
    · have hb : p.testBit (f + i - f) = false := by
        rw [Nat.add_sub_cancel_left, Nat.testBit_eq_decide_div_mod_eq, h]
        rfl
      rw [hb]
      simp
    · rw [decide_eq_false (show ¬ f + i < m by omega)]
      simp
  · by_cases hf : f ≤ j
    · have e : decide (j - f < i + 1) = decide (j - f < i) := by
        rw [decide_eq_decide]
        omega
      rw [e]
    · rw [decide_eq_false hf]
      simp
theorem till_more (p f m i : Nat) (h : p / 2 ^ i % 2 = 1) (hm : f + i < m) : till p f m (i + 1) = till p f m i ^^^ 2 ^ (f + i) := by
  apply Nat.eq_of_testBit_eq
  intro j
  rw [Nat.testBit_xor, till_bit, till_bit, Nat.testBit_two_pow]
  by_cases hj : j = f + i
  · subst hj
    have hb : p.testBit (f + i - f) = true := by
      rw [Nat.add_sub_cancel_left, Nat.testBit_eq_decide_div_mod_eq, h]
      rfl
    rw [hb, decide_eq_true hm, decide_eq_true (show f ≤ f + i by omega), decide_eq_true (show f + i - f < i + 1 by omega), decide_eq_false (show ¬ f + i - f < i by omega), decide_eq_true rfl]
    rfl
  · rw [decide_eq_false (show ¬ f + i = j by omega), Bool.xor_false]
    by_cases hf : f ≤ j
    · have e : decide (j - f < i + 1) = decide (j - f < i) := by
        rw [decide_eq_decide]
        omega
      rw [e]
    · rw [decide_eq_false hf]
      simp
theorem till_all (p f m : Nat) (hp : p < 4294967296) (hf : f ≤ m) : till p f m 32 = p % 2 ^ (m - f) * 2 ^ f := by
  unfold till
  rw [Nat.mod_eq_of_lt (show p < 2 ^ 32 from hp)]
  have e : 2 ^ m = 2 ^ (m - f) * 2 ^ f := by rw [← Nat.pow_add]; congr 1; omega
  rw [e, Nat.mul_mod_mul_right]

/-- one bit of a text turned -/
theorem num_turn (l : List UInt8) (j k : Nat) (b : UInt8) (hj : j < l.length) (hk : k < 8) (hb : b.toNat = (l.getD j 0).toNat ^^^ 2 ^ k) : num (l.set j b) = num l ^^^ 2 ^ (8 * j + k) := by
  apply Nat.eq_of_testBit_eq
  intro i
  rw [Nat.testBit_xor, num_bit, num_bit, Nat.testBit_two_pow]
  by_cases h : i / 8 = j
  · have e : (l.set j b).getD (i / 8) 0 = b := by
      rw [h, List.getD_eq_getElem?_getD, List.getElem?_set_self hj]
      rfl
    rw [e, hb, Nat.testBit_xor, Nat.testBit_two_pow, h]
    congr 1
    rw [decide_eq_decide]
    omega
  · have e : (l.set j b).getD (i / 8) 0 = l.getD (i / 8) 0 := by
      rw [List.getD_eq_getElem?_getD, List.getD_eq_getElem?_getD, List.getElem?_set_ne (fun e => h e.symm)]
    rw [e, decide_eq_false (show ¬ 8 * j + k = i by omega), Bool.xor_false]
end Go.Proofs.Ytjnjjbacfodacaa.crc
