/-
  Plain mathematics over texts: bits turned within 32 of a text, or of a text with its sum behind it, change the sum.
-/
import Derived.Test.YtjnjjbacfodacaaTurned
namespace Go.Proofs.Ytjnjjbacfodacaa.crc
open Go.ChangeShapes Go.WideShapes Go.ChangeAt Go.RowKit
set_option linter.unusedVariables false

theorem unlike {s t : ByteArray} (h : ¬ s = t) : (s.toList == t.toList) = false := by
  rw [beq_eq_false_iff_ne]
  intro e
  rw [ByteArray.toList_eq, ByteArray.toList_eq] at e
  exact h (text_ext e)
theorem apart {n m : Nat} (h : ¬ n = m) : ((n : Int) == (m : Int)) = false := by
  rw [beq_eq_false_iff_ne]
  omega
theorem rem_nat (q n : Nat) : (q : Int) % (8 * (n : Int)) = ((q % (8 * n) : Nat) : Int) := by
  rw [Int.natCast_emod, Int.natCast_mul]
  rfl
theorem mod_le (a b : Nat) : a % b ≤ a := Nat.mod_le a b

theorem burst_reg (s t : ByteArray) (r f p : Nat) (hp : p < 4294967296) (hf : f ≤ 8 * s.size) (hz : t.size = s.size) (hn : num t.data.toList = num s.data.toList ^^^ till p f (8 * s.size) 32)
    (h : reg r s.data.toList = reg r t.data.toList) : s = t := by
  rw [till_all p f _ hp hf] at hn
  refine text_ext (burst s.data.toList t.data.toList r (p % 2 ^ (8 * s.size - f)) f ?_ ?_ ?_ hn h)
  · rw [size_list, size_list, hz]
  · exact Nat.lt_of_le_of_lt (mod_le _ _) hp
  · rw [size_list]; exact hf
theorem burst_crc (s t : ByteArray) (f p : Nat) (hp : p < 4294967296) (hf : f ≤ 8 * s.size) (hz : t.size = s.size) (hn : num t.data.toList = num s.data.toList ^^^ till p f (8 * s.size) 32)
    (h : crc 0 s = crc 0 t) : s = t := by
  have h1 := reg_lt s.data.toList (show 4294967295 - 0 < 4294967296 by omega)
  have h2 := reg_lt t.data.toList (show 4294967295 - 0 < 4294967296 by omega)
  unfold crc at h
  exact burst_reg s t (4294967295 - 0) f p hp hf hz hn (by omega)

/-- what is stepped over with its sum behind it comes to the same, whatever it is -/
theorem seal_reg (l m : List UInt8) (hm : num m = 4294967295 - reg 4294967295 l) (h4 : m.length = 4) : reg 4294967295 (l ++ m) = nts 32 4294967295 := by
  have hl := reg_lt l (show 4294967295 < 4294967296 by omega)
  rw [reg_append, reg_num, h4, hm, ← not_is _ hl, Nat.xor_comm 4294967295, ← Nat.xor_assoc, Nat.xor_self, Nat.zero_xor]

theorem crc_empty (s : ByteArray) (h : s.size = 0) : crc 0 s = 0 := by
  have e : s.data.toList = [] := by
    apply List.eq_nil_of_length_eq_zero
    rw [size_list]; exact h
  unfold crc
  rw [e, reg_nil]
end Go.Proofs.Ytjnjjbacfodacaa.crc
