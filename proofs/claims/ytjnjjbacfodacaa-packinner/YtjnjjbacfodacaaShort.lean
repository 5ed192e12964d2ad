/-
  Contracts over this program: the law's own short and alive; both ways to a sum, joined.
-/
import Derived.Test.YtjnjjbacfodacaaRef
import Derived.Deep.RegionHeld3
import Derived.Deep.QuietTactic
namespace Go.Proofs.Ytjnjjbacfodacaa.crc
open Go.ChangeShapes Go.WideShapes Go.ChangeAt Go.RowKit
set_option linter.unusedVariables false

theorem u32_range {a : Int} (h : (Lit.int .u32 a).wf = true) : 0 ≤ a ∧ a < 4294967296 := by
  have e1 : IntKind.u32.min = 0 := by decide
  have e2 : IntKind.u32.max = 4294967295 := by decide
  simp [Lit.wf] at h
  rw [e1, e2] at h
  omega
theorem u16_range {a : Int} (h : (Lit.int .u16 a).wf = true) : 0 ≤ a ∧ a < 65536 := by
  have e1 : IntKind.u16.min = 0 := by decide
  have e2 : IntKind.u16.max = 65535 := by decide
  simp [Lit.wf] at h
  rw [e1, e2] at h
  omega
theorem u64_range {a : Int} (h : (Lit.int .u64 a).wf = true) : 0 ≤ a ∧ a < 18446744073709551616 := by
  have e1 : IntKind.u64.min = 0 := by decide
  have e2 : IntKind.u64.max = 18446744073709551615 := by decide
  simp [Lit.wf] at h
  rw [e1, e2] at h
  omega
theorem i64_range {a : Int} (h : (Lit.int .i64 a).wf = true) : -9223372036854775808 ≤ a ∧ a < 9223372036854775808 := by
  have e1 : IntKind.i64.min = -9223372036854775808 := by decide
  simp [Lit.wf] at h
  rw [e1] at h
  omega

theorem chain {w w1 w2 : World} (h1 : Below w.heap.size w w1) (h2 : Below w1.heap.size w1 w2) : Below w.heap.size w w2 := h1.trans (h2.mono h1.size)

theorem text (l : List UInt8) : ∃ t : ByteArray, t.data.toList = l := ⟨⟨l.toArray⟩, by simp⟩
theorem size_list (s : ByteArray) : s.data.toList.length = s.size := by simp
theorem text_ext {s t : ByteArray} (h : s.data.toList = t.data.toList) : s = t := by
  cases s; cases t
  congr 1
  exact Array.toList_inj.1 h

/-- the sum of a text -/
def crc (c : Nat) (s : ByteArray) : Nat := 4294967295 - reg (4294967295 - c) s.data.toList
theorem crc_lt (c : Nat) (s : ByteArray) : crc c s < 4294967296 := by unfold crc; omega
theorem on_is (c : Nat) (s : ByteArray) (n : Nat) (hc : c < 4294967296) (hs : s.size ≤ 1125899906842624) (hn : n = crc c s) : OnIs c s n := by
  rw [hn]; exact on_any c s hc hs
theorem ron_is (c : Nat) (s : ByteArray) (n : Nat) (hc : c < 4294967296) (hs : s.size ≤ 1125899906842624) (hn : n = crc c s) : ROnIs c s n := by
  rw [hn]; exact ron_any c s hc hs
theorem of_is (s : ByteArray) (n : Nat) (hs : s.size ≤ 1125899906842624) (hn : n = crc 0 s) : OfIs s n := by
  rw [hn]; exact of_any s hs
theorem rof_is (s : ByteArray) (n : Nat) (hs : s.size ≤ 1125899906842624) (hn : n = crc 0 s) : ROfIs s n := by
  rw [hn]; exact rof_any s hs
theorem crc_join (a b : ByteArray) (c : Nat) : crc c (a ++ b) = crc (crc c a) b := by
  have hl := reg_lt a.data.toList (show 4294967295 - c < 4294967296 by omega)
  unfold crc
  rw [ByteArray.toList_data_append, reg_append, show 4294967295 - (4294967295 - reg (4294967295 - c) a.data.toList) = reg (4294967295 - c) a.data.toList from by omega]
end Go.Proofs.Ytjnjjbacfodacaa.crc
