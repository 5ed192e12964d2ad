/-
  Contracts of the program's taking at a place (utf.first, utf.Next), over this program.
-/
import Derived.Test.YthmecbonjkcnmaaKVd
import Derived.Lib.OthersKept
namespace Go.Proofs.Ythmecbonjkcnmaa.chars
open Go.ChangeShapes Go.WideShapes Go.ChangeAt Go.RowKit
set_option linter.unusedVariables false

theorem isC_bd (c : Nat) (h : isC c = true) : (c : Int) ≤ 1114111 := ((isC_iff _).1 h).2.1
theorem below_iter (w : World) (s : ByteArray) (p : Nat) : Below w.heap.size w (w.iter s p) := (Below.refl _ _).alloc (Nat.le_refl _) _

theorem rnext_out (s : ByteArray) (i : Int) (w : World) (hs : s.size ≤ 140737488351232) (h : i < 0 ∨ (s.size : Int) ≤ i) :
    Calls Try.prog 20 #[.string s, .int .i64 i] w fun e w' => e = .returned (.tuple #[.int .i64 0, .int .i64 0, .bool false]) ∧ w' = w := by
  by_cases h1 : i < 0
  · go_enter Try.func20, Try.ntmps20
    go_wp2
    go_ret3
    exact ⟨rfl, rfl⟩
  · have h2 : (s.size : Int) ≤ i := by omega
    go_enter Try.func20, Try.ntmps20
    go_wp2
    go_ret3
    exact ⟨rfl, rfl⟩

theorem cut_list (s : ByteArray) (i j : Nat) : (s.extract i j).data.toList = (s.data.toList.take j).drop i := by
  simp [ByteArray.data_extract, List.drop_take]
theorem cut_end (s : ByteArray) (i : Nat) : (s.extract i s.size).data.toList = s.data.toList.drop i := by
  rw [cut_list, List.take_of_length_le (by simp)]

end Go.Proofs.Ythmecbonjkcnmaa.chars
