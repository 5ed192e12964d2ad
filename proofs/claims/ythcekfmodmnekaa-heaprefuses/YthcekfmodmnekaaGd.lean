/-
  Over this program: a text of as many noughts.
-/
import Derived.Test.YthcekfmodmnekaaGc
import Derived.Lib.ConvBytes
import Derived.Lib.AppendStr
namespace Go.Proofs.Ythcekfmodmnekaa.hp
open Go.ChangeShapes Go.WideShapes Go.ChangeAt Go.RowKit Go.Shelf Go.Maps
open mg
set_option linter.unusedVariables false
set_option maxRecDepth 100000

theorem info5h : (Try.prog.info? 5).map (fun i => (i.zero, i.size, i.bytes)) = some (some (.int .u8 0), 1, 1) := by kernel_rfl
theorem zeros_n (n : Nat) (hn : n ≤ 1000000) (W : World) : ∃ (W1 : World) (v : Value) (s : ByteArray), (Instr.makeSlice 43 (.int .i64 (n : Int)) (.int .i64 (n : Int))).run Try.prog W = .ok v W1 ∧ Sem.run Try.prog (convert 43 9 v) W1 = .ok (.string s) W1 ∧ s.size = n ∧ Below W.heap.size W W1 := by
  obtain ⟨i, hi, hz0, hz1, hz2⟩ := info_parts info5h
  obtain ⟨W1, h1, h2, h3⟩ := run_make_full (P := Try.prog) W W.heap.size 43 5 i (.int .u8 0) 1 Try.underlying43 hi hz0 hz1 .i64 .i64 n (by rw [hz2]; omega) (by unfold maxLen; omega) (Nat.le_refl _)
  refine ⟨W1, _, ⟨(List.replicate n (0 : UInt8)).toArray⟩, h1, ?_, by simp [ByteArray.size], (Below.refl _ _).grown h3 (Nat.le_refl _) (by intro k hk; cases hk)⟩
  have hlen : (List.replicate n (0 : UInt8)).length = n := by simp
  have key := run_convert_bytes_back (P := Try.prog) W1 43 9 5 ⟨W.heap.size, 0, none⟩ n (List.replicate n (0 : UInt8)) Try.underlying43 Try.underlying5 Try.underlying9 (fun j hj => by
    have hplain : (⟨W.heap.size, 0, none⟩ : Addr).add j = ⟨W.heap.size, j, none⟩ := by unfold Addr.add; simp; omega
    rw [hplain, World.ownsRow.cellAt h2 j (by rw [hlen] at hj; omega)]
    have e : (madeCells (Value.int .u8 0).cells (n * 1)).toList = List.replicate n (.int .u8 0) := by
      rw [Nat.mul_one]
      exact toList_madeCells_one _ _
    rw [e]
    rw [hlen] at hj
    simp [hj])
  rw [hlen] at key
  exact key
theorem zeros (W : World) : ∃ (W1 : World) (v : Value) (s : ByteArray), (Instr.makeSlice 43 (.int .i64 262145) (.int .i64 262145)).run Try.prog W = .ok v W1 ∧ Sem.run Try.prog (convert 43 9 v) W1 = .ok (.string s) W1 ∧ s.size = 262145 ∧ Below W.heap.size W W1 :=
  zeros_n 262145 (by decide) W
end Go.Proofs.Ythcekfmodmnekaa.hp
