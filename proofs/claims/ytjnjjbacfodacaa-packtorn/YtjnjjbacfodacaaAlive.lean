/-
  A contract over this program: the law's own alive (a text of one byte has one character).
-/
import Derived.Test.YtjnjjbacfodacaaShort
import Derived.Lib.OthersKept
namespace Go.Proofs.Ytjnjjbacfodacaa.crc
open Go.ChangeShapes Go.WideShapes Go.ChangeAt Go.RowKit
set_option linter.unusedVariables false

theorem below_iter (w : World) (s : ByteArray) (p : Nat) : Below w.heap.size w (w.iter s p) := (Below.refl _ _).alloc (Nat.le_refl _) _

theorem count_a (s : ByteArray) (hd : Utf8.decode s 0 = (97, 1)) (h0 : 0 < s.size) (hz : s.size ≤ 1) (w : World) :
    Calls Try.prog 32 #[.string s] w fun e w' => e = .returned (.int .i64 1) ∧ Below w.heap.size w w' := by
  have HD : Hid (Utf8.decode s 0 = (97, 1)) := hd
  clear hd
  go_enter Try.func32, Try.ntmps32
  go_wp2
  go_loopw [3] (fun v wr => ∃ pos, wr = w.iter s pos ∧ ((pos = 0 ∧ v = .int .i64 0) ∨ (¬ pos < s.size ∧ v = .int .i64 1))) (fun _ wr => s.size - wr.iterPos w.heap.size)
  case atStart => exact ⟨0, rfl, .inl ⟨rfl, rfl⟩⟩
  case round =>
    obtain ⟨pos, rfl, ⟨rfl, rfl⟩ | ⟨hpos, rfl⟩⟩ := hrel
    · have hnx := fun ty => run_next_any (P := Try.prog) w s 0 ty h0
      rw [HD.out] at hnx
      go_wp2
      go_roundw
      case rel => exact ⟨1, by simp, .inr ⟨by omega, rfl⟩⟩
      case measure => simp; omega
    · have hnx := fun ty => run_next_end (P := Try.prog) w s pos ty hpos
      go_wp2
      go_ret
      exact ⟨rfl, below_iter _ _ _⟩

theorem alive_any (w : World) : Calls Try.prog 16 #[] w fun e w' => e = .returned (.bool true) ∧ Below w.heap.size w w' := by
  have h21 := count_a ⟨#[97]⟩ (by decide) (by decide) (by decide)
  go_enter Try.func16, Try.ntmps16
  go_wp2_with fail
  refine (h21 _).mono ?_
  rintro e w1 ⟨rfl, b1⟩
  go_wp2
  go_ret
  exact ⟨rfl, b1⟩

theorem of_empty : OfIs ⟨#[]⟩ 0 := by
  have h := of_any ⟨#[]⟩ (by decide)
  have e : 4294967295 - reg 4294967295 (ByteArray.mk #[]).data.toList = 0 := by
    show 4294967295 - reg 4294967295 [] = 0
    rw [reg_nil]
  rw [e] at h
  exact h
theorem on_empty (n : Nat) (hn : n < 4294967296) : OnIs n ⟨#[]⟩ n := by
  have h := on_any n ⟨#[]⟩ hn (by decide)
  have e : 4294967295 - reg (4294967295 - n) (ByteArray.mk #[]).data.toList = n := by
    show 4294967295 - reg (4294967295 - n) [] = n
    rw [reg_nil]
    omega
  rw [e] at h
  exact h
end Go.Proofs.Ytjnjjbacfodacaa.crc
