/-
  Over this program: the law's own alive.
-/
import Derived.Test.YtafcekognhkmgaaM02
import Derived.Lib.SmallJoins
import Derived.Laws.OwnMore
namespace Go.Proofs.Ytafcekognhkmgaa.al
open Go.ChangeShapes Go.WideShapes Go.ChangeAt Go.RowKit
set_option linter.unusedVariables false


theorem below_iter (w : World) (s : ByteArray) (p : Nat) : Below w.heap.size w (w.iter s p) := (Below.refl _ _).alloc (Nat.le_refl _) _
theorem count_a (s : ByteArray) (hd : Utf8.decode s 0 = (97, 1)) (h0 : 0 < s.size) (hz : s.size ≤ 1) (w : World) :
    Calls Try.prog 44 #[.string s] w fun e w' => e = .returned (.int .i64 1) ∧ Below w.heap.size w w' := by
  have HD : Hid (Utf8.decode s 0 = (97, 1)) := hd
  clear hd
  go_enter Try.func44, Try.ntmps44
  go_wp2
  go_loopw [3] (fun v wr => ∃ pos, wr = w.iter s pos ∧ ((pos = 0 ∧ v = .int .i64 0) ∨ (¬ pos < s.size ∧ v = .int .i64 1))) (fun _ wr => s.size - wr.iterPos w.heap.size)
  case atStart => exact ⟨0, rfl, .inl ⟨rfl, rfl⟩⟩
  case round =>
    obtain ⟨pos, rfl, ⟨rfl, rfl⟩ | ⟨hpos, rfl⟩⟩ := hrel
    · have hnx := fun ty => run_next_any (P := Try.prog) w s 0 ty h0
      rw [HD.out] at hnx
      go_wp2
      go_roundw
      case rel => exact ⟨1, by simp, .inr ⟨by omega, rfl⟩⟩
      case measure => simp; omega
    · have hnx := fun ty => run_next_end (P := Try.prog) w s pos ty hpos
      go_wp2
      go_ret
      exact ⟨rfl, below_iter _ _ _⟩
theorem alive_any (w : World) : Calls Try.prog 20 #[] w fun e w' => e = .returned (.bool true) ∧ Below w.heap.size w w' := by
  have h21 := count_a ⟨#[97]⟩ (by decide) (by decide) (by decide)
  go_enter Try.func20, Try.ntmps20
  go_wp2_with fail
  refine (h21 _).mono ?_
  rintro e w1 ⟨rfl, b1⟩
  go_wp2
  go_ret
  exact ⟨rfl, b1⟩

end Go.Proofs.Ytafcekognhkmgaa.al
