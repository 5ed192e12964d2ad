/-
  A contract over this program: the law's own sealed (a beginning and a sum that fit, round any bytes).
-/
import Derived.Test.YtjnjjbacfodacaaGet
namespace Go.Proofs.Ytjnjjbacfodacaa.pk
open Go.ChangeShapes Go.WideShapes Go.ChangeAt Go.RowKit
set_option linter.unusedVariables false

def LSealIs (s t : ByteArray) : Prop := ∀ w, Calls Try.prog 15 #[.string s] w fun e w' => e = .returned (.string t) ∧ Below w.heap.size w w'

theorem four_nums (n : Nat) (h : n < 4294967296) : (⟨(num.four n).toArray⟩ : ByteArray) = strOfNums [(n : Int) % 256, (n : Int) / 256 % 256, (n : Int) / 65536 % 256, (n : Int) / 16777216] := by
  rw [num.four_text, show (n : Int) / 16777216 % 256 = (n : Int) / 16777216 from by omega]

set_option maxHeartbeats 1000000 in
set_option maxRecDepth 100000 in
theorem lseal_any (s : ByteArray) (hs : s.size ≤ 140737488351232) : ∃ A : ByteArray, A = mark ++ s ∧ LSealIs s (A ++ seal4 A) := by
  refine ⟨_, rfl, fun w => ?_⟩
  obtain ⟨A, hA⟩ : ∃ A, (⟨#[70, 83, 65, 87, 1]⟩ : ByteArray) ++ s = A := ⟨_, rfl⟩
  have hAz : A.size = 5 + s.size := by rw [← hA, ByteArray.size_append]; rfl
  have hA2 : mark ++ s = A := hA
  rw [hA2]
  obtain ⟨n, hn⟩ : ∃ n, n = crc.crc 0 A := ⟨_, rfl⟩
  have hn32 : n < 4294967296 := by rw [hn]; exact crc.crc_lt 0 A
  have p24 := crc.rof_is A n (by omega) hn
  have e : seal4 A = strOfNums [(n : Int) % 256, (n : Int) / 256 % 256, (n : Int) / 65536 % 256, (n : Int) / 16777216] := by
    rw [← four_nums n hn32, hn]
    rfl
  have hfz : (seal4 A).size ≤ 4 := Nat.le_of_eq (seal4_size A)
  rw [e] at hfz
  rw [e]
  have hcv : ∀ W : World, Sem.run Try.prog (convert 56 9 (.slice (some ⟨W.heap.size, 0, none⟩) 4 4)) (W.alloc (.cells #[.int .u8 ((n : Int) % 256), .int .u8 ((n : Int) / 256 % 256), .int .u8 ((n : Int) / 65536 % 256), .int .u8 ((n : Int) / 16777216)] 5)) = .ok (.string (strOfNums [(n : Int) % 256, (n : Int) / 256 % 256, (n : Int) / 65536 % 256, (n : Int) / 16777216])) (W.alloc (.cells #[.int .u8 ((n : Int) % 256), .int .u8 ((n : Int) / 256 % 256), .int .u8 ((n : Int) / 65536 % 256), .int .u8 ((n : Int) / 16777216)] 5)) := fun W => num.conv_new W 5 [(n : Int) % 256, (n : Int) / 256 % 256, (n : Int) / 65536 % 256, (n : Int) / 16777216] 4 rfl
  generalize strOfNums [(n : Int) % 256, (n : Int) / 256 % 256, (n : Int) / 65536 % 256, (n : Int) / 16777216] = f at *
  clear e hn hA2
  go_enter Try.func15, Try.ntmps15
  go_wp2_with (go_at_call 24; refine (p24 _).mono ?_; rintro e w1 ⟨rfl, rfl⟩)
  go_ret
  exact ⟨rfl, (Below.refl _ _).alloc (Nat.le_refl _) _⟩
end Go.Proofs.Ytjnjjbacfodacaa.pk
