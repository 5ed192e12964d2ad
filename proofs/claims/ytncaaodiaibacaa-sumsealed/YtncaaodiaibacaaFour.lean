/-
  A contract over this program: a sum as four bytes, the lowest first (the law's own four).
-/
import Derived.Test.YtncaaodiaibacaaBurst
namespace Go.Proofs.Ytncaaodiaibacaa.crc
open Go.ChangeShapes Go.WideShapes Go.ChangeAt Go.RowKit
set_option linter.unusedVariables false

def FourIs (n : Nat) (t : ByteArray) : Prop := ∀ w, Calls Try.prog 18 #[.int .u32 n] w fun e w' => e = .returned (.string t) ∧ Below w.heap.size w w'

theorem conv_new (W : World) (xs : List Int) (n : Nat) (hn : xs.length = n) :
    Sem.run Try.prog (convert 37 9 (.slice (some ⟨W.heap.size, 0, none⟩) n n)) (W.alloc (.cells (xs.map (Value.int .u8)).toArray 5)) = .ok (.string (strOfNums xs)) (W.alloc (.cells (xs.map (Value.int .u8)).toArray 5)) := by
  refine run_convert_bytes_arg (W.alloc (.cells (xs.map (Value.int .u8)).toArray 5)) 37 5 Try.underlying37 Try.underlying5 W.heap.size 0 n n xs hn (fun i hi => ?_) 9 Try.underlying9
  have hx : i < xs.length := by omega
  simp [List.getElem?_eq_getElem hx, List.getD_eq_getElem?_getD]

theorem four_text (n : Nat) (h : n < 4294967296) : (⟨(bytesOf 4 n).toArray⟩ : ByteArray) = strOfNums [(n : Int) % 256, (n : Int) / 256 % 256, (n : Int) / 65536 % 256, (n : Int) / 16777216] := by
  have e : bytesOf 4 n = [UInt8.ofNat (n % 256), UInt8.ofNat (n / 256 % 256), UInt8.ofNat (n / 256 / 256 % 256), UInt8.ofNat (n / 256 / 256 / 256 % 256)] := rfl
  rw [e, show n / 256 / 256 % 256 = n / 65536 % 256 from by omega, show n / 256 / 256 / 256 % 256 = n / 16777216 from by omega]
  rfl

set_option maxHeartbeats 1000000 in
theorem four_any (n : Nat) (hn : n < 4294967296) : FourIs n ⟨(bytesOf 4 n).toArray⟩ := by
  intro w
  have e := four_text n hn
  have hcv : ∀ W : World, Sem.run Try.prog (convert 37 9 (.slice (some ⟨W.heap.size, 0, none⟩) 4 4)) (W.alloc (.cells #[.int .u8 ((n : Int) % 256), .int .u8 ((n : Int) / 256 % 256), .int .u8 ((n : Int) / 65536 % 256), .int .u8 ((n : Int) / 16777216)] 5)) = .ok (.string (strOfNums [(n : Int) % 256, (n : Int) / 256 % 256, (n : Int) / 65536 % 256, (n : Int) / 16777216])) (W.alloc (.cells #[.int .u8 ((n : Int) % 256), .int .u8 ((n : Int) / 256 % 256), .int .u8 ((n : Int) / 65536 % 256), .int .u8 ((n : Int) / 16777216)] 5)) := fun W => conv_new W [(n : Int) % 256, (n : Int) / 256 % 256, (n : Int) / 65536 % 256, (n : Int) / 16777216] 4 rfl
  rw [e]
  clear e
  go_enter Try.func18, Try.ntmps18
  go_wp2
  go_ret
  exact ⟨rfl, (Below.refl _ _).alloc (Nat.le_refl _) _⟩

/-- a sum as four bytes -/
theorem four_is (n : Nat) (hn : n < 4294967296) : ∃ t : ByteArray, FourIs n t ∧ t.size = 4 ∧ num t.data.toList = n := by
  refine ⟨⟨(bytesOf 4 n).toArray⟩, four_any n hn, rfl, ?_⟩
  show num (bytesOf 4 n) = n
  exact bytesOf_num 4 n hn
end Go.Proofs.Ytncaaodiaibacaa.crc
