/-
  Contracts over this program: numbers of four bytes, the lowest first (wire.PutFour, wire.GetFour, and the document's).
-/
import Derived.Test.YtjnjjbacfodacaaBase
namespace Go.Proofs.Ytjnjjbacfodacaa.num
open Go.ChangeShapes Go.WideShapes Go.ChangeAt Go.RowKit
set_option linter.unusedVariables false

/-- four bytes, the lowest first -/
def four (n : Nat) : List UInt8 := [UInt8.ofNat (n % 256), UInt8.ofNat (n / 256 % 256), UInt8.ofNat (n / 65536 % 256), UInt8.ofNat (n / 16777216 % 256)]

def PutFourIs (n : Nat) (t : ByteArray) : Prop := ∀ w, Calls Try.prog 37 #[.int .u32 n] w fun e w' => e = .returned (.string t) ∧ Below w.heap.size w w'
def RPutFourIs (n : Nat) (t : ByteArray) : Prop := ∀ w, Calls Try.prog 23 #[.int .u32 n] w fun e w' => e = .returned (.string t) ∧ Below w.heap.size w w'

theorem conv_new (W : World) (T : TypeId) (xs : List Int) (n : Nat) (hn : xs.length = n) :
    Sem.run Try.prog (convert 56 9 (.slice (some ⟨W.heap.size, 0, none⟩) n n)) (W.alloc (.cells (xs.map (Value.int .u8)).toArray T)) = .ok (.string (strOfNums xs)) (W.alloc (.cells (xs.map (Value.int .u8)).toArray T)) := by
  refine run_convert_bytes_arg (W.alloc (.cells (xs.map (Value.int .u8)).toArray T)) 56 5 Try.underlying56 Try.underlying5 W.heap.size 0 n n xs hn (fun i hi => ?_) 9 Try.underlying9
  have hx : i < xs.length := by omega
  simp [List.getElem?_eq_getElem hx, List.getD_eq_getElem?_getD]

theorem four_text (n : Nat) : (⟨(four n).toArray⟩ : ByteArray) = strOfNums [(n : Int) % 256, (n : Int) / 256 % 256, (n : Int) / 65536 % 256, (n : Int) / 16777216 % 256] := by
  unfold strOfNums four
  congr 1

set_option maxHeartbeats 1000000 in
set_option maxRecDepth 100000 in
theorem putFour_any (n : Nat) (hn : n < 4294967296) : PutFourIs n ⟨(four n).toArray⟩ := by
  intro w
  rw [four_text]
  have hcv : ∀ W : World, Sem.run Try.prog (convert 56 9 (.slice (some ⟨W.heap.size, 0, none⟩) 4 4)) (W.alloc (.cells #[.int .u8 ((n : Int) % 256), .int .u8 ((n : Int) / 256 % 256), .int .u8 ((n : Int) / 65536 % 256), .int .u8 ((n : Int) / 16777216 % 256)] 70)) = .ok (.string (strOfNums [(n : Int) % 256, (n : Int) / 256 % 256, (n : Int) / 65536 % 256, (n : Int) / 16777216 % 256])) (W.alloc (.cells #[.int .u8 ((n : Int) % 256), .int .u8 ((n : Int) / 256 % 256), .int .u8 ((n : Int) / 65536 % 256), .int .u8 ((n : Int) / 16777216 % 256)] 70)) := fun W => conv_new W 70 [(n : Int) % 256, (n : Int) / 256 % 256, (n : Int) / 65536 % 256, (n : Int) / 16777216 % 256] 4 rfl
  go_enter Try.func37, Try.ntmps37
  go_wp2
  go_loopw [5] (fun v wr => (v = .int .i64 0 ∧ wr = w.alloc (.cells #[.int .u8 0, .int .u8 0, .int .u8 0, .int .u8 0] 70)) ∨ (v = .int .i64 1 ∧ wr = w.alloc (.cells #[.int .u8 (n % 256), .int .u8 0, .int .u8 0, .int .u8 0] 70)) ∨ (v = .int .i64 2 ∧ wr = w.alloc (.cells #[.int .u8 (n % 256), .int .u8 (n / 256 % 256), .int .u8 0, .int .u8 0] 70)) ∨ (v = .int .i64 3 ∧ wr = w.alloc (.cells #[.int .u8 (n % 256), .int .u8 (n / 256 % 256), .int .u8 (n / 65536 % 256), .int .u8 0] 70)) ∨ (v = .int .i64 4 ∧ wr = w.alloc (.cells #[.int .u8 (n % 256), .int .u8 (n / 256 % 256), .int .u8 (n / 65536 % 256), .int .u8 (n / 16777216 % 256)] 70))) (fun v _ => 4 - (intOf v).toNat)
  case atStart => exact .inl ⟨rfl, rfl⟩
  case round =>
    rcases hrel with ⟨rfl, rfl⟩ | ⟨rfl, rfl⟩ | ⟨rfl, rfl⟩ | ⟨rfl, rfl⟩ | ⟨rfl, rfl⟩
    · go_wp2
      go_roundw
      case rel => exact .inr (.inl ⟨rfl, by trivial⟩)
      case measure => simp [intOf]
    · go_wp2
      go_roundw
      case rel => exact .inr (.inr (.inl ⟨rfl, by trivial⟩))
      case measure => simp [intOf]
    · go_wp2
      go_roundw
      case rel => exact .inr (.inr (.inr (.inl ⟨rfl, by trivial⟩)))
      case measure => simp [intOf]
    · go_wp2
      go_roundw
      case rel => exact .inr (.inr (.inr (.inr ⟨rfl, by trivial⟩)))
      case measure => simp [intOf]
    · go_wp2
      go_ret
      exact ⟨rfl, (Below.refl _ _).alloc (Nat.le_refl _) _⟩

set_option maxHeartbeats 1000000 in
theorem rputFour_any (n : Nat) (hn : n < 4294967296) : RPutFourIs n ⟨(four n).toArray⟩ := by
  intro w
  have e : Hid ((⟨(four n).toArray⟩ : ByteArray) = strOfNums [(n : Int) % 256, (n : Int) / 256 % 256, (n : Int) / 65536 % 256, (n : Int) / 16777216]) := by
    show _ = _
    rw [four_text, show (n : Int) / 16777216 % 256 = (n : Int) / 16777216 from by omega]
  have hcv : ∀ W : World, Sem.run Try.prog (convert 56 9 (.slice (some ⟨W.heap.size, 0, none⟩) 4 4)) (W.alloc (.cells #[.int .u8 ((n : Int) % 256), .int .u8 ((n : Int) / 256 % 256), .int .u8 ((n : Int) / 65536 % 256), .int .u8 ((n : Int) / 16777216)] 5)) = .ok (.string (strOfNums [(n : Int) % 256, (n : Int) / 256 % 256, (n : Int) / 65536 % 256, (n : Int) / 16777216])) (W.alloc (.cells #[.int .u8 ((n : Int) % 256), .int .u8 ((n : Int) / 256 % 256), .int .u8 ((n : Int) / 65536 % 256), .int .u8 ((n : Int) / 16777216)] 5)) := fun W => conv_new W 5 [(n : Int) % 256, (n : Int) / 256 % 256, (n : Int) / 65536 % 256, (n : Int) / 16777216] 4 rfl
  rw [e.out]
  go_enter Try.func23, Try.ntmps23
  go_wp2
  go_ret
  exact ⟨rfl, (Below.refl _ _).alloc (Nat.le_refl _) _⟩

theorem putFour_is (n : Nat) (hn : n < 4294967296) (t : ByteArray) (ht : t.data.toList = four n) : PutFourIs n t := by
  have e : (⟨(four n).toArray⟩ : ByteArray) = t := bytes_ext (by rw [ht])
  rw [← e]; exact putFour_any n hn
theorem rputFour_is (n : Nat) (hn : n < 4294967296) (t : ByteArray) (ht : t.data.toList = four n) : RPutFourIs n t := by
  have e : (⟨(four n).toArray⟩ : ByteArray) = t := bytes_ext (by rw [ht])
  rw [← e]; exact rputFour_any n hn

end Go.Proofs.Ytjnjjbacfodacaa.num
