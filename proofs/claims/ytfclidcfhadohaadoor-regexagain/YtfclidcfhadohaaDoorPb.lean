/-
  Contracts over this program: a byte's text (strings.IndexByte, regex.byteText; the document's Sign, letter, written).
-/
import Derived.Test.YtfclidcfhadohaaDoorPa
import Derived.Test.YtfclidcfhadohaaDoorBytes
import Derived.Lib.Bytealg
import Derived.Lib.SlBytesConst
namespace Go.Proofs.YtfclidcfhadohaaDoor.rp
open Go.Proofs.YtfclidcfhadohaaDoor.st
open Go.ChangeShapes Go.WideShapes Go.ChangeAt Go.RowKit
set_option linter.unusedVariables false

def sgs : List Nat := [92, 40, 41, 91, 93, 123, 125, 46, 42, 43, 63, 124, 94, 36]
def sgL (b : Bool) : ByteArray := if b then ⟨#[92, 40, 41, 91, 93, 123, 125, 46, 42, 43, 63, 124, 94, 36, 45, 47]⟩ else ⟨#[92, 40, 41, 91, 93, 123, 125, 46, 42, 43, 63, 124, 94, 36]⟩

theorem run76 (s : ByteArray) (c : Int) (w : World) : (callFunc 76 #[.string s, .int .u8 c]).run Tryd.prog w = .ok (.value (.int .i64 (Lib.indexByte s.data.toList c.toNat.toUInt8))) w := by
  rw [run_callFunc_extern (e := Extern.BytealgIndexByte.indexByte) Tryd.func76 (by kernel_rfl) (by kernel_rfl) (by kernel_rfl) (by kernel_rfl), Lib.run_indexByteString]
  rfl
def Index2Is (s : ByteArray) (c : Nat) (r : Int) : Prop := ∀ w, Calls Tryd.prog 69 #[.string s, .int .u8 c] w fun e w' => e = .returned (.int .i64 r) ∧ w' = w
theorem index2_any (s : ByteArray) (c : Nat) (r : Int) (hr : r = Lib.indexByte s.data.toList c.toUInt8) : Index2Is s c r := by
  intro w
  have h67 := run76 s c
  have e : ((c : Int)).toNat = c := by omega
  rw [e, ← hr] at h67
  clear e hr
  go_enter Tryd.func69, Tryd.ntmps69
  go_wp2
  go_ret
  exact ⟨rfl, rfl⟩
def IndexIs (s : ByteArray) (c : Nat) (r : Int) : Prop := ∀ w, Calls Tryd.prog 55 #[.string s, .int .u8 c] w fun e w' => e = .returned (.int .i64 r) ∧ w' = w
theorem index_any (s : ByteArray) (c : Nat) (r : Int) (hr : r = Lib.indexByte s.data.toList c.toUInt8) : IndexIs s c r := by
  intro w
  have h := index2_any s c r hr
  clear hr
  go_enter Tryd.func55, Tryd.ntmps55
  go_wp2_with (go_at_call 69; refine (h _).mono ?_; rintro e w1 ⟨rfl, hw⟩; obtain rfl := hw.symm)
  go_ret
  exact ⟨rfl, rfl⟩
theorem index_mem (l : List UInt8) (c : UInt8) : decide (0 ≤ Lib.indexByte l c) = decide (c ∈ l) := by
  induction l with
  | nil => simp [Lib.indexByte]
  | cons b l ih =>
    unfold Lib.indexByte
    by_cases hb : b = c
    · subst hb; simp
    · have h1 : (b == c) = false := by simpa using hb
      have h3 : decide (c ∈ b :: l) = decide (c ∈ l) := by
        rw [decide_eq_decide]; simp; intro e; exact absurd e.symm hb
      rw [h1, h3, ← ih]
      simp only [Bool.false_eq_true, if_false]
      have hge := Lib.indexByte_ge l c
      by_cases h2 : (Lib.indexByte l c == -1) = true
      · have : Lib.indexByte l c = -1 := by simpa using h2
        rw [if_pos h2, this]
      · rw [if_neg h2]
        have : Lib.indexByte l c ≠ -1 := by simpa using h2
        rw [decide_eq_decide]; omega
theorem sg_mem : ∀ c : Nat, c < 256 → ∀ b : Bool, decide (c.toUInt8 ∈ (sgL b).data.toList) = (isSign c || (b && (decide (c = 45) || decide (c = 47)))) := by decide +kernel

/-- a text of one byte, and of two, made of a row -/
theorem conv1 (w : World) (x : Nat) (hx : x < 256) : (convert 40 9 (.slice (some ⟨w.heap.size, 0, none⟩) 1 1)).run Tryd.prog (w.alloc (.cells #[.int .u8 (x : Int)] 5)) = .ok (.string (bs [UInt8.ofNat x])) (w.alloc (.cells #[.int .u8 (x : Int)] 5)) := by
  refine run_convert_bytes_back _ 40 9 5 ⟨w.heap.size, 0, none⟩ 1 [UInt8.ofNat x] Tryd.underlying40 Tryd.underlying5 Tryd.underlying9 fun j hj => ?_
  have hj0 : j = 0 := by simpa using hj
  subst hj0
  have h : (w.alloc (.cells #[.int .u8 (x : Int)] 5)).heap[w.heap.size]? = some _ := heap_alloc_new w _
  have e : (⟨w.heap.size, 0, none⟩ : Addr).add 0 = ⟨w.heap.size, 0, none⟩ := rfl
  rw [e, Lib.cell_of_heap h]
  simp [Nat.mod_eq_of_lt hx]
theorem conv2 (w : World) (x y : Nat) (hx : x < 256) (hy : y < 256) : (convert 40 9 (.slice (some ⟨w.heap.size, 0, none⟩) 2 2)).run Tryd.prog (w.alloc (.cells #[.int .u8 (x : Int), .int .u8 (y : Int)] 5)) = .ok (.string (bs [UInt8.ofNat x, UInt8.ofNat y])) (w.alloc (.cells #[.int .u8 (x : Int), .int .u8 (y : Int)] 5)) := by
  refine run_convert_bytes_back _ 40 9 5 ⟨w.heap.size, 0, none⟩ 2 [UInt8.ofNat x, UInt8.ofNat y] Tryd.underlying40 Tryd.underlying5 Tryd.underlying9 fun j hj => ?_
  have h : (w.alloc (.cells #[.int .u8 (x : Int), .int .u8 (y : Int)] 5)).heap[w.heap.size]? = some _ := heap_alloc_new w _
  have e : (⟨w.heap.size, 0, none⟩ : Addr).add j = ⟨w.heap.size, j, none⟩ := by unfold Addr.add; simp; omega
  rw [e, Lib.cell_of_heap h]
  match j, hj with
  | 0, _ => simp [Nat.mod_eq_of_lt hx]
  | 1, _ => simp [Nat.mod_eq_of_lt hy]

theorem hxs : ∀ k : Nat, k < 16 → (⟨#[48, 49, 50, 51, 52, 53, 54, 55, 56, 57, 97, 98, 99, 100, 101, 102]⟩ : ByteArray)[k]? = some (hx k) := by decide +kernel
end Go.Proofs.YtfclidcfhadohaaDoor.rp
