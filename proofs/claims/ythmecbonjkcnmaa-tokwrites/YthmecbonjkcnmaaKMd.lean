/-
  Contracts over this program: a text's copy (strings.Clone), the texts of the bytes (ofBytes).
-/
import Derived.Test.YthmecbonjkcnmaaKAp
import Derived.Test.YthmecbonjkcnmaaKMb
import Derived.Shelf.Pu.Clone
import Derived.Lib.ConvBytes
import Derived.Deep.OwnRows
import Derived.Deep.WholeRow
import Derived.Laws.BytesArg
namespace Go.Proofs.Ythmecbonjkcnmaa.mg
open Go.ChangeShapes Go.WideShapes Go.ChangeAt Go.RowKit Go.Shelf
set_option linter.unusedVariables false

/-- the library's contract for a text's copy, laid at this program -/
def ren : Go.Shelf.Ren := ⟨fun | 25 => 54 | n => n, fun | 37 => 45 | 47 => 67 | n => n, fun | n => n⟩
theorem lays25 : Go.Proofs.LaysPu.n25 Try.prog ren := {
  mixed := by kernel_rfl
  f25 := Try.func54.trans (congrArg some (by kernel_rfl))
  t0 := Try.underlying0
  a0 := Try.isAgg0
  z0 := Try.sizeOf0
  v0 := Try.zeroValue0
  i0 := by kernel_rfl
  t3 := Try.underlying3
  a3 := Try.isAgg3
  z3 := Try.sizeOf3
  v3 := Try.zeroValue3
  i3 := by kernel_rfl
  t4 := Try.underlying4
  a4 := Try.isAgg4
  z4 := Try.sizeOf4
  v4 := Try.zeroValue4
  i4 := by kernel_rfl
  t5 := Try.underlying5
  a5 := Try.isAgg5
  z5 := Try.sizeOf5
  v5 := Try.zeroValue5
  i5 := by kernel_rfl
  t9 := Try.underlying9
  a9 := Try.isAgg9
  z9 := Try.sizeOf9
  v9 := Try.zeroValue9
  i9 := by kernel_rfl
  t37 := Try.underlying45
  a37 := Try.isAgg45
  z37 := Try.sizeOf45
  v37 := Try.zeroValue45
  i37 := by kernel_rfl
  t47 := Try.underlying67
  a47 := Try.isAgg67
  z47 := Try.sizeOf67
  v47 := Try.zeroValue67
  i47 := by kernel_rfl }
attribute [local go_sem] Oper.semAt_some
theorem clone_any (s : ByteArray) (hlim : s.size ≤ 140737488351232) (w : World) : Calls Try.prog 48 #[.string s] w fun e w' => e = .returned (.string s) ∧ Below w.heap.size w w' := by
  have h39 := fun w => AnyPu.stringslite_Clone lays25 s w (by omega)
  go_enter Try.func48, Try.ntmps48
  go_wp2_with (go_at_call 54; refine (h39 _).mono ?_; rintro e w1 ⟨rfl, b1⟩)
  go_ret
  exact ⟨rfl, b1⟩
theorem conv_one (w : World) (b : UInt8) : Sem.run Try.prog (convert 45 9 (.slice (some ⟨w.heap.size, 0, none⟩) 1 1)) (w.alloc (.cells #[.int .u8 (b.toNat : Int)] 5)) = .ok (.string ⟨#[b]⟩) (w.alloc (.cells #[.int .u8 (b.toNat : Int)] 5)) := by
  refine run_convert_bytes_back _ 45 9 5 ⟨w.heap.size, 0, none⟩ 1 [b] Try.underlying45 Try.underlying5 Try.underlying9 fun j hj => ?_
  match j, hj with
  | 0, _ => simp [Addr.add]
  | (j + 1), hj => simp at hj
theorem conv_byte (w : World) (i : Nat) (h : i < 256) : Sem.run Try.prog (convert 45 9 (.slice (some ⟨w.heap.size, 0, none⟩) 1 1)) (w.alloc (.cells #[.int .u8 (i : Int)] 5)) = .ok (.string (oneB i)) (w.alloc (.cells #[.int .u8 (i : Int)] 5)) := by
  have := conv_one w (UInt8.ofNat i)
  have e : ((UInt8.ofNat i).toNat : Int) = (i : Int) := by
    rw [UInt8.toNat_ofNat', Nat.mod_eq_of_lt h]
  rw [e] at this
  exact this

/-- a row of texts that is written -/
def scells (l : List ByteArray) : Array Value := (l.map Value.string).toArray
def SRow (w : World) (g : Nat) (l : List ByteArray) : Prop := w.heap[g]? = some (.cells (scells l) 9 (0, 0))
theorem info9 : (Try.prog.info? 9).map (fun i => (i.zero, i.size, i.bytes)) = some (some (.string ⟨#[]⟩), 1, 16) := by kernel_rfl
section
variable {w w' : World} {g : Nat} {l : List ByteArray}
theorem SRow.lt (h : SRow w g l) : g < w.heap.size := (Array.getElem?_eq_some_iff.1 h).1
theorem SRow.later (h : SRow w g l) (b : Below w.heap.size w w') : SRow w' g l := (b.block g h.lt).trans h
theorem SRow.cell (h : SRow w g l) (i : Nat) (hi : i < l.length) : w.cell? ⟨g, i, none⟩ = some (.string l[i]) := by
  rw [Lib.cell_of_heap h]
  simp [scells, hi]
theorem SRow.fz (h : SRow w g l) (i : Nat) : w.frozen? ⟨g, i, none⟩ = false := Lib.frozen_of_heap h i
theorem set_heap (w : World) (g : Nat) (cs : Array Value) (t : TypeId) (i : Nat) (v : Value) (h : w.heap[g]? = some (.cells cs t (0, 0))) : (w.setCell ⟨g, i, none⟩ v).heap[g]? = some (.cells (cs.setIfInBounds i v) t (0, 0)) := by
  simp [World.setCell, Array.getElem?_modify, h]
theorem SRow.put (h : SRow w g l) (i : Nat) (x : ByteArray) : SRow (w.setCell ⟨g, i, none⟩ (.string x)) g (l.set i x) := by
  unfold SRow
  rw [set_heap w g _ _ i _ h]
  congr 2
  simp [scells]
end
theorem scells_made (n : Nat) : madeCells #[.string ⟨#[]⟩] n = scells (List.replicate n ⟨#[]⟩) := by
  apply Array.toList_inj.1
  rw [toList_madeCells_one]
  simp [scells]
theorem make_texts (n m : Nat) (hn : n ≤ 1000000) (hm : m ≤ n) (W : World) : (Instr.makeSlice 31 (.int .i64 (m : Int)) (.int .i64 (n : Int))).run Try.prog W = .ok (.slice (some ⟨W.heap.size, 0, none⟩) m n) (W.alloc (.cells (scells (List.replicate n ⟨#[]⟩)) 9)) := by
  obtain ⟨i0, hi, hz0, hz1, hz2⟩ := info_parts info9
  have hr := run_make (P := Try.prog) W 31 9 i0 _ Try.underlying31 hi hz0 .i64 .i64 m n (by omega) (by omega) (by rw [hz2]; omega) (by omega)
  simp only [Int.toNat_natCast, hz1, Nat.mul_one] at hr
  rw [hr]
  congr 3
  rw [← scells_made]
  rfl
/-- the first texts are there -/
def part (n i : Nat) : List ByteArray := bytesT i ++ List.replicate (n - i) ⟨#[]⟩
theorem part_len (n i : Nat) (h : i ≤ n) : (part n i).length = n := by simp [part, bytesT_len]; omega
theorem part_set (n i : Nat) (h : i < n) : (part n i).set i (oneB i) = part n (i + 1) := by
  unfold part
  rw [bytesT_succ, List.set_append_right _ _ (by rw [bytesT_len]; exact Nat.le_refl _), bytesT_len, Nat.sub_self, show n - i = (n - (i + 1)) + 1 by omega, List.replicate_succ, List.set_cons_zero, List.append_assoc]
  rfl
theorem SRow.own {w : World} {B g n : Nat} (h : SRow w g (part n 256)) (hB : B ≤ g) (hn : 256 ≤ n) (hm : n ≤ 1000000) : w.ownsRow B 9 1 (.slice (some ⟨g, 0, none⟩) 256 n) 256 ((bytesT 256).map Value.string) := by
  refine ⟨by rw [List.length_map, bytesT_len], .inr ⟨g, n, _, rfl, hB, h, hn, by unfold maxLen; omega, ?_, ?_⟩⟩
  · simp [scells, part_len n 256 hn]
  · simp only [scells, part, List.map_append]
    rw [List.take_left' (by rw [List.length_map, bytesT_len])]

set_option maxHeartbeats 2000000 in
set_option maxRecDepth 100000 in
theorem ofBytes_any (n : Nat) (hn : n ≤ 1024) (w : World) : Calls Try.prog 39 #[.int .i64 (n : Int)] w fun e w' => ∃ v, e = .returned v ∧ w'.ownsRow w.heap.size 9 1 v 256 ((bytesT 256).map Value.string) ∧ Below w.heap.size w w' := by
  have hmk : ∀ W, (Instr.makeSlice 31 (.int .i64 256) (.int .i64 (256 + (n : Int)))).run Try.prog W = .ok (.slice (some ⟨W.heap.size, 0, none⟩) 256 (256 + n)) (W.alloc (.cells (scells (part (256 + n) 0)) 9)) := fun W => by
    have := make_texts (256 + n) 256 (by omega) (by omega) W
    rw [show ((256 + n : Nat) : Int) = 256 + (n : Int) by omega] at this
    exact this
  have hS : SRow (w.alloc (.cells (scells (part (256 + n) 0)) 9)) w.heap.size (part (256 + n) 0) := heap_alloc_new w _
  have hB0 := below_alloc w (.cells (scells (part (256 + n) 0)) 9)
  have hcl := clone_any
  go_enter Try.func39, Try.ntmps39
  go_wp2_with (fail)
  clear hmk
  generalize w.alloc (.cells (scells (part (256 + n) 0)) 9) = w1 at *
  go_loopw [10] (fun y wr => ∃ i : Nat, y = .int .i64 i ∧ i ≤ 256 ∧ SRow wr w.heap.size (part (256 + n) i) ∧ Below w.heap.size w wr) (fun y _ => 256 - (intOf y).toNat)
  case atStart => exact ⟨0, rfl, by omega, hS, hB0⟩
  case round =>
    obtain ⟨i, rfl, hil, hS1, hB⟩ := hrel
    by_cases hend : i < 256
    · have hcv := conv_byte wr i hend
      have hcl2 := hcl (oneB i) (by rw [oneB_size]; omega)
      have hS2 := hS1.later (below_alloc wr (.cells #[.int .u8 (i : Int)] 5))
      have hB2 := hB.alloc hB.size (.cells #[.int .u8 (i : Int)] 5)
      clear hcl hS hB0
      go_wp2_with (go_at_call 48; refine (hcl2 _).mono ?_; rintro e w2 ⟨rfl, b2⟩; have hS3 := hS2.later b2; have hc3 := hS3.cell i (by rw [part_len _ _ (by omega)]; omega); have hf3 := hS3.fz i)
      go_roundw
      case rel => exact ⟨i + 1, by go_num, by omega, by rw [← part_set _ _ (by omega)]; exact hS3.put i _, Below.setCell (p := ⟨w.heap.size, i, none⟩) (hB2.trans (b2.mono hB2.size)) (Nat.le_refl w.heap.size) _⟩
      case measure => simp [intOf]; omega
    · obtain rfl : i = 256 := by omega
      have HS := (show Hid _ from hS1.own (Nat.le_refl _) (by omega) (by omega))
      clear hS1 hS
      go_wp2_with (fail)
      go_ret
      exact ⟨_, rfl, HS.out, hB⟩
end Go.Proofs.Ythmecbonjkcnmaa.mg
