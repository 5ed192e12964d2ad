/-
  What the law SumThree needs: a row of noughts that is made, and three texts' bits that are 1 in one or three of them.
-/
import Derived.Test.YtncaaodiaibacaaBurst
import Derived.Test.YtncaaodiaibacaaAlive
import Derived.Laws.MakeOwn
namespace Go.Proofs.Ytncaaodiaibacaa.crc
open Go.ChangeShapes Go.WideShapes Go.ChangeAt Go.RowKit
set_option linter.unusedVariables false

theorem Row.drawn {g : Nat} {l : List UInt8} {W0 w : World} (h : Row g l W0 w) : Row g l W0 w.drew := ⟨h.cell, h.free, h.new, h.below.drew⟩

/-- a row that is kept through what others make -/
structure Kept (g : Nat) (l : List UInt8) (W0 w : World) : Prop where
  row : Row g l W0 w
  lt : g < w.heap.size
theorem Kept.drawn {g : Nat} {l : List UInt8} {W0 w : World} (h : Kept g l W0 w) : Kept g l W0 w.drew := ⟨h.row.drawn, h.lt⟩
theorem Kept.next {g : Nat} {l : List UInt8} {W0 w w' : World} (h : Kept g l W0 w) (b : Below w.heap.size w w') : Kept g l W0 w' := by
  have hb := b.block g h.lt
  refine ⟨⟨fun j hj => ?_, fun j hj => ?_, h.row.new, h.row.below.trans (b.mono h.row.below.size)⟩, Nat.lt_of_lt_of_le h.lt b.size⟩
  · have := h.row.cell j hj
    unfold World.cell? at this ⊢
    rw [hb]
    exact this
  · have := h.row.free j hj
    unfold World.frozen? at this ⊢
    rw [hb]
    exact this

theorem info5 : (Try.prog.info? 5).map (fun i => (i.zero, i.size, i.bytes)) = some (some (.int .u8 0), 1, 1) := by kernel_rfl

theorem make_row (w : World) (k : Nat) (hk : k ≤ 20000) : ∃ W : World, (Instr.makeSlice 37 (.int .i64 (k : Int)) (.int .i64 (k : Int))).run Try.prog w = .ok (.slice (some ⟨w.heap.size, 0, none⟩) k k) W ∧ Row w.heap.size (List.replicate k 0) w W ∧ w.heap.size < W.heap.size := by
  obtain ⟨i0, hi, hz0, hz1, hz2⟩ := info_parts info5
  have h := run_make (P := Try.prog) w 37 5 i0 (.int .u8 0) Try.underlying37 hi hz0 .i64 .i64 (k : Int) (k : Int) (by omega) (by omega) (by rw [hz2]; omega) (by omega)
  rw [Int.toNat_natCast, hz1, Nat.mul_one] at h
  refine ⟨_, h, ⟨fun j hj => ?_, fun j hj => ?_, Nat.le_refl _, (Below.refl _ _).alloc (Nat.le_refl _) _⟩, by simp⟩
  · rw [List.length_replicate] at hj
    rw [World.cell?_alloc_new]
    unfold madeCells at_
    simp [Value.cells, hj, List.getD_eq_getElem?_getD, Nat.mod_one]
  · exact World.frozen?_alloc_new w _ _ j

theorem min_four (x y z : Nat) : ∃ k : Nat, (∀ w, (Builtin.min_ #[3, 3, 3, 3] 3 #[.int .i64 (x : Int), .int .i64 (y : Int), .int .i64 (z : Int), .int .i64 20000]).run Try.prog w = .ok (.int .i64 (k : Int)) w) ∧ k ≤ x ∧ k ≤ y ∧ k ≤ z ∧ k ≤ 20000 := by
  refine ⟨min (min (min x y) z) 20000, fun w => ?_, by omega, by omega, by omega, by omega⟩
  simp [Builtin.min_, Builtin.min2]
  repeat' split
  all_goals omega

/-- three bytes' bits -/
theorem three_bytes (x y z : UInt8) : ∃ (u : Nat) (v : UInt8), bits .xor .u8 (x.toNat : Int) (y.toNat : Int) = (u : Int) ∧ u < 256 ∧ bits .xor .u8 (u : Int) (z.toNat : Int) = (v.toNat : Int) ∧ v.toNat = x.toNat ^^^ y.toNat ^^^ z.toNat := by
  have hx := x.toNat_lt
  have hy := y.toNat_lt
  have hz := z.toNat_lt
  have h1 : x.toNat ^^^ y.toNat < 256 := xor_byte hx hy
  have h2 : x.toNat ^^^ y.toNat ^^^ z.toNat < 256 := xor_byte h1 hz
  have e2 : (UInt8.ofNat (x.toNat ^^^ y.toNat ^^^ z.toNat)).toNat = x.toNat ^^^ y.toNat ^^^ z.toNat := by
    rw [UInt8.toNat_ofNat']
    omega
  exact ⟨x.toNat ^^^ y.toNat, UInt8.ofNat (x.toNat ^^^ y.toNat ^^^ z.toNat), u8_xor_nat _ _ hx hy, h1, by rw [u8_xor_nat _ _ h1 hz, e2], e2⟩

theorem at_text (s : ByteArray) (i : Nat) (h : i < s.size) : at_ s.data.toList i = s[i].toNat := by
  unfold at_
  have hl : i < s.data.toList.length := by simpa using h
  rw [List.getD_eq_getElem?_getD, List.getElem?_eq_getElem hl]
  rfl
theorem at_set (l : List UInt8) (i j : Nat) (b : UInt8) (hi : i < l.length) : at_ (l.set i b) j = if j = i then b.toNat else at_ l j := by
  unfold at_
  by_cases h : j = i
  · subst h
    rw [if_pos rfl, List.getD_eq_getElem?_getD, List.getElem?_set_self hi]
    rfl
  · rw [if_neg h, List.getD_eq_getElem?_getD, List.getD_eq_getElem?_getD, List.getElem?_set_ne (fun e => h e.symm)]
theorem at_take (l : List UInt8) (k j : Nat) : at_ (l.take k) j = if j < k then at_ l j else 0 := by
  unfold at_
  by_cases h : j < k
  · rw [if_pos h, List.getD_eq_getElem?_getD, List.getD_eq_getElem?_getD, List.getElem?_take_of_lt h]
  · rw [if_neg h, List.getD_eq_getElem?_getD, List.getElem?_eq_none (by rw [List.length_take]; omega)]
    rfl
theorem at_none (l : List UInt8) (j : Nat) (h : l.length ≤ j) : at_ l j = 0 := by
  unfold at_
  rw [List.getD_eq_getElem?_getD, List.getElem?_eq_none h]
  rfl

theorem num_three (k : Nat) (l a b c : List UInt8) (hl : l.length = k) (h : ∀ j, j < k → at_ l j = at_ a j ^^^ at_ b j ^^^ at_ c j) : num l = num (a.take k) ^^^ num (b.take k) ^^^ num (c.take k) := by
  apply Nat.eq_of_testBit_eq
  intro i
  rw [Nat.testBit_xor, Nat.testBit_xor, num_bit, num_bit, num_bit, num_bit]
  show (at_ l (i / 8)).testBit (i % 8) = ((at_ (a.take k) (i / 8)).testBit (i % 8) ^^ (at_ (b.take k) (i / 8)).testBit (i % 8) ^^ (at_ (c.take k) (i / 8)).testBit (i % 8))
  rw [at_take, at_take, at_take]
  by_cases hi : i / 8 < k
  · rw [if_pos hi, if_pos hi, if_pos hi, h _ hi, Nat.testBit_xor, Nat.testBit_xor]
  · rw [if_neg hi, if_neg hi, if_neg hi, at_none l _ (by omega)]
    simp

theorem data_take (s : ByteArray) (k : Nat) : (s.extract 0 k).data.toList = s.data.toList.take k := by
  simp

/-- the sums of three texts of one length -/
theorem crc_three (k : Nat) (l : List UInt8) (a b c : ByteArray) (hl : l.length = k) (ha : k ≤ a.size) (hb : k ≤ b.size) (hc : k ≤ c.size) (h : ∀ j, j < k → at_ l j = at_ a.data.toList j ^^^ at_ b.data.toList j ^^^ at_ c.data.toList j) :
    crc 0 ⟨l.toArray⟩ = crc 0 (a.extract 0 k) ^^^ crc 0 (b.extract 0 k) ^^^ crc 0 (c.extract 0 k) := by
  have lt : ∀ t : List UInt8, reg 4294967295 t < 4294967296 := fun t => reg_lt t (by omega)
  have e := three 4294967295 k (a.data.toList.take k) (b.data.toList.take k) (c.data.toList.take k) l (by rw [List.length_take, size_list]; omega) (by rw [List.length_take, size_list]; omega) (by rw [List.length_take, size_list]; omega) hl (num_three k l _ _ _ hl h)
  unfold crc
  rw [data_take, data_take, data_take]
  show 4294967295 - reg 4294967295 l = (4294967295 - reg 4294967295 _) ^^^ (4294967295 - reg 4294967295 _) ^^^ (4294967295 - reg 4294967295 _)
  rw [← not_is _ (lt _), ← not_is _ (lt _), ← not_is _ (lt _), ← not_is _ (lt _), e, xor_four 4294967295 (reg 4294967295 _), Nat.xor_self, Nat.zero_xor]
  generalize reg 4294967295 (a.data.toList.take k) ^^^ reg 4294967295 (b.data.toList.take k) = y
  generalize reg 4294967295 (c.data.toList.take k) = z
  rw [← Nat.xor_assoc y 4294967295 z, Nat.xor_comm y 4294967295, Nat.xor_assoc]
end Go.Proofs.Ytncaaodiaibacaa.crc
