/-
  Contracts over this program: a text with bits of a pattern turned (fretsawref03's Turned), and a sum as four bytes (the law's own four).
-/
import Derived.Test.YtjnjjbacfodacaaShort
import Derived.Test.YtjnjjbacfodacaaBits
import Derived.Lib.ConvBytes
import Derived.Laws.BytesArg
import Derived.Below
namespace Go.Proofs.Ytjnjjbacfodacaa.crc
open Go.ChangeShapes Go.WideShapes Go.ChangeAt Go.RowKit
set_option linter.unusedVariables false

def at_ (l : List UInt8) (j : Nat) : Nat := (l.getD j 0).toNat
theorem at_lt (l : List UInt8) (j : Nat) : at_ l j < 256 := (l.getD j 0).toNat_lt

/-- a row of bytes that the call owns -/
structure Row (g : Nat) (l : List UInt8) (W0 w : World) : Prop where
  cell : ∀ j, j < l.length → w.cell? ⟨g, j, none⟩ = some (.int .u8 (at_ l j))
  free : ∀ j, j < l.length → w.frozen? ⟨g, j, none⟩ = false
  new : W0.heap.size ≤ g
  below : Below W0.heap.size W0 w

theorem Row.put {g : Nat} {l : List UInt8} {W0 w : World} (h : Row g l W0 w) (j : Nat) (b : UInt8) (hj : j < l.length) : Row g (l.set j b) W0 (w.setCell ⟨g, j, none⟩ (.int .u8 b.toNat)) := by
  refine ⟨fun i hi => ?_, fun i hi => ?_, h.new, h.below.setCell h.new _⟩
  · rw [List.length_set] at hi
    by_cases e : i = j
    · subst e
      rw [World.cell?_setCell_same _ _ _ (h.cell i hi)]
      unfold at_
      rw [List.getD_eq_getElem?_getD, List.getElem?_set_self hj]
      rfl
    · rw [World.cell?_setCell_other _ _ _ _ (fun e' => e (by have := congrArg Addr.off e'; simp at this; omega)), h.cell i hi]
      unfold at_
      rw [List.getD_eq_getElem?_getD, List.getD_eq_getElem?_getD, List.getElem?_set_ne (fun e' => e e'.symm)]
  · rw [List.length_set] at hi
    rw [World.frozen?_setCell, h.free i hi]

theorem bytes_row (w : World) (s : ByteArray) : Row w.heap.size s.data.toList w (Lib.bytesWorld w 5 s) := by
  refine ⟨fun j hj => ?_, fun j hj => ?_, Nat.le_refl _, ?_⟩
  · exact Lib.bytesWorld_cell w 5 s j (by simpa using hj)
  · have hs : s.size ≤ (Lib.bytesCells w 5 s).size := by
      unfold Lib.bytesCells
      rw [Array.size_append, Array.size_map]
      exact Nat.le_add_right _ _
    have hj' : j < s.size := by simpa using hj
    simp only [World.frozen?, Lib.bytesWorld_at_new]
    simp
    omega
  · exact ⟨rfl, rfl, rfl, by rw [Lib.bytesWorld_size]; omega, fun k hk => Lib.bytesWorld_at_old w 5 s k hk⟩

theorem nums_text (l : List UInt8) : strOfNums (l.map fun b => (b.toNat : Int)) = (⟨l.toArray⟩ : ByteArray) := by
  unfold strOfNums
  rw [List.map_map]
  congr 1
  congr 1
  conv => rhs; rw [← List.map_id l]
  apply List.map_congr_left
  intro b _
  simp

/-- a row of bytes as a text -/
theorem row_text {g : Nat} {l : List UInt8} {W0 w : World} (h : Row g l W0 w) (n cap : Nat) (hn : l.length = n) :
    Sem.run Try.prog (convert 56 9 (.slice (some ⟨g, 0, none⟩) n cap)) w = .ok (.string ⟨l.toArray⟩) w := by
  rw [← nums_text]
  refine run_convert_bytes_arg w 56 5 Try.underlying56 Try.underlying5 g 0 n cap (l.map fun b => (b.toNat : Int)) (by simpa using hn) (fun i hi => ?_) 9 Try.underlying9
  have hx : i < l.length := by omega
  rw [Nat.zero_add, h.cell i hx]
  unfold at_
  rw [List.getD_eq_getElem?_getD, List.getD_eq_getElem?_getD, List.getElem?_map, List.getElem?_eq_getElem hx]
  rfl

def TurnedIs (s : ByteArray) (f p : Nat) (t : ByteArray) : Prop := ∀ w, Calls Try.prog 17 #[.string s, .int .i64 f, .int .u32 p] w fun e w' => e = .returned (.string t) ∧ Below w.heap.size w w'

theorem bit_of (p i : Nat) : ((p : Int) / 2 ^ i).tmod 2 = ((p / 2 ^ i % 2 : Nat) : Int) := by
  have e : (p : Int) / 2 ^ i = ((p / 2 ^ i : Nat) : Int) := by simp
  rw [e, Int.tmod_eq_emod_of_nonneg (Int.natCast_nonneg _)]
  omega

/-- one bit of a byte turned, as the walk writes it -/
theorem bit_turn (x k : Nat) (hx : x < 256) (hk : k < 8) : ∃ b : UInt8, bits .xor .u8 (x : Int) (2 ^ k % 256) = (b.toNat : Int) ∧ b.toNat = x ^^^ 2 ^ k := by
  have hp : 2 ^ k < 2 ^ 8 := Nat.pow_lt_pow_right (by omega) hk
  have hl : x ^^^ 2 ^ k < 256 := Nat.xor_lt_two_pow (n := 8) hx hp
  have e1 : (2 : Int) ^ k % 256 = ((2 ^ k : Nat) : Int) := by
    have e : (2 : Int) ^ k = ((2 ^ k : Nat) : Int) := by simp
    rw [e]
    generalize 2 ^ k = q at hp
    omega
  have e2 : (UInt8.ofNat (x ^^^ 2 ^ k)).toNat = x ^^^ 2 ^ k := by
    rw [UInt8.toNat_ofNat']
    omega
  exact ⟨UInt8.ofNat (x ^^^ 2 ^ k), by rw [e1, u8_xor_nat x (2 ^ k) hx (by omega), e2], e2⟩

set_option maxRecDepth 100000 in
set_option maxHeartbeats 1000000 in
theorem turned_walk (s : ByteArray) (f p : Nat) (hs : s.size ≤ 1000000) (hf : f ≤ 8000000) (hp : p < 4294967296) (t : ByteArray) (ht : t.size = s.size) (hn : num t.data.toList = num s.data.toList ^^^ till p f (8 * s.size) 32) :
    TurnedIs s f p t := by
  intro w
  have hcv := Lib.run_convert_string_bytes (P := Try.prog) w 9 56 5 s Try.underlying9 Try.underlying56 Try.underlying5
  have hrow := bytes_row w s
  obtain ⟨cap, hcap⟩ : ∃ cap, cap = grownCap w s.size 0 5 := ⟨_, rfl⟩
  obtain ⟨W, hW⟩ : ∃ W, W = Lib.bytesWorld w 5 s := ⟨_, rfl⟩
  rw [← hcap, ← hW] at hcv
  rw [← hW] at hrow
  have HN : Hid (num t.data.toList = num s.data.toList ^^^ till p f (8 * s.size) 32) := hn
  clear hcap hW hn
  go_enter Try.func17, Try.ntmps17
  go_wp2
  go_loopw [8] (fun v wr => ∃ (i : Nat) (l : List UInt8), v = .int .i64 i ∧ i ≤ 32 ∧ l.length = s.size ∧ Row w.heap.size l w wr ∧ Hid (num l = num s.data.toList ^^^ till p f (8 * s.size) i)) (fun v _ => 32 - (intOf v).toNat)
  case atStart => exact ⟨0, s.data.toList, rfl, by omega, by simp, hrow, by show _ = _; rw [till_zero, Nat.xor_zero]⟩
  case round =>
    obtain ⟨i, l, rfl, hi, hl, hr, HL⟩ := hrel
    by_cases h : 32 ≤ i
    · have hcv2 := row_text hr s.size cap hl
      have HE : Hid ((⟨l.toArray⟩ : ByteArray) = t) := by
        refine text_ext (num_inj ?_ ?_)
        · simp [hl, ht]
        · show num l = _
          rw [HL.out, HN.out, show i = 32 from by omega]
      rw [HE.out] at hcv2
      clear HL HN
      go_wp2
      go_ret
      exact ⟨rfl, hr.below⟩
    · have hb := bit_of p i
      by_cases h1 : p / 2 ^ i % 2 = 1
      · rw [h1] at hb
        by_cases h2 : f + i < 8 * s.size
        · have hin : (f + i) / 8 < l.length := by omega
          have hc := hr.cell _ hin
          have hfz := hr.free _ hin
          obtain ⟨b, e1, e2⟩ := bit_turn (at_ l ((f + i) / 8)) ((f + i) % 8) (at_lt _ _) (by omega)
          have HR := hr.put ((f + i) / 8) b hin
          have HL2 : Hid (num (l.set ((f + i) / 8) b) = num s.data.toList ^^^ till p f (8 * s.size) (i + 1)) := by
            show _ = _
            rw [num_turn l ((f + i) / 8) ((f + i) % 8) b hin (by omega) e2, HL.out, till_more p f (8 * s.size) i h1 h2, Nat.xor_assoc, show 8 * ((f + i) / 8) + (f + i) % 8 = f + i from by omega]
          clear HL HN e2
          have h3 : ((f : Int) + (i : Int)) / 8 < (s.size : Int) := by omega
          clear h1
          go_wp2
          go_roundw
          case rel => exact ⟨i + 1, l.set ((f + i) / 8) b, by go_num, by omega, by rw [List.length_set]; exact hl, HR, HL2⟩
          case measure => simp [intOf]; omega
        · have HL2 : Hid (num l = num s.data.toList ^^^ till p f (8 * s.size) (i + 1)) := by
            show _ = _
            rw [HL.out, till_same p f (8 * s.size) i (.inr (by omega))]
          have h3 : (s.size : Int) ≤ ((f : Int) + (i : Int)) / 8 := by omega
          clear HL HN h1
          go_wp2
          go_roundw
          case rel => exact ⟨i + 1, l, by go_num, by omega, hl, hr, HL2⟩
          case measure => simp [intOf]; omega
      · have h0 : p / 2 ^ i % 2 = 0 := by omega
        have HL2 : Hid (num l = num s.data.toList ^^^ till p f (8 * s.size) (i + 1)) := by
          show _ = _
          rw [HL.out, till_same p f (8 * s.size) i (.inl h0)]
        rw [h0] at hb
        clear HL HN h1 h0
        go_wp2
        go_roundw
        case rel => exact ⟨i + 1, l, by go_num, by omega, hl, hr, HL2⟩
        case measure => simp [intOf]; omega

/-- the text that a number is, of so many bytes -/
def bytesOf : Nat → Nat → List UInt8
  | 0, _ => []
  | n + 1, x => UInt8.ofNat (x % 256) :: bytesOf n (x / 256)
theorem bytesOf_length (n x : Nat) : (bytesOf n x).length = n := by
  induction n generalizing x with
  | zero => rfl
  | succ n ih => rw [bytesOf, List.length_cons, ih]
theorem bytesOf_num (n x : Nat) (h : x < 2 ^ (8 * n)) : num (bytesOf n x) = x := by
  induction n generalizing x with
  | zero =>
    have : x = 0 := by simpa using h
    rw [this]; rfl
  | succ n ih =>
    have hx : x / 256 < 2 ^ (8 * n) := by
      rw [Nat.mul_add, Nat.pow_add] at h
      rw [Nat.div_lt_iff_lt_mul (by omega)]
      exact h
    rw [bytesOf, num, ih _ hx]
    have e : (UInt8.ofNat (x % 256)).toNat = x % 256 := by
      rw [UInt8.toNat_ofNat']
      omega
    rw [e]
    omega

theorem turned_is (s : ByteArray) (f p : Nat) (hs : s.size ≤ 1000000) (hf : f ≤ 8000000) (hp : p < 4294967296) :
    ∃ t : ByteArray, TurnedIs s f p t ∧ t.size = s.size ∧ num t.data.toList = num s.data.toList ^^^ till p f (8 * s.size) 32 := by
  have hlt : num s.data.toList ^^^ till p f (8 * s.size) 32 < 2 ^ (8 * s.size) := by
    have h1 := num_lt s.data.toList
    rw [size_list] at h1
    exact Nat.xor_lt_two_pow h1 (Nat.mod_lt _ (Nat.pow_pos (by omega)))
  obtain ⟨t, ht⟩ := text (bytesOf s.size (num s.data.toList ^^^ till p f (8 * s.size) 32))
  have hz : t.size = s.size := by rw [← size_list, ht, bytesOf_length]
  have hn : num t.data.toList = num s.data.toList ^^^ till p f (8 * s.size) 32 := by rw [ht, bytesOf_num _ _ hlt]
  exact ⟨t, turned_walk s f p hs hf hp t hz hn, hz, hn⟩
end Go.Proofs.Ytjnjjbacfodacaa.crc
