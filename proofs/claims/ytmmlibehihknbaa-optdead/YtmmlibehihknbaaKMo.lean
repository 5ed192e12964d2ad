/-
  Contracts over this program: merge.Tokens; the document's Bytes, Join.
-/
import Derived.Test.YtmmlibehihknbaaKMn
namespace Go.Proofs.Ytmmlibehihknbaa.mg
open Go.ChangeShapes Go.WideShapes Go.ChangeAt Go.RowKit Go.Shelf Go.Maps
set_option linter.unusedVariables false
set_option maxRecDepth 100000

/-- the bytes of a text, as ids -/
def idsOf (s : ByteArray) : List Int := s.data.toList.map fun b => (b.toNat : Int)
theorem idsOf_len (s : ByteArray) : (idsOf s).length = s.size := by cases s; simp [idsOf, ByteArray.size]
theorem idsOf_at (s : ByteArray) (i : Nat) (h : i < s.size) : (idsOf s).getD i 0 = ((s[i]).toNat : Int) := by
  have h2 : i < (idsOf s).length := by rw [idsOf_len]; exact h
  rw [List.getD_eq_getElem?_getD, List.getElem?_eq_getElem h2]
  cases s
  simp [idsOf, ByteArray.getElem_eq_getElem_data]
theorem idsOf_in (s : ByteArray) (n : Nat) (h : 256 ≤ n) : AllIn n (idsOf s) := fun x hx => by
  obtain ⟨b, _, rfl⟩ := List.mem_map.1 hx
  have := b.toNat_lt
  unfold InR
  omega
set_option maxHeartbeats 2000000 in
set_option maxRecDepth 100000 in
theorem bytes_any (s : ByteArray) (hs : s.size ≤ 100000) (w : World) : Calls Try.prog 34 #[.string s] w fun e w' => ∃ v', e = .returned v' ∧ IntsV w' v' (idsOf s) ∧ Below w.heap.size w w' := by
  have O0 := World.ownsRow_made (e := 3) (size := 1) w #[] 0 (Nat.le_refl _) (Nat.zero_le _) rfl
  have BB0 := below_alloc w (.cells #[] 3)
  go_enter Try.func34, Try.ntmps34
  go_wp2_with (fail)
  generalize w.alloc (.cells #[] 3) = w1 at *
  go_loopw [4, 3] (fun y x wr => ∃ (i : Nat) (tg : Option Addr) (tc : Nat), y = .int .i64 i ∧ x = .slice tg i tc ∧ i ≤ s.size ∧ i ≤ tc ∧ tc ≤ 9223372036854775807 ∧ Hid (Owns wr w.heap.size (.slice tg i tc) ((idsOf s).take i)) ∧ Below w.heap.size w wr) (fun y _ _ => s.size - (intOf y).toNat)
  case atStart =>
    obtain ⟨tg, tc, h1, h2, h3, h4⟩ := ostart (w := w) (W := w1) (l := []) 0 O0 rfl
    exact ⟨0, tg, tc, rfl, h1, by omega, h2, h3, by rw [List.take_zero]; exact h4, BB0⟩
  case round =>
    clear O0 BB0
    obtain ⟨i, tg, tc, rfl, rfl, hi, tf1, tf2, HO, hB⟩ := hrel
    have hil : i ≤ (idsOf s).length := by rw [idsOf_len]; exact hi
    by_cases hend : i < s.size
    · have HT : Hid ((idsOf s).take (i + 1) = (idsOf s).take i ++ [(s[i].toNat : Int)]) := by show _ = _; exact take_next (by rw [idsOf_len]; exact hend) (idsOf_at s i hend)
      have HO1 : Hid (wr.ownsRow w.heap.size 3 1 (.slice tg i tc) i (((idsOf s).take i).map (Value.int .i64))) := by have := HO.out; unfold Owns at this; rw [take_len hil] at this; exact this
      have HO2 := (show Hid _ from ow.later HO1.out (below_alloc wr (.cells #[.int .i64 (s[i].toNat : Int)] 3)))
      have HN2 := (show Hid _ from ow.new1 wr (.int .i64 (s[i].toNat : Int)) 3)
      have hB2 := hB.alloc hB.size (.cells #[.int .i64 (s[i].toNat : Int)] 3)
      have hBw : w.heap.size ≤ (wr.alloc (.cells #[.int .i64 (s[i].toNat : Int)] 3)).heap.size := hB2.size
      have HIL : Hid (i + 1 ≤ (idsOf s).length) := by show _ ≤ _; rw [idsOf_len]; omega
      have h256 : s[i].toNat < 256 := s[i].toNat_lt
      clear HO HO1 hil
      go_wp2_with (at_builtin; refine ow.wpList_append (by rfl) (.tmp 12) (.tmp 17) 25 (by rfl) 3 (.int .i64 0) 1 8 Try.underlying25 info3 (by rfl) (by decide) (by decide) w.heap.size (.slice tg i tc) i (((idsOf s).take i).map (Value.int .i64)) wr.heap.size [.int .i64 (s[i].toNat : Int)] (by rfl) (by rfl) (by exact HO2.out) (by rfl) (by exact HN2.out) (by exact ow.one1 _ rfl) (by omega) (by exact hBw) ?_; intro g' cap2 w3 ho hgr hw3)
      have B4 : Below w.heap.size w w3 := hB2.grown hgr hB2.size (by intro k hk; exact (ow.lt HO2.out hk).1)
      have ho2 : Owns w3 w.heap.size (.slice (some ⟨g', 0, none⟩) (i + 1) cap2) ((idsOf s).take (i + 1)) := by
        unfold Owns
        rw [take_len HIL.out, HT.out, List.map_append]
        exact ho
      obtain ⟨tg3, tc3, h1, h2, h3, h4⟩ := ostart (i + 1) ho2 (by rw [take_len HIL.out])
      go_roundw
      case rel => exact ⟨i + 1, tg3, tc3, by go_num, h1, by omega, h2, h3, h4, B4⟩
      case measure => simp [intOf]; omega
    · have HF : Hid (IntsV wr (.slice tg i tc) (idsOf s)) := by have := HO.out; rw [List.take_of_length_le (by rw [idsOf_len]; omega)] at this; exact this.ints
      clear HO hil
      go_wp2_with (fail)
      go_ret
      exact ⟨_, rfl, HF.out, hB⟩

/-- a text, cut: one byte too many tells as much as all of them -/
def cutS (s : ByteArray) : ByteArray := s.extract 0 (min s.size 4097)
theorem cutS_size (s : ByteArray) : (cutS s).size = min s.size 4097 := by simp [cutS]
theorem cutS_id (s : ByteArray) (h : s.size ≤ 4097) : cutS s = s := by
  unfold cutS
  rw [Nat.min_eq_left h]
  apply ByteArray.ext
  simp
def TokOut (l : List Mg) (s : ByteArray) (w : World) (e : Ending) (W' : World) : Prop := ApplyOut l (idsOf (cutS s)) w e W'
def part2 (s : ByteArray) (i : Nat) : List Int := (idsOf s).take i ++ List.replicate (s.size - i) 0
theorem part2_set (s : ByteArray) (i : Nat) (h : i < s.size) : (part2 s i).set i (s[i].toNat : Int) = part2 s (i + 1) := by
  unfold part2
  rw [take_next (by rw [idsOf_len]; exact h) (idsOf_at s i h), List.set_append_right _ _ (by rw [List.length_take, idsOf_len]; omega), take_len (by rw [idsOf_len]; omega), Nat.sub_self, show s.size - i = (s.size - (i + 1)) + 1 by omega, List.replicate_succ, List.set_cons_zero, List.append_assoc]
  rfl
theorem part2_len (s : ByteArray) (i : Nat) (h : i ≤ s.size) : (part2 s i).length = s.size := by
  unfold part2
  rw [List.length_append, take_len (by rw [idsOf_len]; exact h), List.length_replicate]
  omega
end Go.Proofs.Ytmmlibehihknbaa.mg
