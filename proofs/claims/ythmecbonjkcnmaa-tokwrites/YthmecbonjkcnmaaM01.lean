/-
  Texts put together: Contract of the document's taking at a place (fretsawref01.Next), over this program. Contracts of how a text is looked through (utf.Valid, utf.Count, the document's Valid and Count), over this program.
-/
import Derived.Test.YthmecbonjkcnmaaKVe
import Derived.Deep.RegionHeld3
import Derived.BigQuiet
import Derived.WalkSmall
import Derived.Deep.QuietTactic
namespace Go.Proofs.Ythmecbonjkcnmaa.chars
open Go.ChangeShapes Go.WideShapes Go.ChangeAt Go.RowKit
set_option linter.unusedVariables false

theorem is_yes (c : Int) (w : World) (h : isC c = true) :
    Calls Try.prog 34 #[.int .i64 c] w fun e w' => e = .returned (.bool true) ∧ w' = w := by
  have := is_any c w
  rwa [h] at this
theorem is_no (c : Int) (w : World) (h : isC c = false) :
    Calls Try.prog 34 #[.int .i64 c] w fun e w' => e = .returned (.bool false) ∧ w' = w := by
  have := is_any c w
  rwa [h] at this

theorem bytes_list (b : ByteArray) : b.toList = b.data.toList := by
  exact ByteArray.toList_eq b
def MoreIs (s : ByteArray) (i k : Nat) (c : Int) : Prop := ∀ w, Calls Try.prog 33 #[.string s, .int .i64 i, .int .i64 k] w fun e w' => e = .returned (.int .i64 c) ∧ w' = w
def PutIs (c : Int) (t : ByteArray) : Prop := ∀ w, Calls Try.prog 21 #[.int .i64 c] w fun e w' => e = .returned (.string t) ∧ Below w.heap.size w w'
theorem put_is (c : Int) (h : isC c = true) (t : ByteArray) (ht : enc c = t.data.toList) : PutIs c t := fun w => by
  have := rput_any c w
  have e : str (put c) = .string t := by
    unfold str put
    rw [if_pos h, ht]
  rwa [e] at this

set_option maxHeartbeats 1000000 in
theorem rnext_any (s : ByteArray) (i : Nat) (w : World) (hs : s.size ≤ 140737488351232) (h : i < s.size) :
    Calls Try.prog 20 #[.string s, .int .i64 i] w fun e w' => e = .returned (.tuple #[.int .i64 (dec (s.data.toList.drop i)).1, .int .i64 (dec (s.data.toList.drop i)).2, .bool (!badB (dec (s.data.toList.drop i)))]) ∧ Below w.heap.size w w' := by
  have hd1 : decide (s.size ≤ i) = false := by simp; omega
  have hd2 : decide ((i : Int) < 0) = false := by simp
  have hm : ∀ k, 1 ≤ k → k ≤ 4 → MoreIs s i k (more (s.data.toList.drop i) k) := fun n h1 h2 w => more_any s i n w hs h h1 h2
  have hcut : ∀ k, (s.extract i (i + k)).data.toList = (s.data.toList.drop i).take k := fun k => by
    rw [cut_list, List.drop_take, Nat.add_sub_cancel_left]
  have hne : s.data.toList.drop i ≠ [] := by
    intro e
    have := congrArg List.length e
    simp at this
    omega
  have hdl : (s.data.toList.drop i).length = s.size - i := by simp
  generalize s.data.toList.drop i = l at *
  have HCUT : Hid (∀ k, (s.extract i (i + k)).data.toList = l.take k) := hcut
  have HDL : Hid (l.length = s.size - i) := hdl
  have HNE : Hid (l ≠ []) := hne
  clear hcut hdl hne
  go_enter Try.func20, Try.ntmps20
  go_wp2
  go_loopw [7] (fun v wr => ∃ k : Nat, 1 ≤ k ∧ k ≤ 5 ∧ v = .int .i64 k ∧ Below w.heap.size w wr ∧ Hid (∀ j, 1 ≤ j → j < k → ¬ Hit l j)) (fun v _ => 6 - (intOf v).toNat)
  case atStart => exact ⟨1, by omega, by omega, rfl, Below.refl _ _, fun j h1 h2 => by omega⟩
  case round =>
    obtain ⟨k, hk1, hk5, rfl, hB, HF⟩ := hrel
    by_cases hk : k ≤ 4
    · have HM := hm k hk1 hk
      clear hm
      generalize hc : more l k = c at *
      have HC : Hid (more l k = c) := hc
      clear hc
      by_cases his : isC c = true
      · have hlen : i + k ≤ s.size := by
          have := more_long l k (by rw [HC.out]; exact his)
          have := HDL.out
          omega
        have e1 : IntKind.i64.wrap ((i : Int) + (k : Int)) = (i : Int) + (k : Int) := by rw [IntKind.wrap_i64]; omega
        have e2 : (0 : Int) ≤ (i : Int) + (k : Int) := by omega
        have e3 : (i : Int) + (k : Int) ≤ (s.size : Int) := by omega
        have e4 : (i : Int) ≤ (i : Int) + (k : Int) := by omega
        have e5 : ((i : Int) + (k : Int)).toNat = i + k := by omega
        by_cases heq : enc c = l.take k
        · have hp := put_is c his (s.extract i (i + k)) (by rw [heq, HCUT.out k])
          have HH := hit_dec l k ⟨by rw [HC.out]; exact his, by rw [HC.out]; exact heq⟩
          have h0 := ((isC_iff c).1 his).1
          have HD : Hid (dec l = (c.toNat, k) ∧ badB (dec l) = false ∧ ((c.toNat : Nat) : Int) = c) := ⟨by rw [HH.1, HC.out], HH.2, by omega⟩
          clear HH h0 heq
          go_wp2_with (first | (go_at_call 33; refine (HM _).mono ?_; rintro e w1 ⟨rfl, rfl⟩))
          go_region_held3 (fun _ => True) (trivial) (first | (go_at_call 34; refine (is_yes c _ his).mono ?_; rintro e w2 ⟨rfl, rfl⟩) | (go_at_call 21; refine (hp _).mono ?_; rintro e w3 ⟨rfl, hpb⟩))
          go_wp2
          go_ret3
          refine ⟨?_, (hB.drew).trans (hpb.mono hB.size)⟩
          rw [HD.out.1, ← HD.out.1, HD.out.2.1, HD.out.1]
          simp only [HD.out.2.2]
          rfl
        · have hp := put_is c his ⟨(enc c).toArray⟩ (by simp)
          have hq : (enc c == (s.extract i (i + k)).toList) = false := by
            rw [beq_eq_false_iff_ne, bytes_list, HCUT.out k]
            exact heq
          have HN : Hid (¬ Hit l k) := fun hh => heq (by have := hh.2; rwa [HC.out] at this)
          clear heq
          go_wp2_with (first | (go_at_call 33; refine (HM _).mono ?_; rintro e w1 ⟨rfl, rfl⟩))
          go_region_held3 (fun _ => True) (trivial) (first | (go_at_call 34; refine (is_yes c _ his).mono ?_; rintro e w2 ⟨rfl, rfl⟩) | (go_at_call 21; refine (hp _).mono ?_; rintro e w3 ⟨rfl, hpb⟩))
          go_wp2
          go_roundw
          case rel => exact ⟨k + 1, by omega, by omega, by go_num, (hB.drew).trans (hpb.mono hB.size), fun j h1 h2 => by
            by_cases hj : j = k
            · rw [hj]; exact HN.out
            · exact HF.out j h1 (by omega)⟩
          case measure => simp [intOf]; omega
      · have hno : isC c = false := by simpa using his
        have HN : Hid (¬ Hit l k) := fun hh => his (by have := hh.1; rwa [HC.out] at this)
        clear his
        go_wp2_with (first | (go_at_call 33; refine (HM _).mono ?_; rintro e w1 ⟨rfl, rfl⟩))
        go_quiet ((go_at_call 34; exact Calls.quiet_of_same (is_no c _ hno)))
        go_wp2
        go_roundw
        case rel => exact ⟨k + 1, by omega, by omega, by go_num, below_drewN hB _, fun j h1 h2 => by
          by_cases hj : j = k
          · rw [hj]; exact HN.out
          · exact HF.out j h1 (by omega)⟩
        case measure => simp [intOf]; omega
    · obtain rfl : k = 5 := by omega
      have HD : Hid (dec l = (65533, 1) ∧ badB (dec l) = true) := by
        by_cases hb : badB (dec l) = true
        · exact ⟨badB_eq hb, hb⟩
        · have g := dec_hit l HNE.out (by simpa using hb)
          have w := dec_width l HNE.out
          exact absurd g.2 (HF.out _ w.1 (by omega))
      rw [show ((5 : Nat) : Int) = 5 from rfl]
      clear hm
      go_wp2
      go_ret3
      refine ⟨?_, hB⟩
      rw [HD.out.2, HD.out.1]
      rfl
end Go.Proofs.Ythmecbonjkcnmaa.chars

namespace Go.Proofs.Ythmecbonjkcnmaa.chars
open Go.ChangeShapes Go.WideShapes Go.ChangeAt Go.RowKit
set_option linter.unusedVariables false

def RNextIs (s : ByteArray) (i c n : Nat) (b : Bool) : Prop := ∀ w, Calls Try.prog 20 #[.string s, .int .i64 i] w fun e w' => e = .returned (.tuple #[.int .i64 c, .int .i64 n, .bool b]) ∧ Below w.heap.size w w'

/-- what stands at a place, and what that means for the rest -/
theorem place (s : ByteArray) (i : Nat) (hs : s.size ≤ 140737488351232) (h : i < s.size) : ∃ c n : Nat,
    Utf8.decode s i = (c, n) ∧ 1 ≤ n ∧ n ≤ 4 ∧ i + n ≤ s.size ∧ c ≤ 1114111 ∧ True ∧ RNextIs s i c n (!badB (c, n)) ∧
    isC (c : Int) = true ∧
    fix (s.data.toList.drop i) = enc c ++ fix (s.data.toList.drop (i + n)) ∧ count (s.data.toList.drop i) = count (s.data.toList.drop (i + n)) + 1 ∧
    valid (s.data.toList.drop i) = (!badB (c, n) && valid (s.data.toList.drop (i + n))) := by
  have hdl : (s.data.toList.drop i).length = s.size - i := by simp
  have hne : s.data.toList.drop i ≠ [] := by
    intro e
    rw [e] at hdl
    simp at hdl
    omega
  have hw := dec_width _ hne
  have hc := dec_isC _ hne
  have hf := fix_step _ hne
  have hn := count_step _ hne
  have hv := valid_step _ hne
  have h10 := fun w => rnext_any s i w hs h
  have hd := decode_eq s i
  rw [List.drop_drop] at hf hn hv
  generalize dec (s.data.toList.drop i) = p at *
  obtain ⟨c, n⟩ := p
  exact ⟨c, n, hd, hw.1, hw.2.1, by simp only [] at hw; omega, by have := isC_bd c hc; omega, trivial, h10, hc, hf, hn, hv⟩

theorem drop_end (s : ByteArray) (i : Nat) (h : ¬ i < s.size) : s.data.toList.drop i = [] := List.drop_eq_nil_of_le (by simp; omega)

end Go.Proofs.Ythmecbonjkcnmaa.chars
