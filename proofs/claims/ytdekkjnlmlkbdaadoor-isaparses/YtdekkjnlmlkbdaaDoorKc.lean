/-
  Contracts over this program: a text behind its sign (strings.CutPrefix), a field (isa.field), a word's Op (isa.opOf).
-/
import Derived.Test.YtdekkjnlmlkbdaaDoorKb
namespace Go.Proofs.YtdekkjnlmlkbdaaDoor.is
open Go.Proofs.YtdekkjnlmlkbdaaDoor.num
open Go.ChangeShapes Go.WideShapes Go.ChangeAt Go.RowKit
set_option linter.unusedVariables false

theorem ext_list (s : ByteArray) (i j : Nat) : (s.extract i j).data.toList = (s.data.toList.take j).drop i := by
  simp [ByteArray.data_extract, List.drop_take]
def preB (s p : ByteArray) : Bool := decide (s.data.toList.take p.size = p.data.toList)
set_option maxRecDepth 100000 in
theorem has_prefix (s p : ByteArray) (w : World) : Calls Tryd.prog 66 #[.string s, .string p] w fun e w' => e = .returned (.bool (preB s p)) ∧ w' = w := by
  by_cases hl : p.size ≤ s.size
  · have hq : ((s.extract 0 p.size).toList == p.toList) = preB s p := by
      rw [ByteArray.toList_eq, ByteArray.toList_eq, ext_list, List.drop_zero]
      unfold preB
      by_cases h : s.data.toList.take p.size = p.data.toList <;> simp [h]
    generalize preB s p = r at *
    go_enter Tryd.func66, Tryd.ntmps66
    go_wp2
    go_ret
    exact ⟨rfl, rfl⟩
  · have hq : preB s p = false := by
      unfold preB
      rw [decide_eq_false_iff_not]
      intro h
      have := congrArg List.length h
      rw [List.length_take] at this
      simp at this
      omega
    rw [hq]
    go_enter Tryd.func66, Tryd.ntmps66
    go_wp2
    go_ret
    exact ⟨rfl, rfl⟩
theorem preB_le {s p : ByteArray} (h : preB s p = true) : p.size ≤ s.size := by
  unfold preB at h
  have := congrArg List.length (of_decide_eq_true h)
  rw [List.length_take] at this
  simp at this
  omega
set_option maxRecDepth 100000 in
theorem cut_yes0 (s p : ByteArray) (h : preB s p = true) (w : World) : Calls Tryd.prog 60 #[.string s, .string p] w fun e w' => e = .returned (.tuple #[.string (s.extract p.size s.size), .bool true]) ∧ w' = w := by
  have hp := has_prefix s p w
  rw [h] at hp
  have hl := preB_le h
  clear h
  go_enter Tryd.func60, Tryd.ntmps60
  go_wp2_with (go_at_call 66; refine hp.mono ?_; rintro e w1 ⟨rfl, hx⟩; obtain rfl := hx.symm)
  go_ret2
  exact ⟨rfl, rfl⟩
set_option maxRecDepth 100000 in
theorem cut_no0 (s p : ByteArray) (h : preB s p = false) (w : World) : Calls Tryd.prog 60 #[.string s, .string p] w fun e w' => e = .returned (.tuple #[.string s, .bool false]) ∧ w' = w := by
  have hp := has_prefix s p w
  rw [h] at hp
  clear h
  go_enter Tryd.func60, Tryd.ntmps60
  go_wp2_with (go_at_call 66; refine hp.mono ?_; rintro e w1 ⟨rfl, hx⟩; obtain rfl := hx.symm)
  go_ret2
  exact ⟨rfl, rfl⟩
set_option maxRecDepth 100000 in
theorem cut_yes (s p : ByteArray) (h : preB s p = true) (w : World) : Calls Tryd.prog 54 #[.string s, .string p] w fun e w' => e = .returned (.tuple #[.string (s.extract p.size s.size), .bool true]) ∧ w' = w := by
  have hp := cut_yes0 s p h w
  clear h
  go_enter Tryd.func54, Tryd.ntmps54
  go_wp2_with (go_at_call 60; refine hp.mono ?_; rintro e w1 ⟨rfl, hx⟩; obtain rfl := hx.symm)
  go_ret2
  exact ⟨rfl, rfl⟩
set_option maxRecDepth 100000 in
theorem cut_no (s p : ByteArray) (h : preB s p = false) (w : World) : Calls Tryd.prog 54 #[.string s, .string p] w fun e w' => e = .returned (.tuple #[.string s, .bool false]) ∧ w' = w := by
  have hp := cut_no0 s p h w
  clear h
  go_enter Tryd.func54, Tryd.ntmps54
  go_wp2_with (go_at_call 60; refine hp.mono ?_; rintro e w1 ⟨rfl, hx⟩; obtain rfl := hx.symm)
  go_ret2
  exact ⟨rfl, rfl⟩

def FieldIs (s : ByteArray) (k : Nat) (r : Option Nat) : Prop := ∀ w, Tabs w → Calls Tryd.prog 50 #[.string s, .int .i64 k] w fun e w' => e = .returned (.tuple #[.int .i64 (vlV r : Nat), .bool (okV r)]) ∧ Below w.heap.size w w'
theorem sgn_ba (k : Nat) : (ba (sgn k)).size = (sgn k).length := by simp [ba, ByteArray.size]
set_option maxRecDepth 100000 in
theorem field_any (s : ByteArray) (k : Nat) (hk : k < 6) : FieldIs s k (fieldV k s.data.toList) := by
  intro w hT
  have hs := hT.sgn k hk
  have hm := hT.most k hk
  have hpre : preB s (ba (sgn k)) = decide (s.data.toList.take (sgn k).length = sgn k) := by
    unfold preB
    rw [sgn_ba]
    rfl
  by_cases h : s.data.toList.take (sgn k).length = sgn k
  · have h54 := cut_yes s (ba (sgn k)) (by rw [hpre]; simp [h]) w
    have h55 := digits_any (s.extract (ba (sgn k)).size s.size) (most k) (most_lt k)
    have e : (s.extract (ba (sgn k)).size s.size).data.toList = s.data.toList.drop (sgn k).length := by
      rw [ext_list, sgn_ba, List.take_of_length_le (by simp)]
    have hV : fieldV k s.data.toList = numV (most k) (s.data.toList.drop (sgn k).length) := by unfold fieldV; rw [if_pos h]
    rw [e, ← hV] at h55
    unfold DigitsUpIs at h55
    generalize fieldV k s.data.toList = r at *
    clear h hpre e hV
    go_enter Tryd.func50, Tryd.ntmps50
    go_wp2_with (first | (go_at_call 54; refine h54.mono ?_; rintro e w1 ⟨rfl, hx⟩; obtain rfl := hx.symm) | (go_at_call 55; refine (h55 _).mono ?_; rintro e w2 ⟨rfl, hb⟩))
    go_ret2
    exact ⟨rfl, hb⟩
  · have h54 := cut_no s (ba (sgn k)) (by rw [hpre]; simp [h]) w
    have hV : fieldV k s.data.toList = none := by unfold fieldV; rw [if_neg h]
    rw [hV]
    clear h hpre hV
    go_enter Tryd.func50, Tryd.ntmps50
    go_wp2_with (go_at_call 54; refine h54.mono ?_; rintro e w1 ⟨rfl, hx⟩; obtain rfl := hx.symm)
    go_ret2
    exact ⟨rfl, Below.refl _ _⟩

def OpOfIs (s : ByteArray) : Prop := ∀ w, Tabs w → Calls Tryd.prog 49 #[.string s] w fun e w' => e = .returned (.int .i64 (opW s.data.toList : Nat)) ∧ w' = w
set_option maxHeartbeats 1000000 in
set_option maxRecDepth 100000 in
theorem opof_any (s : ByteArray) : OpOfIs s := by
  intro w hT
  have HN := (show Hid ((∀ o, 1 ≤ o → o ≤ 17 → wrd o ≠ s.data.toList) → opW s.data.toList = 0) from opW_no s.data.toList)
  have HA := (show Hid (∀ o, 1 ≤ o → o ≤ 17 → wrd o = s.data.toList → opW s.data.toList = o) from fun o h1 h2 h => by rw [← h]; exact opW_at o h1 h2)
  go_enter Tryd.func49, Tryd.ntmps49
  go_wp2
  go_loop [3] (fun x => ∃ o : Nat, x = .int .i64 o ∧ 1 ≤ o ∧ o ≤ 18 ∧ Hid (∀ j, 1 ≤ j → j < o → wrd j ≠ s.data.toList)) (fun x => 18 - (intOf x).toNat)
  case atStart => exact ⟨1, rfl, by omega, by omega, fun j h1 h2 => by omega⟩
  case round =>
    obtain ⟨o, rfl, ho1, ho2, HJ⟩ := hrel
    by_cases h17 : o ≤ 17
    · have hw := hT.wrd o (by omega)
      by_cases hq : wrd o = s.data.toList
      · have he : ((ba (wrd o)).toList == s.toList) = true := by rw [beq_iff_eq, ByteArray.toList_eq, ByteArray.toList_eq]; exact hq
        have HE := (show Hid (opW s.data.toList = o) from HA.out o ho1 h17 hq)
        clear HA HN HJ hq
        go_wp2
        go_ret
        exact ⟨by rw [HE.out]; rfl, rfl⟩
      · have he : ((ba (wrd o)).toList == s.toList) = false := by rw [beq_eq_false_iff_ne, ByteArray.toList_eq, ByteArray.toList_eq]; exact hq
        have HJ2 : Hid (∀ j, 1 ≤ j → j < o + 1 → wrd j ≠ s.data.toList) := fun j h1 h2 => by
          by_cases hj : j < o
          · exact HJ.out j h1 hj
          · obtain rfl : j = o := by omega
            exact hq
        clear HJ hq
        go_wp2
        go_round
        case rel => exact ⟨o + 1, by go_num, by omega, by omega, HJ2⟩
        case measure => simp [intOf]; omega
    · have HE := (show Hid (opW s.data.toList = 0) from HN.out fun j h1 h2 => HJ.out j h1 (by omega))
      clear HA HN HJ
      go_wp2
      go_ret
      exact ⟨by rw [HE.out]; rfl, rfl⟩
end Go.Proofs.YtdekkjnlmlkbdaaDoor.is
