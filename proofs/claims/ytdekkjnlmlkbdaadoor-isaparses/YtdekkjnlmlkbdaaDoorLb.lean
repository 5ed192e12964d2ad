/-
  Contracts over this program: a number, as the document reads it (number).
-/
import Derived.Test.YtdekkjnlmlkbdaaDoorLa
import Derived.Test.YtdekkjnlmlkbdaaDoorKb
namespace Go.Proofs.YtdekkjnlmlkbdaaDoor.is
open Go.Proofs.YtdekkjnlmlkbdaaDoor.num
open Go.ChangeShapes Go.WideShapes Go.ChangeAt Go.RowKit
set_option linter.unusedVariables false

def numI (r : Option Nat) : Int := match r with | some v => v | none => -1
def NumberIs (s : ByteArray) : Prop := ∀ w, Calls Tryd.prog 51 #[.string s] w fun e w' => e = .returned (.int .i64 (numI (numR s.data.toList))) ∧ w' = w

set_option maxHeartbeats 1000000 in
set_option maxRecDepth 100000 in
theorem number_lead (s : ByteArray) (h : (decide (10 < s.data.toList.length) || lead s.data.toList) = true) : NumberIs s := by
  intro w
  have HE : Hid (numI (numR s.data.toList) = -1) := by show _ = _; unfold numR; rw [h]; rfl
  have hll : s.data.toList.length = s.size := by simp
  unfold lead at h
  by_cases h0 : s.data.toList = []
  · have hs : s = ⟨#[]⟩ := by cases s; congr 1; exact Array.toList_inj.1 (by simpa using h0)
    subst hs
    rw [HE.out]
    clear h h0 HE
    go_enter Tryd.func51, Tryd.ntmps51
    go_wp2
    go_ret
    exact ⟨rfl, rfl⟩
  · have hne : (s.toList == []) = false := by rw [beq_eq_false_iff_ne, ByteArray.toList_eq]; exact h0
    by_cases h10 : 10 < s.size
    · rw [HE.out]
      clear h h0 HE
      go_enter Tryd.func51, Tryd.ntmps51
      go_wp2
      go_ret
      exact ⟨rfl, rfl⟩
    · rw [decide_eq_false h0, decide_eq_false (by omega)] at h
      simp only [Bool.false_or, Bool.and_eq_true, decide_eq_true_eq] at h
      have hz : 1 < s.size := by have := h.2; omega
      have hz0 : 0 < s.size := by omega
      have h48 : (s[0]'hz0).toNat = 48 := by
        have e := drop_at s 0 hz0
        rw [List.drop_zero] at e
        rw [e] at h
        rw [show s[0]'hz0 = 48 from h.1]
        rfl
      rw [HE.out]
      clear h h0 HE
      go_enter Tryd.func51, Tryd.ntmps51
      go_wp2
      go_ret
      exact ⟨rfl, rfl⟩

set_option maxHeartbeats 2000000 in
set_option maxRecDepth 100000 in
theorem number_go (s : ByteArray) (h : (decide (10 < s.data.toList.length) || lead s.data.toList) = false) : NumberIs s := by
  intro w
  have HE : Hid (numR s.data.toList = decG 0 s.data.toList) := by show _ = _; unfold numR; rw [h]; rfl
  have hll : s.data.toList.length = s.size := by simp
  rw [Bool.or_eq_false_iff] at h
  obtain ⟨hA, hb⟩ := h
  have h10 : s.size ≤ 10 := by have := of_decide_eq_false hA; omega
  unfold lead at hb
  rw [Bool.or_eq_false_iff] at hb
  have h0 := of_decide_eq_false hb.1
  have hz : 0 < s.size := by
    have : 0 < s.data.toList.length := List.length_pos_iff.2 h0
    omega
  have hne : (s.toList == []) = false := by rw [beq_eq_false_iff_ne, ByteArray.toList_eq]; exact h0
  have hor : s[0].toNat ≠ 48 ∨ (s[0].toNat = 48 ∧ s.size = 1) := by
    by_cases h48 : s[0].toNat = 48
    · right
      refine ⟨h48, ?_⟩
      have e := drop_at s 0 hz
      rw [List.drop_zero] at e
      have h2 := hb.2
      have e48 : s[0] = 48 := UInt8.toNat_inj.1 h48
      rw [e, List.headD_cons, e48] at h2
      simp at h2
      have : s.data.toList.length = 1 + (s.data.toList.drop 1).length := by rw [List.length_drop]; omega
      simp at this h2
      omega
    · exact .inl h48
  rw [HE.out]
  obtain ⟨R, hR⟩ : ∃ R, R = decG 0 s.data.toList := ⟨_, rfl⟩
  have HR := (show Hid (decG 0 s.data.toList = R) from hR.symm)
  rw [← hR]
  clear hR HE hA hb h0 hll
  have go : ∀ (hfirst : (((s[0].toNat : Int) == 48) = false) ∨ (s[0].toNat = 48 ∧ decide (1 < (s.size : Int)) = false)), Calls Tryd.prog 51 #[.string s] w fun e w' => e = .returned (.int .i64 (numI R)) ∧ w' = w := by
    intro hfirst
    rcases hfirst with h48' | ⟨h48, hsz1⟩
    all_goals (
      clear hor
      go_enter Tryd.func51, Tryd.ntmps51
      go_wp2
      go_loop [3, 4] (fun x y => ∃ (n i : Nat), x = .int .i64 n ∧ y = .int .i64 i ∧ i ≤ s.size ∧ Hid (n < 10 ^ i) ∧ Hid (decG n (s.data.toList.drop i) = R)) (fun _ y => s.size - (intOf y).toNat)
      case atStart => exact ⟨0, 0, rfl, rfl, by omega, by show _ < _; decide, by show _ = _; rw [List.drop_zero]; exact HR.out⟩
      case round =>
        obtain ⟨n, i, rfl, rfl, hi, HN, HQ⟩ := hrel
        have hn10 : n < 10000000000 := by
          have h1 := HN.out
          have h2 : (10 : Nat) ^ i ≤ 10 ^ 10 := Nat.pow_le_pow_right (by omega) (by omega)
          have h3 : (10 : Nat) ^ 10 = 10000000000 := by decide
          omega
        by_cases hp : i < s.size
        · have hd := drop_at s i hp
          have hb255 : s[i].toNat < 256 := s[i].toNat_lt
          have hD : digB s[i] = (decide (48 ≤ s[i].toNat) && decide (s[i].toNat ≤ 57)) := rfl
          have HG : Hid (decG n (s.data.toList.drop i) = if digB s[i] = true then decG (10 * n + (s[i].toNat - 48)) (s.data.toList.drop (i + 1)) else none) := by show _ = _; rw [hd]; rfl
          generalize hsi : s[i].toNat = b at *
          by_cases h1 : b < 48
          · have HE : Hid (R = none) := by show _ = _; rw [← HQ.out, HG.out, hD]; simp; omega
            clear HQ HG hD hd HN
            go_wp2
            go_ret
            exact ⟨by rw [HE.out]; rfl, rfl⟩
          by_cases h2 : 57 < b
          · have HE : Hid (R = none) := by show _ = _; rw [← HQ.out, HG.out, hD]; simp; omega
            clear HQ HG hD hd HN
            go_wp2
            go_ret
            exact ⟨by rw [HE.out]; rfl, rfl⟩
          obtain ⟨d, rfl⟩ : ∃ d : Nat, b = d + 48 := ⟨b - 48, by omega⟩
          have hdig : digB s[i] = true := by rw [hD]; simp; omega
          have e1 : ((d + 48 : Nat) : Int) - 48 = (d : Int) := by omega
          have hd9 : d ≤ 9 := by omega
          have HN2 : Hid (decG (10 * n + d) (s.data.toList.drop (i + 1)) = R) := by show _ = _; rw [← HQ.out, HG.out, if_pos hdig, Nat.add_sub_cancel]
          have HB2 : Hid (10 * n + d < 10 ^ (i + 1)) := by
            show _ < _
            rw [Nat.pow_succ]
            have := HN.out
            omega
          clear HQ HG hD hd hdig HN
          go_wp2
          go_round
          case rel => exact ⟨10 * n + d, i + 1, by go_num, by go_num, by omega, HB2, HN2⟩
          case measure => simp [intOf]; omega
        · have HE : Hid (R = some n) := by
            show _ = _
            rw [← HQ.out, List.drop_eq_nil_of_le (by simp; omega)]
            rfl
          clear HQ HN
          go_wp2
          go_ret
          exact ⟨by rw [HE.out]; rfl, rfl⟩)
  rcases hor with h48 | ⟨h48, h1⟩
  · exact go (.inl (by rw [beq_eq_false_iff_ne]; omega))
  · exact go (.inr ⟨h48, by simp; omega⟩)
theorem number_any (s : ByteArray) : NumberIs s := by
  cases h : (decide (10 < s.data.toList.length) || lead s.data.toList) with
  | true => exact number_lead s h
  | false => exact number_go s h
end Go.Proofs.YtdekkjnlmlkbdaaDoor.is
