/-
  Contracts over this program: digits up to a bound (isa.upToDigits), a text behind its sign (strings.CutPrefix), a field (isa.field), a word's Op (isa.opOf).
-/
import Derived.Test.YtdekkjnlmlkbdaaDoorKa
import Derived.Test.YtdekkjnlmlkbdaaDoorGb
import Derived.Lib.OthersKept
namespace Go.Proofs.YtdekkjnlmlkbdaaDoor.is
open Go.Proofs.YtdekkjnlmlkbdaaDoor.num
open Go.ChangeShapes Go.WideShapes Go.ChangeAt Go.RowKit
set_option linter.unusedVariables false

theorem below_iter (w : World) (s : ByteArray) (p : Nat) : Below w.heap.size w (w.iter s p) := (Below.refl _ _).alloc (Nat.le_refl _) _
theorem drop_at (s : ByteArray) (i : Nat) (h : i < s.size) : s.data.toList.drop i = s[i] :: s.data.toList.drop (i + 1) := by
  have h' : i < s.data.toList.length := by simpa using h
  rw [List.drop_eq_getElem_cons h']
  rfl

def okV (r : Option Nat) : Bool := r.isSome
def vlV (r : Option Nat) : Nat := r.getD 0
def DigitsUpIs (s : ByteArray) (m : Nat) (r : Option Nat) : Prop := ∀ w, Calls Tryd.prog 55 #[.string s, .int .i64 m] w fun e w' => e = .returned (.tuple #[.int .i64 (vlV r : Nat), .bool (okV r)]) ∧ Below w.heap.size w w'

set_option maxHeartbeats 2000000 in
set_option maxRecDepth 100000 in
theorem digits_lead (s : ByteArray) (m : Nat) (h : lead s.data.toList = true) : DigitsUpIs s m none := by
  intro w
  unfold lead at h
  by_cases h0 : s.data.toList = []
  · have hs : s = ⟨#[]⟩ := by cases s; congr 1; exact Array.toList_inj.1 (by simpa using h0)
    subst hs
    clear h h0
    go_enter Tryd.func55, Tryd.ntmps55
    go_wp2
    go_ret2
    exact ⟨rfl, Below.refl _ _⟩
  · rw [decide_eq_false h0] at h
    simp only [Bool.false_or, Bool.and_eq_true, decide_eq_true_eq] at h
    have hz : 1 < s.size := by have := h.2; simpa using this
    have h48 : s[0].toNat = 48 := by
      have e := drop_at s 0 (by omega)
      rw [List.drop_zero] at e
      rw [e] at h
      rw [show s[0] = 48 from h.1]
      rfl
    have hne : (s.toList == []) = false := by
      rw [beq_eq_false_iff_ne, ByteArray.toList_eq]; exact h0
    clear h h0
    go_enter Tryd.func55, Tryd.ntmps55
    go_wp2
    go_ret2
    exact ⟨rfl, Below.refl _ _⟩
set_option maxHeartbeats 2000000 in
set_option maxRecDepth 100000 in
theorem digits_go0 (s : ByteArray) (m : Nat) (hm : m ≤ 1073741824) (hz : 0 < s.size) (h48 : s[0].toNat ≠ 48) : DigitsUpIs s m (numG m 0 s.data.toList) := by
  intro w
  have h48' : ((s[0].toNat : Int) == 48) = false := by rw [beq_eq_false_iff_ne]; omega
  have hne : (s.toList == []) = false := by
    rw [beq_eq_false_iff_ne, ByteArray.toList_eq]
    intro h
    have hl : s.data.toList.length = s.size := by simp
    rw [h] at hl
    simp at hl
    omega
  obtain ⟨R, hR⟩ : ∃ R, R = numG m 0 s.data.toList := ⟨_, rfl⟩
  have HR := (show Hid (numG m 0 s.data.toList = R) from hR.symm)
  rw [← hR]
  clear hR
  go_enter Tryd.func55, Tryd.ntmps55
  go_wp2
  go_loopw [6] (fun x wr => ∃ (pos n : Nat), wr = w.iter s pos ∧ x = .int .i64 n ∧ n ≤ m ∧ pos ≤ s.size ∧ Hid (numG m n (s.data.toList.drop pos) = R)) (fun _ wr => s.size - wr.iterPos w.heap.size)
  case atStart => exact ⟨0, 0, rfl, rfl, by omega, by omega, by show _ = _; rw [List.drop_zero]; exact HR.out⟩
  case round =>
    obtain ⟨pos, n, rfl, rfl, hnm, hps, HQ⟩ := hrel
    by_cases hp : pos < s.size
    · have hd := drop_at s pos hp
      by_cases ha : s[pos].toNat < 128
      · have hnx := fun ty => run_next_ascii (P := Tryd.prog) w s pos ty hp ha
        have hD : digB s[pos] = (decide (48 ≤ s[pos].toNat) && decide (s[pos].toNat ≤ 57)) := rfl
        have HG : Hid (numG m n (s.data.toList.drop pos) = if digB s[pos] = true then (if m < 10 * n + (s[pos].toNat - 48) then none else numG m (10 * n + (s[pos].toNat - 48)) (s.data.toList.drop (pos + 1))) else none) := by show _ = _; rw [hd]; rfl
        generalize s[pos].toNat = b at *
        by_cases h1 : b < 48
        · have HE : Hid (R = none) := by show _ = _; rw [← HQ.out, HG.out, hD]; simp; omega
          clear HQ HG hD hd
          go_wp2
          go_ret2
          exact ⟨by rw [HE.out]; rfl, below_iter _ _ _⟩
        by_cases h2 : 57 < b
        · have HE : Hid (R = none) := by show _ = _; rw [← HQ.out, HG.out, hD]; simp; omega
          clear HQ HG hD hd
          go_wp2
          go_ret2
          exact ⟨by rw [HE.out]; rfl, below_iter _ _ _⟩
        obtain ⟨d, rfl⟩ : ∃ d : Nat, b = d + 48 := ⟨b - 48, by omega⟩
        have hdig : digB s[pos] = true := by rw [hD]; simp; omega
        have e1 : ((d + 48 : Nat) : Int) - 48 = (d : Int) := by omega
        have hd9 : d ≤ 9 := by omega
        by_cases h3 : m < 10 * n + d
        · have HE : Hid (R = none) := by show _ = _; rw [← HQ.out, HG.out, if_pos hdig, Nat.add_sub_cancel, if_pos h3]
          clear HQ HG hD hd hdig
          go_wp2
          go_ret2
          exact ⟨by rw [HE.out]; rfl, below_iter _ _ _⟩
        · have HN : Hid (numG m (10 * n + d) (s.data.toList.drop (pos + 1)) = R) := by show _ = _; rw [← HQ.out, HG.out, if_pos hdig, Nat.add_sub_cancel, if_neg h3]
          clear HQ HG hD hd hdig
          go_wp2
          go_roundw
          case rel => exact ⟨pos + 1, 10 * n + d, rfl, by go_num, by omega, by omega, HN⟩
          case measure => simp; omega
      · have hdh := decode_high s pos hp (by omega)
        have hdl := decode_le s pos
        have hnx := fun ty => run_next_any (P := Tryd.prog) w s pos ty hp
        have HE : Hid (R = none) := by
          show _ = _
          rw [← HQ.out, hd, numG, if_neg]
          unfold digB
          simp
          omega
        generalize Utf8.decode s pos = dc at *
        obtain ⟨r, k⟩ := dc
        simp only at hdh hdl hnx
        obtain ⟨hr, hk⟩ := hdh
        clear HQ hd
        go_wp2
        go_ret2
        exact ⟨by rw [HE.out]; rfl, below_iter _ _ _⟩
    · have hnx := fun ty => run_next_end (P := Tryd.prog) w s pos ty hp
      have HE : Hid (R = some n) := by
        show _ = _
        rw [← HQ.out, List.drop_eq_nil_of_le (by simp; omega)]
        rfl
      clear HQ
      go_wp2
      go_ret2
      exact ⟨by rw [HE.out]; rfl, below_iter _ _ _⟩
set_option maxHeartbeats 2000000 in
set_option maxRecDepth 100000 in
theorem digits_go1 (s : ByteArray) (m : Nat) (hm : m ≤ 1073741824) (hz : s.size = 1) (h48 : (s[0]'(by omega)).toNat = 48) : DigitsUpIs s m (numG m 0 s.data.toList) := by
  intro w
  have hsz1 : decide (1 < (s.size : Int)) = false := by simp; omega
  have hne : (s.toList == []) = false := by
    rw [beq_eq_false_iff_ne, ByteArray.toList_eq]
    intro h
    have hl : s.data.toList.length = s.size := by simp
    rw [h] at hl
    simp at hl
    omega
  obtain ⟨R, hR⟩ : ∃ R, R = numG m 0 s.data.toList := ⟨_, rfl⟩
  have HR := (show Hid (numG m 0 s.data.toList = R) from hR.symm)
  rw [← hR]
  clear hR
  have hz0 : 0 < s.size := by omega
  go_enter Tryd.func55, Tryd.ntmps55
  go_wp2
  go_loopw [6] (fun x wr => ∃ (pos n : Nat), wr = w.iter s pos ∧ x = .int .i64 n ∧ n ≤ m ∧ pos ≤ s.size ∧ Hid (numG m n (s.data.toList.drop pos) = R)) (fun _ wr => s.size - wr.iterPos w.heap.size)
  case atStart => exact ⟨0, 0, rfl, rfl, by omega, by omega, by show _ = _; rw [List.drop_zero]; exact HR.out⟩
  case round =>
    obtain ⟨pos, n, rfl, rfl, hnm, hps, HQ⟩ := hrel
    by_cases hp : pos < s.size
    · have hd := drop_at s pos hp
      by_cases ha : s[pos].toNat < 128
      · have hnx := fun ty => run_next_ascii (P := Tryd.prog) w s pos ty hp ha
        have hD : digB s[pos] = (decide (48 ≤ s[pos].toNat) && decide (s[pos].toNat ≤ 57)) := rfl
        have HG : Hid (numG m n (s.data.toList.drop pos) = if digB s[pos] = true then (if m < 10 * n + (s[pos].toNat - 48) then none else numG m (10 * n + (s[pos].toNat - 48)) (s.data.toList.drop (pos + 1))) else none) := by show _ = _; rw [hd]; rfl
        generalize s[pos].toNat = b at *
        by_cases h1 : b < 48
        · have HE : Hid (R = none) := by show _ = _; rw [← HQ.out, HG.out, hD]; simp; omega
          clear HQ HG hD hd
          go_wp2
          go_ret2
          exact ⟨by rw [HE.out]; rfl, below_iter _ _ _⟩
        by_cases h2 : 57 < b
        · have HE : Hid (R = none) := by show _ = _; rw [← HQ.out, HG.out, hD]; simp; omega
          clear HQ HG hD hd
          go_wp2
          go_ret2
          exact ⟨by rw [HE.out]; rfl, below_iter _ _ _⟩
        obtain ⟨d, rfl⟩ : ∃ d : Nat, b = d + 48 := ⟨b - 48, by omega⟩
        have hdig : digB s[pos] = true := by rw [hD]; simp; omega
        have e1 : ((d + 48 : Nat) : Int) - 48 = (d : Int) := by omega
        have hd9 : d ≤ 9 := by omega
        by_cases h3 : m < 10 * n + d
        · have HE : Hid (R = none) := by show _ = _; rw [← HQ.out, HG.out, if_pos hdig, Nat.add_sub_cancel, if_pos h3]
          clear HQ HG hD hd hdig
          go_wp2
          go_ret2
          exact ⟨by rw [HE.out]; rfl, below_iter _ _ _⟩
        · have HN : Hid (numG m (10 * n + d) (s.data.toList.drop (pos + 1)) = R) := by show _ = _; rw [← HQ.out, HG.out, if_pos hdig, Nat.add_sub_cancel, if_neg h3]
          clear HQ HG hD hd hdig
          go_wp2
          go_roundw
          case rel => exact ⟨pos + 1, 10 * n + d, rfl, by go_num, by omega, by omega, HN⟩
          case measure => simp; omega
      · have hdh := decode_high s pos hp (by omega)
        have hdl := decode_le s pos
        have hnx := fun ty => run_next_any (P := Tryd.prog) w s pos ty hp
        have HE : Hid (R = none) := by
          show _ = _
          rw [← HQ.out, hd, numG, if_neg]
          unfold digB
          simp
          omega
        generalize Utf8.decode s pos = dc at *
        obtain ⟨r, k⟩ := dc
        simp only at hdh hdl hnx
        obtain ⟨hr, hk⟩ := hdh
        clear HQ hd
        go_wp2
        go_ret2
        exact ⟨by rw [HE.out]; rfl, below_iter _ _ _⟩
    · have hnx := fun ty => run_next_end (P := Tryd.prog) w s pos ty hp
      have HE : Hid (R = some n) := by
        show _ = _
        rw [← HQ.out, List.drop_eq_nil_of_le (by simp; omega)]
        rfl
      clear HQ
      go_wp2
      go_ret2
      exact ⟨by rw [HE.out]; rfl, below_iter _ _ _⟩
theorem digits_any (s : ByteArray) (m : Nat) (hm : m ≤ 1073741824) : DigitsUpIs s m (numV m s.data.toList) := by
  unfold numV
  by_cases h : lead s.data.toList = true
  · rw [if_pos h]; exact digits_lead s m h
  · rw [if_neg h]
    have hb : lead s.data.toList = false := by simpa using h
    unfold lead at hb
    rw [Bool.or_eq_false_iff] at hb
    have h0 := of_decide_eq_false hb.1
    have hz : 0 < s.size := by
      have : 0 < s.data.toList.length := List.length_pos_iff.2 h0
      simpa using this
    by_cases h48 : s[0].toNat = 48
    · have h1 : s.size = 1 := by
        have e := drop_at s 0 hz
        rw [List.drop_zero] at e
        have h2 := hb.2
        have e48 : s[0] = 48 := UInt8.toNat_inj.1 h48
        rw [e, List.headD_cons, e48] at h2
        simp at h2
        have : s.data.toList.length = 1 + (s.data.toList.drop 1).length := by rw [List.length_drop]; simp; omega
        simp at this h2
        omega
      exact digits_go1 s m hm h1 h48
    · exact digits_go0 s m hm hz h48
end Go.Proofs.YtdekkjnlmlkbdaaDoor.is
