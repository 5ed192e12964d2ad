/-
  Contracts over this program: trans.below, trans.rowsBelow, trans.tooLong, slices.ContainsFunc at texts, trans.Right.
-/
import Derived.Test.YtafcekognhkmgaaTb
namespace Go.Proofs.Ytafcekognhkmgaa.tr
open Go.ChangeShapes Go.WideShapes Go.ChangeAt Go.RowKit
set_option linter.unusedVariables false

def BelIs (n : Nat) (r : List Int) (a : Bool) : Prop := ∀ o cap w, Row (In w) w iv o cap r → Calls Try.prog 29 #[.slice o r.length cap, .int .i64 (n : Int)] w fun e w' => e = .returned (.bool a) ∧ w' = w
set_option maxHeartbeats 1000000 in
theorem below_any (n : Nat) (r : List Int) (a : Bool) (ha : a = below n r) : BelIs n r a := by
  intro o cap w hR
  have hfit := hR.fit
  have htop := hR.top
  have HR : Hid (Row (In w) w iv o cap r) := hR
  have HA : Hid (a = r.all (inB n)) := ha
  clear hR ha
  go_enter Try.func29, Try.ntmps29
  go_wp2
  go_loop [9] (fun y => ∃ i : Nat, y = .int .i64 i ∧ i ≤ r.length ∧ Hid ((r.take i).all (inB n) = true)) (fun y => r.length - (intOf y).toNat)
  case atStart => exact ⟨0, rfl, by omega, by show _ = _; simp⟩
  case round =>
    obtain ⟨i, rfl, hil, HI⟩ := hrel
    by_cases hend : i < r.length
    · obtain ⟨b, off, rfl, hb, hc⟩ := HR.out.lie i hend
      have hall := all_take (inB n) r i hend
      have hno := all_no (inB n) r i hend
      rw [HI.out, Bool.true_and] at hall
      obtain ⟨x, hx⟩ : ∃ x, x = r[i] := ⟨_, rfl⟩
      rw [← hx] at hc hall hno
      clear hx
      have HNO : Hid (inB n x = false → a = false) := fun h => HA.out.trans (hno h)
      have HALL : Hid ((r.take (i + 1)).all (inB n) = inB n x) := hall
      clear hno hall
      by_cases g0 : x < 0
      · have f0 : decide (x < 0) = true := decide_eq_true g0
        have HF : Hid (a = false) := HNO.out (by simp [inB]; omega)
        clear g0 HNO HALL
        go_wp2
        go_ret
        exact ⟨by rw [HF.out]; rfl, rfl⟩
      · have f0 : decide (x < 0) = false := decide_eq_false g0
        by_cases g1 : (n : Int) ≤ x
        · have f1 : decide ((n : Int) ≤ x) = true := decide_eq_true g1
          have HF : Hid (a = false) := HNO.out (by simp [inB]; omega)
          clear g0 g1 HNO HALL
          go_wp2
          go_ret
          exact ⟨by rw [HF.out]; rfl, rfl⟩
        · have f1 : decide ((n : Int) ≤ x) = false := decide_eq_false g1
          have HT : Hid ((r.take (i + 1)).all (inB n) = true) := by show _ = _; rw [HALL.out]; simp [inB]; omega
          clear g0 g1 HNO HALL
          go_wp2
          go_round
          case rel => exact ⟨i + 1, by go_num, by omega, HT⟩
          case measure => simp [intOf]; omega
    · have HF : Hid (a = true) := by
        show _ = _
        have := HI.out
        rw [List.take_of_length_le (by omega)] at this
        rw [HA.out]
        exact this
      go_wp2
      go_ret
      exact ⟨by rw [HF.out]; rfl, rfl⟩

def RowsIs (n : Nat) (l : List (List Int)) (a : Bool) : Prop := ∀ o cap w, RowRow (In w) w o cap l → Calls Try.prog 28 #[.slice o l.length cap, .int .i64 (n : Int)] w fun e w' => e = .returned (.bool a) ∧ w' = w
set_option maxHeartbeats 1000000 in
theorem rows_any (n : Nat) (l : List (List Int)) (a : Bool) (ha : a = rows n l) : RowsIs n l a := by
  intro o cap w hR
  have hfit := hR.fit
  have htop := hR.top
  have HR : Hid (RowRow (In w) w o cap l) := hR
  have HA : Hid (a = l.all (rowOk n)) := ha
  clear hR ha
  go_enter Try.func28, Try.ntmps28
  go_wp2
  go_loop [9] (fun y => ∃ i : Nat, y = .int .i64 i ∧ i ≤ l.length ∧ Hid ((l.take i).all (rowOk n) = true)) (fun y => l.length - (intOf y).toNat)
  case atStart => exact ⟨0, rfl, by omega, by show _ = _; simp⟩
  case round =>
    obtain ⟨i, rfl, hil, HI⟩ := hrel
    by_cases hend : i < l.length
    · obtain ⟨b, off, oi, ci, rfl, hb, hc, hrow⟩ := HR.out.lie i hend
      have hall := all_take (rowOk n) l i hend
      have hno := all_no (rowOk n) l i hend
      rw [HI.out, Bool.true_and] at hall
      obtain ⟨r, hr⟩ : ∃ r, r = l[i] := ⟨_, rfl⟩
      rw [← hr] at hc hall hno hrow
      clear hr
      have HNO : Hid (rowOk n r = false → a = false) := fun h => HA.out.trans (hno h)
      have HALL : Hid ((l.take (i + 1)).all (rowOk n) = rowOk n r) := hall
      have rt := hrow.top
      have rf := hrow.fit
      clear hno hall
      by_cases g0 : r.length = 256
      · have q1 : ((r.length : Int) == 256) = true := beq_iff_eq.2 (by omega)
        have q2 : ((r.length : Int) != 256) = false := by rw [bne, q1]; rfl
        have c29 := below_any n r _ rfl _ _ _ hrow
        cases hb2 : below n r with
        | true =>
          rw [hb2] at c29
          have HT : Hid ((l.take (i + 1)).all (rowOk n) = true) := by show _ = _; rw [HALL.out]; simp [rowOk, g0, hb2]
          clear g0 HNO HALL hb2 hrow
          go_wp2_with (go_at_call 29; refine c29.mono ?_; rintro e w1 ⟨rfl, h⟩; obtain rfl := h.symm)
          go_round
          case rel => exact ⟨i + 1, by go_num, by omega, HT⟩
          case measure => simp [intOf]; omega
        | false =>
          rw [hb2] at c29
          have HF : Hid (a = false) := HNO.out (by simp [rowOk, hb2])
          clear g0 HNO HALL hb2 hrow
          go_wp2_with (go_at_call 29; refine c29.mono ?_; rintro e w1 ⟨rfl, h⟩; obtain rfl := h.symm)
          go_ret
          exact ⟨by rw [HF.out]; rfl, rfl⟩
      · have q1 : ((r.length : Int) == 256) = false := beq_eq_false_iff_ne.2 (by omega)
        have q2 : ((r.length : Int) != 256) = true := bne_iff_ne.2 (by omega)
        have HF : Hid (a = false) := HNO.out (by simp [rowOk, g0])
        clear g0 HNO HALL hrow
        go_wp2
        go_ret
        exact ⟨by rw [HF.out]; rfl, rfl⟩
    · have HF : Hid (a = true) := by
        show _ = _
        have := HI.out
        rw [List.take_of_length_le (by omega)] at this
        rw [HA.out]
        exact this
      go_wp2
      go_ret
      exact ⟨by rw [HF.out]; rfl, rfl⟩

theorem long_any (s : ByteArray) (x : Bool) (hx : x = !fits s) (w : World) : Calls Try.prog 27 #[.string s] w fun e w' => e = .returned (.bool x) ∧ w' = w := by
  have HX : Hid (x = decide (4096 < (s.size : Int))) := by
    show _ = _
    rw [hx]
    unfold fits
    by_cases h : s.size ≤ 4096
    · rw [decide_eq_true h, decide_eq_false (by omega)]; rfl
    · rw [decide_eq_false h, decide_eq_true (by omega)]; rfl
  clear hx
  go_enter Try.func27, Try.ntmps27
  go_wp2
  go_ret
  exact ⟨by rw [HX.out]; rfl, rfl⟩

def IdxIs (l : List ByteArray) (x : Bool) : Prop := ∀ o cap w, Row (In w) w sv o cap l → Calls Try.prog 50 #[.slice o l.length cap, .func (.func 27) #[] #[]] w fun e w' => (∃ n : Int, e = .returned (.int .i64 n) ∧ (x = true ∧ 0 ≤ n ∨ x = false ∧ n = -1)) ∧ w' = w
set_option maxHeartbeats 1000000 in
theorem idx_any (l : List ByteArray) (x : Bool) (hx : x = !texts l) : IdxIs l x := by
  intro o cap w hR
  have hfit := hR.fit
  have htop := hR.top
  have HR : Hid (Row (In w) w sv o cap l) := hR
  have HA : Hid (x = !l.all fits) := hx
  clear hR hx
  go_enter Try.func50, Try.ntmps50
  go_wp2
  go_loopw [8] (fun y wr => ∃ i : Nat, y = .int .i64 i ∧ i ≤ l.length ∧ wr = w ∧ Hid ((l.take i).all fits = true)) (fun y _ => l.length - (intOf y).toNat)
  case atStart => exact ⟨0, rfl, by omega, rfl, by show _ = _; simp⟩
  case round =>
    obtain ⟨i, rfl, hil, rfl, HI⟩ := hrel
    by_cases hend : i < l.length
    · obtain ⟨b, off, rfl, hb, hc⟩ := HR.out.lie i hend
      have hall := all_take fits l i hend
      have hno := all_no fits l i hend
      rw [HI.out, Bool.true_and] at hall
      obtain ⟨t, ht⟩ : ∃ t, t = l[i] := ⟨_, rfl⟩
      rw [← ht] at hc hall hno
      clear ht
      have hl := long_any t _ rfl
      cases hf : fits t with
      | true =>
        rw [hf] at hl hall
        have HT : Hid ((l.take (i + 1)).all fits = true) := hall
        clear hno hall hf
        go_wp2_with (go_at_call 27; refine (hl _).mono ?_; rintro e w1 ⟨rfl, h⟩; obtain rfl := h.symm)
        go_roundw
        case rel => exact ⟨i + 1, by go_num, by omega, trivial, HT⟩
        case measure => simp [intOf]; omega
      | false =>
        rw [hf] at hl
        have HF : Hid (x = true) := by show _ = _; rw [HA.out, hno hf]; rfl
        clear hno hall hf
        go_wp2_with (go_at_call 27; refine (hl _).mono ?_; rintro e w1 ⟨rfl, h⟩; obtain rfl := h.symm)
        go_ret
        exact ⟨⟨_, rfl, .inl ⟨HF.out, by omega⟩⟩, rfl⟩
    · have HF : Hid (x = false) := by
        show _ = _
        have := HI.out
        rw [List.take_of_length_le (by omega)] at this
        rw [HA.out, this]
        rfl
      go_wp2
      go_ret
      exact ⟨⟨_, rfl, .inr ⟨HF.out, rfl⟩⟩, rfl⟩

def AnyIs (l : List ByteArray) (x : Bool) : Prop := ∀ o cap w, Row (In w) w sv o cap l → Calls Try.prog 26 #[.slice o l.length cap, .func (.func 27) #[] #[]] w fun e w' => e = .returned (.bool x) ∧ w' = w
set_option maxHeartbeats 1000000 in
theorem any_any (l : List ByteArray) (x : Bool) (hx : x = !texts l) : AnyIs l x := by
  intro o cap w hR
  have hi := idx_any l x hx o cap w hR
  clear hx
  go_enter Try.func26, Try.ntmps26
  go_wp2_with (go_at_call 50; refine hi.mono ?_; rintro e w1 ⟨⟨n, rfl, hn⟩, h⟩; obtain rfl := h.symm)
  go_ret
  refine ⟨?_, rfl⟩
  rcases hn with ⟨rfl, h⟩ | ⟨rfl, rfl⟩
  · show Ending.returned (.bool (decide (0 ≤ n))) = _
    rw [decide_eq_true h]
  · rfl
end Go.Proofs.Ytafcekognhkmgaa.tr
