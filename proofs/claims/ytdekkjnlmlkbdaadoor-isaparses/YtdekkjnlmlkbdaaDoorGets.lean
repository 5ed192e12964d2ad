/-
  Contracts over this program: a number at a place (wire.outside, wire.last, wire.Get).
-/
import Derived.Test.YtdekkjnlmlkbdaaDoorPuts
import Derived.Laws.Bits64b
namespace Go.Proofs.YtdekkjnlmlkbdaaDoor.num
open Go.ChangeShapes Go.WideShapes Go.ChangeAt Go.RowKit
set_option linter.unusedVariables false

theorem ret_bool {a b : Bool} (h : a = b) : Ending.returned (.bool a) = .returned (.bool b) := by rw [h]

theorem outside_no (s : ByteArray) (p : Nat) (hp : p ≤ s.size) (w : World) :
    Calls Tryd.prog 44 #[.string s, .int .i64 p] w fun e w' => e = .returned (.bool false) ∧ w' = w := by
  go_enter Tryd.func44, Tryd.ntmps44
  go_wp2
  go_ret
  exact ⟨ret_bool (by simp; omega), rfl⟩
theorem outside_yes (s : ByteArray) (i : Int) (h : i < 0 ∨ (s.size : Int) < i) (w : World) :
    Calls Tryd.prog 44 #[.string s, .int .i64 i] w fun e w' => e = .returned (.bool true) ∧ w' = w := by
  by_cases h1 : i < 0
  · go_enter Tryd.func44, Tryd.ntmps44
    go_wp2
    go_ret
    exact ⟨ret_bool (by simp), rfl⟩
  · have h2 : (s.size : Int) < i := by omega
    go_enter Tryd.func44, Tryd.ntmps44
    go_wp2
    go_ret
    exact ⟨ret_bool (by simp), rfl⟩

theorem last_any (d k : Nat) (w : World) :
    Calls Tryd.prog 45 #[.int .u8 d, .int .i64 k] w fun e w' => e = .returned (.bool (okLast k d)) ∧ w' = w := by
  by_cases h0 : k = 0
  · subst h0
    go_enter Tryd.func45, Tryd.ntmps45
    go_wp2
    go_ret
    exact ⟨rfl, rfl⟩
  · have hk : ((k : Int) == 0) = false := by rw [beq_eq_false_iff_ne]; omega
    by_cases h1 : d = 0
    · subst h1
      have e : Hid (okLast k 0 = false) := by show okLast _ _ = _; unfold okLast; rw [decide_eq_false_iff_not]; omega
      go_enter Tryd.func45, Tryd.ntmps45
      go_wp2
      go_ret
      exact ⟨by rw [e.out]; rfl, rfl⟩
    · have hd : ((d : Int) != 0) = true := by rw [bne_iff_ne]; omega
      by_cases h2 : k < 9
      · have e : Hid (okLast k d = true) := by show okLast _ _ = _; unfold okLast; rw [decide_eq_true_eq]; omega
        go_enter Tryd.func45, Tryd.ntmps45
        go_wp2
        go_ret
        exact ⟨by rw [e.out]; rfl, rfl⟩
      · have e : Hid (okLast k d = decide (d ≤ 1)) := by show okLast _ _ = _; unfold okLast; rw [decide_eq_decide]; omega
        go_enter Tryd.func45, Tryd.ntmps45
        go_wp2
        go_ret
        exact ⟨by rw [e.out]; exact ret_bool (by rw [Bool.eq_iff_iff]; simp; omega), rfl⟩

def GetIs (s : ByteArray) (i : Int) (n to e : Nat) : Prop := ∀ w, Calls Tryd.prog 34 #[.string s, .int .i64 i] w fun r w' => r = .returned (.tuple #[.int .u64 n, .int .i64 to, .int .i64 e]) ∧ w' = w

theorem get_out (s : ByteArray) (i : Int) (h : i < 0 ∨ (s.size : Int) < i) : GetIs s i 0 0 1 := by
  intro w
  go_enter Tryd.func34, Tryd.ntmps34
  go_wp2_with (go_at_call 44; refine (outside_yes s i h _).mono ?_; rintro e w1 ⟨rfl, rfl⟩)
  go_ret3
  exact ⟨rfl, rfl⟩

theorem nth_at (s : ByteArray) (i k : Nat) (h : i + k < s.size) : nth (s.data.toList.drop i) k = (s[i + k]'h).toNat := by
  have h' : i + k < s.data.toList.length := by simpa using h
  unfold nth
  rw [List.getD_eq_getElem?_getD, List.getElem?_drop, List.getElem?_eq_getElem h']
  rfl
theorem drop_length (s : ByteArray) (i : Nat) : (s.data.toList.drop i).length = s.size - i := by simp

theorem val_take (l : List UInt8) (i : Nat) (h : i < l.length) : val (l.take (i + 1)) = val (l.take i) + nth l i % 128 * 128 ^ i := by
  induction l generalizing i with
  | nil => simp at h
  | cons b l ih =>
    cases i with
    | zero => simp [val, nth_zero]
    | succ i =>
      have ih := ih i (by simpa using h)
      rw [List.take_succ_cons, List.take_succ_cons, val, val, ih, nth_succ, Nat.pow_succ]
      generalize nth l i % 128 = d
      generalize val (l.take i) = v
      rw [Nat.mul_add, Nat.mul_comm (128 ^ i) 128, ← Nat.mul_assoc d, Nat.mul_comm d 128, Nat.mul_assoc 128 d, Nat.add_assoc]
theorem val_take_lt (l : List UInt8) (i : Nat) : val (l.take i) < 128 ^ i := by
  induction l generalizing i with
  | nil => simp [val]; exact Nat.pow_pos (by omega)
  | cons b l ih =>
    cases i with
    | zero => simp [val]
    | succ i =>
      have ih := ih i
      rw [List.take_succ_cons, val, Nat.pow_succ]
      generalize 128 ^ i = P at *
      omega

theorem pow_seven (i : Nat) : (2 : Int) ^ (7 * i) = ((128 ^ i : Nat) : Int) := by
  rw [Int.pow_mul]
  push_cast
  rfl
theorem shl_or (m c i : Nat) (hm : m < 128 ^ i) (hc : m + c * 128 ^ i < 18446744073709551616) : bits .or .u64 (m : Int) (IntKind.u64.wrap ((c : Int) * 2 ^ (7 * i))) = ((m + c * 128 ^ i : Nat) : Int) := by
  have e : (c : Int) * 2 ^ (7 * i) = ((c * 128 ^ i : Nat) : Int) := by rw [pow_seven, Int.natCast_mul]
  rw [e, IntWalk.u64_in _ ⟨by omega, by omega⟩, bits_or_u64_nat _ _ (by omega) (by omega)]
  congr 1
  have e2 : (128 : Nat) ^ i = 2 ^ (7 * i) := by rw [Nat.pow_mul]
  rw [e2] at hm ⊢
  have := Nat.shiftLeft_add_eq_or_of_lt hm c
  rw [Nat.shiftLeft_eq] at this
  rw [Nat.or_comm, ← this, Nat.add_comm]
theorem or_some (m : Nat) (x : Int) (hm : m < 18446744073709551616) : ∃ m' : Nat, bits .or .u64 (m : Int) (IntKind.u64.wrap x) = (m' : Int) ∧ m' < 18446744073709551616 := by
  rw [IntKind.wrap_u64]
  have h0 : 0 ≤ x % 18446744073709551616 := by omega
  have h1 : x % 18446744073709551616 < 18446744073709551616 := by omega
  generalize x % 18446744073709551616 = y at *
  obtain ⟨y, rfl⟩ := Int.eq_ofNat_of_zero_le h0
  refine ⟨m ||| y, bits_or_u64_nat _ _ hm (by omega), ?_⟩
  exact Nat.or_lt_two_pow (n := 64) (by omega) (by omega)

theorem pow_nine {i : Nat} (h : i ≤ 9) : 128 ^ i ≤ 9223372036854775808 := by
  have := Nat.pow_le_pow_right (n := 128) (by omega) h
  rwa [nine] at this

/-- one more digit that is not the last -/
theorem step_high (l : List UInt8) (m i b : Nat) (hb : 128 ≤ b) (hb2 : b < 256) (hx : nth l i = b) (hi : i < l.length) (h10 : i < 10) (hm : m < 18446744073709551616) (hv : i ≤ 9 → m = val (l.take i)) :
    ∃ m' : Nat, bits .or .u64 (m : Int) (IntKind.u64.wrap (((b : Int) - 128) * 2 ^ (7 * i))) = (m' : Int) ∧ m' < 18446744073709551616 ∧ (i + 1 ≤ 9 → m' = val (l.take (i + 1))) := by
  by_cases h8 : i ≤ 8
  · have e : (b : Int) - 128 = ((b - 128 : Nat) : Int) := by omega
    have hv := hv (by omega)
    have hlt := val_take_lt l i
    have hp : 128 ^ (i + 1) ≤ 9223372036854775808 := pow_nine (by omega)
    have hlt2 := val_take_lt l (i + 1)
    have hs := val_take l i hi
    rw [hx, show b % 128 = b - 128 from by omega, ← hv] at hs
    refine ⟨m + (b - 128) * 128 ^ i, ?_, by omega, fun _ => hs.symm⟩
    rw [e]
    exact shl_or m (b - 128) i (by omega) (by omega)
  · obtain ⟨m', h1, h2⟩ := or_some m (((b : Int) - 128) * 2 ^ (7 * i)) hm
    exact ⟨m', h1, h2, fun h => by omega⟩

/-- the last digit -/
theorem step_last (l : List UInt8) (m i b : Nat) (hb : b < 128) (hx : nth l i = b) (hi : i < l.length) (h10 : i < 10) (hok : okLast i b = true) (hv : i ≤ 9 → m = val (l.take i)) :
    bits .or .u64 (m : Int) (IntKind.u64.wrap ((b : Int) * 2 ^ (7 * i))) = ((val (l.take (i + 1)) : Nat) : Int) := by
  have hv := hv (by omega)
  have hlt := val_take_lt l i
  have hs := val_take l i hi
  rw [hx, show b % 128 = b from by omega, ← hv] at hs
  rw [hs]
  refine shl_or m b i (by omega) ?_
  unfold okLast at hok
  rw [decide_eq_true_eq] at hok
  by_cases h8 : i ≤ 8
  · have hp : 128 ^ (i + 1) ≤ 9223372036854775808 := pow_nine (by omega)
    have hlt2 := val_take_lt l (i + 1)
    omega
  · have e9 : i = 9 := by omega
    subst e9
    rw [nine] at *
    omega

theorem ret3 {a a' b b' c c' : Value} (h1 : a = a') (h2 : b = b') (h3 : c = c') : Ending.returned (.tuple #[a, b, c]) = .returned (.tuple #[a', b', c']) := by rw [h1, h2, h3]

theorem rd_form {l : List UInt8} {i : Nat} (h : high l = i) (h10 : 10 ≤ i) : rd l = (0, 0, 21) := by unfold rd; rw [if_pos (by omega)]
theorem rd_short {l : List UInt8} {i : Nat} (h : high l = i) (h10 : i < 10) (he : l.length = i) : rd l = (0, 0, 20) := by unfold rd; rw [if_neg (by omega), if_pos (by omega)]
theorem rd_bad {l : List UInt8} {i : Nat} (h : high l = i) (h10 : i < 10) (hi : i < l.length) (hok : okLast i (nth l i) = false) : rd l = (0, 0, 21) := by unfold rd; rw [if_neg (by omega), if_neg (by omega), h, if_neg (by rw [hok]; decide)]
theorem rd_good {l : List UInt8} {i : Nat} (h : high l = i) (h10 : i < 10) (hi : i < l.length) (hok : okLast i (nth l i) = true) : rd l = (val (l.take (i + 1)), i + 1, 0) := by unfold rd; rw [if_neg (by omega), if_neg (by omega), h, if_pos hok]

/-- what Get tells at a place within the text -/
def gets (l : List UInt8) (p : Nat) : Nat × Nat × Nat := if (rd (l.drop p)).2.2 = 0 then ((rd (l.drop p)).1, p + (rd (l.drop p)).2.1, 0) else (0, 0, (rd (l.drop p)).2.2)
theorem gets_err {l : List UInt8} {p e : Nat} (h : rd (l.drop p) = (0, 0, e)) (he : e ≠ 0) : gets l p = (0, 0, e) := by unfold gets; rw [h]; simp [he]
theorem gets_ok {l : List UInt8} {p n k : Nat} (h : rd (l.drop p) = (n, k, 0)) : gets l p = (n, p + k, 0) := by unfold gets; rw [h]; simp

set_option maxHeartbeats 1000000 in
set_option maxRecDepth 100000 in
theorem get_in (s : ByteArray) (p : Nat) (hs : s.size ≤ 1125899906842624) (hp : p ≤ s.size) (n to e : Nat) (h : gets s.data.toList p = (n, to, e)) : GetIs s p n to e := by
  intro w
  have HR : Hid (gets s.data.toList p = (n, to, e)) := h
  clear h
  go_enter Tryd.func34, Tryd.ntmps34
  go_wp2_with (go_at_call 44; refine (outside_no s p hp _).mono ?_; rintro e w1 ⟨rfl, rfl⟩)
  go_loop [7, 13] (fun u v => ∃ m i : Nat, u = .int .u64 m ∧ v = .int .i64 i ∧ i ≤ 10 ∧ p + i ≤ s.size ∧ m < 18446744073709551616 ∧ Hid (i ≤ 9 → m = val ((s.data.toList.drop p).take i)) ∧ Hid (∀ j, j < i → 128 ≤ nth (s.data.toList.drop p) j)) (fun _ v => 10 - (intOf v).toNat)
  case atStart => exact ⟨0, 0, rfl, rfl, by omega, by omega, by omega, fun _ => rfl, fun j hj => by omega⟩
  case round =>
    obtain ⟨m, i, rfl, rfl, hi, hpi, hm, HM, HF⟩ := hrel
    by_cases h10 : 10 ≤ i
    · have HE : Hid ((0, 0, 21) = (n, to, e)) := by
        show _ = _
        rw [← HR.out]
        have := high_ge _ i (by rw [drop_length]; omega) HF.out
        exact (gets_err (rd_form rfl (by omega)) (by omega)).symm
      clear HR HM HF
      go_wp2
      go_ret3
      have HE := HE.out
      simp only [Prod.mk.injEq] at HE
      obtain ⟨rfl, rfl, rfl⟩ := HE
      exact ⟨rfl, rfl⟩
    · have hi9 : i < 10 := by omega
      by_cases hend : p + i = s.size
      · have HE : Hid ((0, 0, 20) = (n, to, e)) := by
          show _ = _
          rw [← HR.out]
          have := high_eq _ i (by rw [drop_length]; omega) HF.out (by rw [drop_length]; omega)
          exact (gets_err (rd_short this hi9 (by rw [drop_length]; omega)) (by omega)).symm
        clear HR HM HF
        go_wp2
        go_ret3
        have HE := HE.out
        simp only [Prod.mk.injEq] at HE
        obtain ⟨rfl, rfl, rfl⟩ := HE
        exact ⟨rfl, rfl⟩
      · have hin : p + i < s.size := by omega
        have hx : Hid (nth (s.data.toList.drop p) i = s[p + i].toNat) := nth_at s p i hin
        have hx1 : s[p + i].toNat < 256 := s[p + i].toNat_lt
        have hil : Hid (i < (s.data.toList.drop p).length) := by show _ < _; rw [drop_length]; omega
        by_cases hb : 128 ≤ s[p + i].toNat
        · obtain ⟨m', e1, e2, e3⟩ := step_high _ m i _ hb hx1 hx.out hil.out hi9 hm HM.out
          have E1 : Hid (bits .or .u64 (m : Int) (IntKind.u64.wrap (((s[p + i].toNat : Int) - 128) * 2 ^ (7 * i))) = (m' : Int)) := e1
          have E3 : Hid (i + 1 ≤ 9 → m' = val ((s.data.toList.drop p).take (i + 1))) := e3
          have HF2 : Hid (∀ j, j < i + 1 → 128 ≤ nth (s.data.toList.drop p) j) := fun j hj => by
            by_cases hj2 : j = i
            · subst hj2; rw [hx.out]; exact hb
            · exact HF.out j (by omega)
          clear e1 e3 HM HF HR
          go_wp2
          go_round
          case rel => exact ⟨m', i + 1, by rw [E1.out], by go_num, by omega, by omega, e2, E3, HF2⟩
          case measure => simp [intOf]; omega
        · have hhi : Hid (high (s.data.toList.drop p) = i) := high_eq _ i (by rw [drop_length]; omega) HF.out (fun _ => by rw [hx.out]; omega)
          by_cases hok : okLast i s[p + i].toNat = true
          · have HE : Hid ((val ((s.data.toList.drop p).take (i + 1)), p + (i + 1), 0) = (n, to, e)) := by
              show _ = _
              rw [← HR.out]
              exact (gets_ok (rd_good hhi.out hi9 hil.out (by rw [hx.out]; exact hok))).symm
            have E1 := step_last _ m i _ (by omega) hx.out hil.out hi9 hok HM.out
            have E1' : Hid (bits .or .u64 (m : Int) (IntKind.u64.wrap ((s[p + i].toNat : Int) * 2 ^ (7 * i))) = ((val ((s.data.toList.drop p).take (i + 1)) : Nat) : Int)) := E1
            clear HR HM HF E1
            go_wp2_with (go_at_call 45; refine (last_any s[p + i].toNat i _).mono ?_; rintro e w1 ⟨rfl, rfl⟩)
            go_ret3
            have HE := HE.out
            simp only [Prod.mk.injEq] at HE
            obtain ⟨rfl, rfl, rfl⟩ := HE
            exact ⟨ret3 (by rw [E1'.out]; rfl) (by show Value.int .i64 _ = Value.int .i64 _; go_num) rfl, rfl⟩
          · have hok' : okLast i s[p + i].toNat = false := by simpa using hok
            have HE : Hid ((0, 0, 21) = (n, to, e)) := by
              show _ = _
              rw [← HR.out]
              exact (gets_err (rd_bad hhi.out hi9 hil.out (by rw [hx.out]; exact hok')) (by omega)).symm
            clear HR HM HF hok
            go_wp2_with (go_at_call 45; refine (last_any s[p + i].toNat i _).mono ?_; rintro e w1 ⟨rfl, rfl⟩)
            go_ret3
            have HE := HE.out
            simp only [Prod.mk.injEq] at HE
            obtain ⟨rfl, rfl, rfl⟩ := HE
            exact ⟨rfl, rfl⟩
end Go.Proofs.YtdekkjnlmlkbdaaDoor.num
