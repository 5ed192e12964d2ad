/-
  Contracts over this program: the document's steps, bit by bit, over a text and over bytes that are 0 (fretsawref03's step, On, Of, Noughts), and the law's own short and alive.
-/
import Derived.Test.YtjnjjbacfodacaaTab
namespace Go.Proofs.Ytjnjjbacfodacaa.crc
open Go.ChangeShapes Go.WideShapes Go.ChangeAt Go.RowKit
set_option linter.unusedVariables false

theorem xor_poly (a : Nat) (h : a < 4294967296) : bits .xor .u32 (a : Int) 3988292384 = ((a ^^^ 3988292384 : Nat) : Int) := u32_xor_nat a 3988292384 h (by omega)

def StepIs (c d n : Nat) : Prop := ∀ w, Calls Try.prog 48 #[.int .u32 c, .int .u32 d] w fun e w' => e = .returned (.int .u32 n) ∧ w' = w
theorem step_is (c d n : Nat) (hc : c < 4294967296) (hd : d < 4294967296) (hn : n = stp c d) : StepIs c d n := by
  intro w
  by_cases h : c % 2 = d
  · have e : n = c / 2 := by rw [hn, stp, if_neg (by omega)]
    clear hn
    subst e
    have h2 : decide ((c : Int) % 2 = (d : Int)) = true := by simp; omega
    go_enter Try.func48, Try.ntmps48
    go_wp2
    go_ret
    exact ⟨by simp, rfl⟩
  · have e : n = c / 2 ^^^ 3988292384 := by rw [hn, stp, if_pos h]
    clear hn
    have h2 : decide ((c : Int) % 2 = (d : Int)) = false := by simp; omega
    have hx := xor_poly (c / 2) (by omega)
    rw [← e] at hx
    have HX : bits .xor .u32 ((c : Int) / 2) 3988292384 = (n : Int) := by simpa using hx
    clear e hx
    go_enter Try.func48, Try.ntmps48
    go_wp2
    go_ret
    exact ⟨rfl, rfl⟩

theorem inner_step (x b k t : Nat) (hx : x < 4294967296) (hk : k < 8) (hb : b < 2 ^ (8 - k)) (h : nts (8 - k) (x ^^^ b) = t) :
    ∃ d y z : Nat, (b : Int) % 2 = (d : Int) ∧ (b : Int) / 2 = (z : Int) ∧ StepIs x d y ∧ y < 4294967296 ∧ z < 4294967296 ∧ z < 2 ^ (8 - (k + 1)) ∧ nts (8 - (k + 1)) (y ^^^ z) = t := by
  have hp : 2 ^ (8 - k) = 2 * 2 ^ (8 - (k + 1)) := by rw [show 8 - k = 8 - (k + 1) + 1 from by omega, Nat.pow_succ, Nat.mul_comm]
  have hq : 2 ^ (8 - (k + 1)) ≤ 2 ^ 8 := Nat.pow_le_pow_right (by omega) (by omega)
  refine ⟨b % 2, stp x (b % 2), b / 2, by omega, by omega, step_is x (b % 2) _ hx (by omega) rfl, stp_lt _ hx, by omega, by omega, ?_⟩
  rw [stp_low, ← h, show 8 - k = 8 - (k + 1) + 1 from by omega]
  rfl

def ROnIs (c : Nat) (s : ByteArray) (n : Nat) : Prop := ∀ w, Calls Try.prog 40 #[.int .u32 c, .string s] w fun e w' => e = .returned (.int .u32 n) ∧ w' = w

set_option maxRecDepth 100000 in
set_option maxHeartbeats 1000000 in
theorem ron_any (c : Nat) (s : ByteArray) (hc : c < 4294967296) (hs : s.size ≤ 1125899906842624) : ROnIs c s (4294967295 - reg (4294967295 - c) s.data.toList) := by
  intro w
  obtain ⟨r0, hr0⟩ : ∃ r0, r0 = 4294967295 - c := ⟨_, rfl⟩
  have hT : 4294967295 - (c : Int) = (r0 : Int) := by omega
  have hr : r0 < 4294967296 := by omega
  have H0 : Hid (r0 = 4294967295 - c) := hr0
  clear hr0
  go_enter Try.func40, Try.ntmps40
  go_wp2
  go_loop [0, 5] (fun u v => ∃ (r i : Nat), u = .int .u32 r ∧ v = .int .i64 i ∧ i ≤ s.size ∧ r < 4294967296 ∧ Hid (r = reg r0 (s.data.toList.take i))) (fun _ v => s.size - (intOf v).toNat)
  case atStart => exact ⟨r0, 0, rfl, rfl, by omega, hr, by show _ = _; rw [List.take_zero, reg_nil]⟩
  case round =>
    obtain ⟨r, i, rfl, rfl, hi, hrl, HR⟩ := hrel
    by_cases h : s.size ≤ i
    · have HE : Hid (r = reg (4294967295 - c) s.data.toList) := by
        show _ = _
        rw [HR.out, H0.out, List.take_of_length_le (by simpa using h)]
      have hT2 : 4294967295 - (r : Int) = ((4294967295 - r : Nat) : Int) := by omega
      clear HR H0
      go_wp2
      go_ret
      exact ⟨by rw [← HE.out]; rfl, rfl⟩
    · have hin : i < s.size := by omega
      have HN : Hid (nts 8 (r ^^^ s[i].toNat) = reg r0 (s.data.toList.take (i + 1))) := by
        show _ = _
        rw [take_more s i hin, ← HR.out]
      obtain ⟨b0, hb0⟩ : ∃ b0, b0 = s[i].toNat := ⟨_, rfl⟩
      have hb2 : (s[i].toNat : Int) = (b0 : Int) := by rw [hb0]
      have hbl : b0 < 256 := by rw [hb0]; exact s[i].toNat_lt
      rw [← hb0] at HN
      obtain ⟨t, ht⟩ : ∃ t, t = nts 8 (r ^^^ b0) := ⟨_, rfl⟩
      have HT : Hid (nts 8 (r ^^^ b0) = t) := ht.symm
      rw [← ht] at HN
      clear HR ht hb0
      go_wp2
      go_loop [0, 6, 7] (fun u v z => ∃ (x b k : Nat), u = .int .u32 x ∧ v = .int .u32 b ∧ z = .int .i64 k ∧ k ≤ 8 ∧ x < 4294967296 ∧ b < 4294967296 ∧ Hid (b < 2 ^ (8 - k)) ∧ Hid (nts (8 - k) (x ^^^ b) = t)) (fun _ _ z => 8 - (intOf z).toNat)
      case atStart => exact ⟨r, b0, 0, rfl, rfl, rfl, by omega, hrl, by omega, hbl, HT⟩
      case round =>
        obtain ⟨x, b, k, rfl, rfl, rfl, hk, hxl, hbl2, HB, HK⟩ := hrel
        by_cases h8 : 8 ≤ k
        · have HE : Hid (x = t) := by
            show _ = _
            have h1 := HB.out
            have h2 := HK.out
            rw [show 8 - k = 0 from by omega] at h1 h2
            rw [show b = 0 from by omega, Nat.xor_zero] at h2
            exact h2
          clear HB HK HT
          go_wp2
          go_round
          case rel => exact ⟨x, i + 1, rfl, by go_num, by omega, hxl, by show x = _; rw [HE.out, HN.out]⟩
          case measure => simp [intOf]; omega
        · obtain ⟨d, y, z, e1, e2, hst, hy, hz, hz2, hz3⟩ := inner_step x b k t hxl (by omega) HB.out HK.out
          have HZ : Hid (z < 2 ^ (8 - (k + 1))) := hz2
          have HY : Hid (nts (8 - (k + 1)) (y ^^^ z) = t) := hz3
          clear HB HK HT hz2 hz3
          go_wp2_with (go_at_call 48; refine (hst _).mono ?_; rintro e w1 ⟨rfl, rfl⟩)
          go_round
          case rel => exact ⟨y, z, k + 1, rfl, rfl, by go_num, by omega, hy, hz, HZ, HY⟩
          case measure => simp [intOf]; omega

def ROfIs (s : ByteArray) (n : Nat) : Prop := ∀ w, Calls Try.prog 24 #[.string s] w fun e w' => e = .returned (.int .u32 n) ∧ w' = w
theorem rof_any (s : ByteArray) (hs : s.size ≤ 1125899906842624) : ROfIs s (4294967295 - reg 4294967295 s.data.toList) := by
  intro w
  have h := ron_any 0 s (by omega) hs
  go_enter Try.func24, Try.ntmps24
  go_wp2_with (go_at_call 40; refine (h _).mono ?_; rintro e w1 ⟨rfl, rfl⟩)
  go_ret
  exact ⟨rfl, rfl⟩

/-- a byte that is 0, as the document's On steps over it -/
theorem ron_zero (x y : Nat) (hx : x < 4294967296) (hy : y = 4294967295 - nts 8 (4294967295 - x)) : ROnIs x ⟨#[0]⟩ y := by
  have h := ron_any x ⟨#[0]⟩ hx (by decide)
  have e : reg (4294967295 - x) (ByteArray.mk #[0]).data.toList = nts 8 (4294967295 - x) := by
    show reg (4294967295 - x) [0] = _
    rw [reg_cons, reg_nil]
    show nts 8 ((4294967295 - x) ^^^ 0) = _
    rw [Nat.xor_zero]
  rw [e, ← hy] at h
  exact h

end Go.Proofs.Ytjnjjbacfodacaa.crc
