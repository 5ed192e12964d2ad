/-
  Contracts over this program: a register's product (sum.times, sum.nought), and many bytes that are 0 at once (sum.Noughts).
-/
import Derived.Test.YtncaaodiaibacaaShort
namespace Go.Proofs.Ytncaaodiaibacaa.crc
open Go.ChangeShapes Go.WideShapes Go.ChangeAt Go.RowKit
set_option linter.unusedVariables false

theorem and_one (a : Nat) (h : a < 4294967296) : bits .and .u32 (a : Int) 1 = ((a % 2 : Nat) : Int) := by
  have := u32_and_nat a 1 h (by omega)
  rw [Nat.and_one_is_mod] at this
  exact this
theorem and_one64 (a : Nat) (h : a < 18446744073709551616) : bits .and .u64 (a : Int) 1 = ((a % 2 : Nat) : Int) := by
  have := u64_and_nat a 1 h (by omega)
  rw [Nat.and_one_is_mod] at this
  exact this

def NoughtIs (r n : Nat) : Prop := ∀ w, Calls Try.prog 23 #[.int .u32 r] w fun e w' => e = .returned (.int .u32 n) ∧ w' = w
theorem nought_is (r n : Nat) (hr : r < 4294967296) (hn : n = nt r) : NoughtIs r n := by
  intro w
  have ha := and_one r hr
  by_cases h : r % 2 = 1
  · have e : n = r / 2 ^^^ 3988292384 := by rw [hn, nt, if_pos h]
    have hx := xor_poly (r / 2) (by omega)
    rw [← e] at hx
    have HX : bits .xor .u32 ((r : Int) / 2) 3988292384 = (n : Int) := by simpa using hx
    rw [h] at ha
    clear e hx hn
    go_enter Try.func23, Try.ntmps23
    go_wp2
    go_ret
    exact ⟨rfl, rfl⟩
  · have e : n = r / 2 := by rw [hn, nt, if_neg h]
    have h0 : r % 2 = 0 := by omega
    rw [h0] at ha
    clear hn
    subst e
    go_enter Try.func23, Try.ntmps23
    go_wp2
    go_ret
    exact ⟨by simp, rfl⟩

def TimesIs (a b n : Nat) : Prop := ∀ w, Calls Try.prog 22 #[.int .u32 a, .int .u32 b] w fun e w' => e = .returned (.int .u32 n) ∧ w' = w

/-- how many of a number's beginnings, of up to k bits, are not 0 -/
def mu (x : Nat) : Nat → Nat
  | 0 => 0
  | k + 1 => mu x k + if x % 2 ^ (k + 1) = 0 then 0 else 1
theorem mu_twice (x k : Nat) (hk : k ≤ 31) : mu (x * 2 % 4294967296) (k + 1) = mu x k := by
  have hm : ∀ j, j ≤ 31 → x * 2 % 4294967296 % 2 ^ (j + 1) = 2 * (x % 2 ^ j) := by
    intro j hj
    rw [show 4294967296 = 2 ^ 32 from rfl, Nat.mod_mod_of_dvd _ (Nat.pow_dvd_pow 2 (by omega)), Nat.pow_succ, Nat.mul_comm (2 ^ j) 2, Nat.mul_comm x 2, Nat.mul_mod_mul_left]
  induction k with
  | zero =>
    rw [mu, mu, hm 0 (by omega)]
    simp [mu, Nat.mod_one]
  | succ k ih =>
    rw [mu, ih (by omega), hm (k + 1) hk, mu]
    congr 1
    by_cases h : x % 2 ^ (k + 1) = 0
    · rw [if_pos h, if_pos (by omega)]
    · rw [if_neg h, if_neg (by omega)]
theorem mu_less (x : Nat) (h0 : 0 < x) (hx : x < 4294967296) : mu (x * 2 % 4294967296) 32 < mu x 32 := by
  rw [mu_twice x 31 (by omega)]
  show mu x 31 < mu x 31 + if x % 2 ^ 32 = 0 then 0 else 1
  rw [if_neg (by omega)]
  omega

/-- one round of the product, as the walk writes it -/
theorem times_round (x y z k m n : Nat) (hx : x < 4294967296) (hy : y < 4294967296) (hz : z < 4294967296) (h1 : y = nts (m + k) 2147483648) (h2 : z ^^^ nts (m + k) x = n) :
    ∃ x' y' z' : Nat, (x : Int) * 2 % 4294967296 = (x' : Int) ∧ x' = x * 2 % 4294967296 ∧ x' < 4294967296 ∧ NoughtIs y y' ∧ y' < 4294967296 ∧ z' < 4294967296 ∧ (2147483648 ≤ x → bits .xor .u32 (z : Int) (y : Int) = (z' : Int)) ∧ (x < 2147483648 → z' = z) ∧ y' = nts (m + (k + 1)) 2147483648 ∧ z' ^^^ nts (m + (k + 1)) x' = n := by
  have ht := times_step z x (m + k) hx
  rw [h2] at ht
  have hyn : nt y = nts (m + (k + 1)) 2147483648 := by rw [h1, ← nts_succ]; rfl
  by_cases h : x / 2147483648 = 1
  · rw [if_pos h, ← h1] at ht
    exact ⟨x * 2 % 4294967296, nt y, z ^^^ y, by omega, rfl, by omega, nought_is y _ hy rfl, nt_lt hy, xor_lt hz hy, fun _ => u32_xor_nat z y hz hy, fun h' => by omega, hyn, ht.symm⟩
  · rw [if_neg h] at ht
    exact ⟨x * 2 % 4294967296, nt y, z, by omega, rfl, by omega, nought_is y _ hy rfl, nt_lt hy, hz, fun h' => by omega, fun _ => rfl, hyn, ht.symm⟩

set_option maxRecDepth 100000 in
set_option maxHeartbeats 1000000 in
theorem times_is (a b m n : Nat) (ha : a < 4294967296) (hb : b = nts m 2147483648) (hn : n = nts m a) : TimesIs a b n := by
  intro w
  have hbl : b < 4294967296 := by rw [hb]; exact nts_lt _ (by omega)
  have HB : Hid (b = nts m 2147483648) := hb
  have HN : Hid (0 ^^^ nts m a = n) := by show _ = _; rw [Nat.zero_xor, hn]
  clear hb hn
  go_enter Try.func22, Try.ntmps22
  go_wp2
  go_loop [0, 1, 5] (fun u v o => ∃ (x y z k : Nat), u = .int .u32 x ∧ v = .int .u32 y ∧ o = .int .u32 z ∧ x < 4294967296 ∧ y < 4294967296 ∧ z < 4294967296 ∧ Hid (y = nts (m + k) 2147483648) ∧ Hid (z ^^^ nts (m + k) x = n)) (fun u _ _ => mu (intOf u).toNat 32)
  case atStart => exact ⟨a, b, 0, 0, rfl, rfl, rfl, ha, hbl, by omega, HB, HN⟩
  case round =>
    clear HB HN
    obtain ⟨x, y, z, k, rfl, rfl, rfl, hx, hy, hz, HY, HZ⟩ := hrel
    by_cases h0 : 0 < x
    · obtain ⟨x', y', z', e1, e2, hx', hno, hy', hz', hz1, hz2, e3, e4⟩ := times_round x y z k m n hx hy hz HY.out HZ.out
      have HM : Hid (mu x' 32 < mu x 32) := by
        show _ < _
        rw [e2]
        exact mu_less x h0 hx
      have H3 : Hid (y' = nts (m + (k + 1)) 2147483648) := e3
      have H4 : Hid (z' ^^^ nts (m + (k + 1)) x' = n) := e4
      clear HY HZ e2 e3 e4
      by_cases h1 : 2147483648 ≤ x
      · have hq : (x : Int) / 2147483648 = 1 := by omega
        have hb1 := hz1 h1
        clear hz1 hz2
        go_wp2_with (go_at_call 23; refine (hno _).mono ?_; rintro e w1 ⟨rfl, rfl⟩)
        go_round
        case rel => exact ⟨x', y', z', k + 1, by rw [e1], rfl, rfl, hx', hy', hz', H3, H4⟩
        case measure => simp only [intOf]; rw [e1, Int.toNat_natCast, Int.toNat_natCast]; exact HM.out
      · have hq : (x : Int) / 2147483648 = 0 := by omega
        obtain rfl := hz2 (by omega)
        have e5 : (x : Int) * 2 = (x' : Int) := by omega
        clear hz1 hz2
        go_wp2_with (go_at_call 23; refine (hno _).mono ?_; rintro e w1 ⟨rfl, rfl⟩)
        go_round
        case rel => exact ⟨x', y', z', k + 1, rfl, rfl, rfl, hx', hy', hz', H3, H4⟩
        case measure => simp only [intOf]; rw [Int.toNat_natCast, Int.toNat_natCast]; exact HM.out
    · have HE : Hid (z = n) := by
        show _ = _
        rw [← HZ.out, show x = 0 from by omega, nts_of_zero, Nat.xor_zero]
      clear HY HZ
      go_wp2
      go_ret
      exact ⟨by rw [← HE.out]; rfl, rfl⟩

def NoughtsIs (c k n : Nat) : Prop := ∀ w, Calls Try.prog 15 #[.int .u32 c, .int .u64 k] w fun e w' => e = .returned (.int .u32 n) ∧ w' = w

/-- one round of many bytes 0 -/
theorem noughts_round (r y p k n : Nat) (hr : r < 4294967296) (h1 : y = nts (8 * p) 2147483648) (h2 : nts (8 * (p * k)) r = n) :
    ∃ r' y' : Nat, TimesIs y y y' ∧ y' < 4294967296 ∧ r' < 4294967296 ∧ (k % 2 = 1 → TimesIs r y r') ∧ (k % 2 = 0 → r' = r) ∧ y' = nts (8 * (p * 2)) 2147483648 ∧ nts (8 * (p * 2 * (k / 2))) r' = n := by
  have hy : y < 4294967296 := by rw [h1]; exact nts_lt _ (by omega)
  have hyy : nts (8 * p) y = nts (8 * (p * 2)) 2147483648 := by rw [h1, ← nts_add]; congr 1; omega
  by_cases h : k % 2 = 1
  · refine ⟨nts (8 * p) r, nts (8 * p) y, times_is y y (8 * p) _ hy h1 rfl, nts_lt _ hy, nts_lt _ hr, fun _ => times_is r y (8 * p) _ hr h1 rfl, fun h' => by omega, hyy, ?_⟩
    rw [← nts_add, ← h2]
    congr 1
    obtain ⟨j, rfl⟩ : ∃ j, k = 2 * j + 1 := ⟨k / 2, by omega⟩
    rw [show (2 * j + 1) / 2 = j from by omega, Nat.mul_add p, Nat.mul_assoc p 2 j]
    omega
  · refine ⟨r, nts (8 * p) y, times_is y y (8 * p) _ hy h1 rfl, nts_lt _ hy, hr, fun h' => by omega, fun _ => rfl, hyy, ?_⟩
    rw [← h2]
    congr 1
    obtain ⟨j, rfl⟩ : ∃ j, k = 2 * j := ⟨k / 2, by omega⟩
    rw [show 2 * j / 2 = j from by omega, Nat.mul_assoc p 2 j]

set_option maxRecDepth 100000 in
set_option maxHeartbeats 1000000 in
theorem noughts_any (c k : Nat) (hc : c < 4294967296) (hk : k < 18446744073709551616) : NoughtsIs c k (4294967295 - nts (8 * k) (4294967295 - c)) := by
  intro w
  obtain ⟨n, hn⟩ : ∃ n, n = nts (8 * k) (4294967295 - c) := ⟨_, rfl⟩
  have hT := turn_all c hc
  obtain ⟨r0, hr0⟩ : ∃ r0, r0 = 4294967295 - c := ⟨_, rfl⟩
  rw [← hr0] at hT
  rw [← hn]
  rw [← hr0] at hn
  have hr : r0 < 4294967296 := by omega
  have H0 : Hid (nts (8 * (1 * k)) r0 = n) := by show _ = _; rw [Nat.one_mul, hn]
  clear hr0 hn
  go_enter Try.func15, Try.ntmps15
  go_wp2
  go_loop [1, 5, 6] (fun u v o => ∃ (q r y p : Nat), u = .int .u64 q ∧ v = .int .u32 r ∧ o = .int .u32 y ∧ q < 18446744073709551616 ∧ r < 4294967296 ∧ y < 4294967296 ∧ Hid (y = nts (8 * p) 2147483648) ∧ Hid (nts (8 * (p * q)) r = n)) (fun u _ _ => (intOf u).toNat)
  case atStart => exact ⟨k, r0, 8388608, 1, rfl, rfl, rfl, hk, hr, by omega, by show _ = _; decide, H0⟩
  case round =>
    clear H0
    obtain ⟨q, r, y, p, rfl, rfl, rfl, hq, hrl, hy, HY, HZ⟩ := hrel
    by_cases h0 : 0 < q
    · obtain ⟨r', y', hty, hy', hr', ht1, ht2, e1, e2⟩ := noughts_round r y p q n hrl HY.out HZ.out
      have H1 : Hid (y' = nts (8 * (p * 2)) 2147483648) := e1
      have H2 : Hid (nts (8 * (p * 2 * (q / 2))) r' = n) := e2
      have ha := and_one64 q hq
      clear HY HZ e1 e2
      by_cases h1 : q % 2 = 1
      · rw [h1] at ha
        have ht : ∀ w, Calls Try.prog 22 #[.int .u32 r, .int .u32 y] w fun e w' => e = .returned (.int .u32 r') ∧ w' = w := ht1 h1
        have hty2 : ∀ w, Calls Try.prog 22 #[.int .u32 y, .int .u32 y] w fun e w' => e = .returned (.int .u32 y') ∧ w' = w := hty
        clear ht1 ht2 h1
        go_wp2_with (first | (go_at_call 22; with_reducible refine (ht _).mono ?_; rintro e w1 ⟨rfl, rfl⟩) | (go_at_call 22; with_reducible refine (hty2 _).mono ?_; rintro e w1 ⟨rfl, rfl⟩))
        go_round
        case rel => exact ⟨q / 2, r', y', p * 2, by go_num, rfl, rfl, by omega, hr', hy', H1, H2⟩
        case measure => simp [intOf]; omega
      · have h1' : q % 2 = 0 := by omega
        rw [h1'] at ha
        obtain rfl := ht2 h1'
        clear ht1 ht2 h1 h1'
        go_wp2_with (first | (go_at_call 22; refine (hty _).mono ?_; rintro e w1 ⟨rfl, rfl⟩))
        go_round
        case rel => exact ⟨q / 2, r', y', p * 2, by go_num, rfl, rfl, by omega, hr', hy', H1, H2⟩
        case measure => simp [intOf]; omega
    · have HE : Hid (r = n) := by
        show _ = _
        rw [← HZ.out, show q = 0 from by omega]
        rfl
      have hT2 := turn_all r hrl
      clear HY HZ
      go_wp2
      go_ret
      exact ⟨by rw [← HE.out]; rfl, rfl⟩
end Go.Proofs.Ytncaaodiaibacaa.crc
