import Derived.Test.YtjdgcnednaeogaaRows
import Derived.WalkKit
import Derived.ProofKit
import Derived.OpenShut
namespace Go.Proofs.Ytjdgcnednaeogaa.cnt
open Go.ChangeShapes Go.WideShapes Go.ChangeAt Go.RowKit
set_option linter.unusedVariables false

theorem add_neg (a b : Int) (w : World) (h : a < 0 ∨ b < 0) :
    Calls Try.prog 20 #[.int .i64 a, .int .i64 b] w fun e w' => e = .returned (.tuple #[.int .i64 0, .int .i64 1]) ∧ w' = w := by
  by_cases h1 : a < 0
  · go_enter Try.func20, Try.ntmps20
    go_wp2
    go_ret2
    exact ⟨rfl, rfl⟩
  · have h2 : b < 0 := by omega
    go_enter Try.func20, Try.ntmps20
    go_wp2
    go_ret2
    exact ⟨rfl, rfl⟩

theorem add_over (a b : Int) (w : World) (h0 : 0 ≤ a) (h1 : 0 ≤ b) (h3 : b ≤ 9223372036854775807) (h2 : 4611686018427387904 < a + b) :
    Calls Try.prog 20 #[.int .i64 a, .int .i64 b] w fun e w' => e = .returned (.tuple #[.int .i64 0, .int .i64 3]) ∧ w' = w := by
  go_enter Try.func20, Try.ntmps20
  go_wp2
  go_ret2
  exact ⟨rfl, rfl⟩

theorem add_ok (a b : Int) (w : World) (h0 : 0 ≤ a) (h1 : 0 ≤ b) (h2 : a + b ≤ 4611686018427387904) :
    Calls Try.prog 20 #[.int .i64 a, .int .i64 b] w fun e w' => e = .returned (.tuple #[.int .i64 (a + b), .int .i64 0]) ∧ w' = w := by
  go_enter Try.func20, Try.ntmps20
  go_wp2
  go_ret2
  exact ⟨rfl, rfl⟩

theorem radd_neg (a b : Int) (w : World) (h : a < 0 ∨ b < 0) :
    Calls Try.prog 21 #[.int .i64 a, .int .i64 b] w fun e w' => e = .returned (.tuple #[.int .i64 0, .int .i64 1]) ∧ w' = w := by
  by_cases h1 : a < 0
  · go_enter Try.func21, Try.ntmps21
    go_wp2
    go_ret2
    exact ⟨rfl, rfl⟩
  · have h2 : b < 0 := by omega
    go_enter Try.func21, Try.ntmps21
    go_wp2
    go_ret2
    exact ⟨rfl, rfl⟩

theorem radd_over (a b : Int) (w : World) (h0 : 0 ≤ a) (h1 : 0 ≤ b) (h3 : b ≤ 9223372036854775807) (h4 : a ≤ 9223372036854775807) (h2 : 4611686018427387904 < a + b) :
    Calls Try.prog 21 #[.int .i64 a, .int .i64 b] w fun e w' => e = .returned (.tuple #[.int .i64 0, .int .i64 3]) ∧ w' = w := by
  go_enter Try.func21, Try.ntmps21
  go_wp2
  go_ret2
  exact ⟨rfl, rfl⟩

theorem radd_ok (a b : Int) (w : World) (h0 : 0 ≤ a) (h1 : 0 ≤ b) (h2 : a + b ≤ 4611686018427387904) :
    Calls Try.prog 21 #[.int .i64 a, .int .i64 b] w fun e w' => e = .returned (.tuple #[.int .i64 (a + b), .int .i64 0]) ∧ w' = w := by
  go_enter Try.func21, Try.ntmps21
  go_wp2
  go_ret2
  exact ⟨rfl, rfl⟩

theorem bits_or_nat (a b : Nat) (ha : a < 9223372036854775808) (hb : b < 9223372036854775808) : bits BinOp.or IntKind.i64 (a : Int) (b : Int) = ((a ||| b : Nat) : Int) := by
  have e1 : (BitVec.ofInt 64 (a : Int)).toNat = a := by
    simp only [BitVec.ofInt_natCast, BitVec.toNat_ofNat]; omega
  have e2 : (BitVec.ofInt 64 (b : Int)).toNat = b := by
    simp only [BitVec.ofInt_natCast, BitVec.toNat_ofNat]; omega
  have hlt : a ||| b < 2 ^ 63 := Nat.or_lt_two_pow (n := 63) (by omega) (by omega)
  show IntKind.i64.wrap ((BitVec.ofInt 64 (a : Int) ||| BitVec.ofInt 64 (b : Int)).toNat) = _
  rw [BitVec.toNat_or, e1, e2, IntKind.wrap_i64]
  omega

theorem or_small (a b : Int) (h0 : 0 ≤ a) (h1 : 0 ≤ b) (h2 : a < 2147483648) (h3 : b < 2147483648) : (bits BinOp.or IntKind.i64 a b / 2147483648 == 0) = true := by
  obtain ⟨x, rfl⟩ := Int.eq_ofNat_of_zero_le h0
  obtain ⟨y, rfl⟩ := Int.eq_ofNat_of_zero_le h1
  rw [bits_or_nat x y (by omega) (by omega)]
  have hlt : x ||| y < 2 ^ 31 := Nat.or_lt_two_pow (n := 31) (by omega) (by omega)
  rw [beq_iff_eq]
  omega
theorem or_great (a b : Int) (h0 : 0 ≤ a) (h1 : 0 ≤ b) (h2 : a ≤ 9223372036854775807) (h3 : b ≤ 9223372036854775807) (h : 2147483648 ≤ a ∨ 2147483648 ≤ b) : (bits BinOp.or IntKind.i64 a b / 2147483648 == 0) = false := by
  obtain ⟨x, rfl⟩ := Int.eq_ofNat_of_zero_le h0
  obtain ⟨y, rfl⟩ := Int.eq_ofNat_of_zero_le h1
  rw [bits_or_nat x y (by omega) (by omega)]
  have hx : x ≤ x ||| y := Nat.left_le_or
  have hy : y ≤ x ||| y := Nat.right_le_or
  rw [beq_eq_false_iff_ne]
  omega

theorem ret_bool {a b : Bool} (h : a = b) : Ending.returned (.bool a) = .returned (.bool b) := by rw [h]

theorem quo_iff (a b : Int) (h0 : 0 ≤ a) (h1 : 1 ≤ b) : decide (4611686018427387904 / b < a) = decide (4611686018427387904 < a * b) := by
  have := Int.ediv_lt_iff_lt_mul (a := 4611686018427387904) (b := a) (c := b) (by omega)
  simp only [this]

theorem great_small (a b : Int) (w : World) (h0 : 0 ≤ a) (h1 : 0 ≤ b) (h3 : b < 2147483648) (h4 : a < 2147483648) :
    Calls Try.prog 31 #[.int .i64 a, .int .i64 b] w fun e w' => e = .returned (.bool false) ∧ w' = w := by
  have hs := or_small a b h0 h1 h4 h3
  go_enter Try.func31, Try.ntmps31
  go_wp2
  go_ret
  exact ⟨rfl, rfl⟩
theorem great_nil (a : Int) (w : World) (h0 : 0 ≤ a) (h4 : a ≤ 9223372036854775807) :
    Calls Try.prog 31 #[.int .i64 a, .int .i64 0] w fun e w' => e = .returned (.bool false) ∧ w' = w := by
  go_enter Try.func31, Try.ntmps31
  go_wp2
  all_goals go_ret
  all_goals exact ⟨rfl, rfl⟩
theorem great_great (a b : Int) (w : World) (h0 : 0 ≤ a) (h1 : 1 ≤ b) (h2 : a ≤ 9223372036854775807) (h3 : b ≤ 9223372036854775807) (h : 2147483648 ≤ a ∨ 2147483648 ≤ b) :
    Calls Try.prog 31 #[.int .i64 a, .int .i64 b] w fun e w' => e = .returned (.bool (decide (4611686018427387904 < a * b))) ∧ w' = w := by
  have hs := or_great a b h0 (by omega) h2 h3 h
  have hq : Hid (decide (4611686018427387904 / b < a) = decide (4611686018427387904 < a * b)) := quo_iff a b h0 h1
  have hq1 : 4611686018427387904 / b ≤ 4611686018427387904 := Int.ediv_le_self _ (by omega)
  have hq0 : 0 ≤ 4611686018427387904 / b := Int.ediv_nonneg (by omega) (by omega)
  go_enter Try.func31, Try.ntmps31
  go_wp2
  go_ret
  exact ⟨ret_bool hq.out, rfl⟩

theorem great_any (a b : Int) (w : World) (h0 : 0 ≤ a) (h1 : 0 ≤ b) (h2 : a ≤ 9223372036854775807) (h3 : b ≤ 9223372036854775807) :
    Calls Try.prog 31 #[.int .i64 a, .int .i64 b] w fun e w' => e = .returned (.bool (decide (4611686018427387904 < a * b))) ∧ w' = w := by
  by_cases hs : a < 2147483648 ∧ b < 2147483648
  · have e : a * b ≤ 2147483647 * 2147483647 := Int.mul_le_mul (by omega) (by omega) h1 (by omega)
    refine (great_small a b w h0 h1 hs.2 hs.1).mono fun e w' h => ⟨h.1.trans (ret_bool ?_), h.2⟩
    symm; rw [decide_eq_false_iff_not]; omega
  · by_cases hb : b = 0
    · subst hb
      refine (great_nil a w h0 h2).mono fun e w' h => ⟨h.1.trans (ret_bool ?_), h.2⟩
      simp
    · exact great_great a b w h0 (by omega) h2 h3 (by omega)

/-- what the product is, or the error -/
def prod (a b : Int) : Value := if 4611686018427387904 < a * b then .tuple #[.int .i64 0, .int .i64 3] else .tuple #[.int .i64 (a * b), .int .i64 0]

theorem mul_neg (a b : Int) (w : World) (h : a < 0 ∨ b < 0) :
    Calls Try.prog 22 #[.int .i64 a, .int .i64 b] w fun e w' => e = .returned (.tuple #[.int .i64 0, .int .i64 1]) ∧ w' = w := by
  by_cases h1 : a < 0
  · go_enter Try.func22, Try.ntmps22
    go_wp2
    go_ret2
    exact ⟨rfl, rfl⟩
  · have h2 : b < 0 := by omega
    go_enter Try.func22, Try.ntmps22
    go_wp2
    go_ret2
    exact ⟨rfl, rfl⟩
theorem rmul_neg (a b : Int) (w : World) (h : a < 0 ∨ b < 0) :
    Calls Try.prog 23 #[.int .i64 a, .int .i64 b] w fun e w' => e = .returned (.tuple #[.int .i64 0, .int .i64 1]) ∧ w' = w := by
  by_cases h1 : a < 0
  · go_enter Try.func23, Try.ntmps23
    go_wp2
    go_ret2
    exact ⟨rfl, rfl⟩
  · have h2 : b < 0 := by omega
    go_enter Try.func23, Try.ntmps23
    go_wp2
    go_ret2
    exact ⟨rfl, rfl⟩
theorem mul_over (a b : Int) (w : World) (h0 : 0 ≤ a) (h1 : 0 ≤ b) (h2 : a ≤ 9223372036854775807) (h3 : b ≤ 9223372036854775807) (h : 4611686018427387904 < a * b) :
    Calls Try.prog 22 #[.int .i64 a, .int .i64 b] w fun e w' => e = .returned (.tuple #[.int .i64 0, .int .i64 3]) ∧ w' = w := by
  go_enter Try.func22, Try.ntmps22
  go_wp2_with (go_at_call 31; refine (great_any a b _ h0 h1 h2 h3).mono ?_; rintro e w' ⟨rfl, rfl⟩)
  go_ret2
  exact ⟨rfl, rfl⟩
theorem mul_ok (a b : Int) (w : World) (h0 : 0 ≤ a) (h1 : 0 ≤ b) (h2 : a ≤ 9223372036854775807) (h3 : b ≤ 9223372036854775807) (h : a * b ≤ 4611686018427387904) :
    Calls Try.prog 22 #[.int .i64 a, .int .i64 b] w fun e w' => e = .returned (.tuple #[.int .i64 (a * b), .int .i64 0]) ∧ w' = w := by
  have hp : 0 ≤ a * b := Int.mul_nonneg h0 h1
  go_enter Try.func22, Try.ntmps22
  go_wp2_with (go_at_call 31; refine (great_any a b _ h0 h1 h2 h3).mono ?_; rintro e w' ⟨rfl, rfl⟩)
  go_ret2
  exact ⟨rfl, rfl⟩

theorem half (b j : Nat) : b / 2 ^ j = 2 * (b / 2 ^ (j + 1)) + b / 2 ^ j % 2 := by
  rw [Nat.pow_succ, ← Nat.div_div_eq_div_mul]
  omega
theorem bit_cast (b j : Nat) : ((b : Int) / 2 ^ j).tmod 2 = ((b / 2 ^ j % 2 : Nat) : Int) := by
  have e : ((b : Int) / 2 ^ j) = ((b / 2 ^ j : Nat) : Int) := by simp
  rw [e]
  generalize b / 2 ^ j = q
  rw [Int.tmod_eq_emod_of_nonneg (by omega)]
  omega
theorem step_one (a b j P : Nat) (hP : a * (b / 2 ^ (j + 1)) = P) (h : (((b : Int) / 2 ^ j).tmod 2 == 1) = true) : a * (b / 2 ^ j) = P * 2 + a := by
  rw [bit_cast, beq_iff_eq] at h
  have h1 : b / 2 ^ j = 2 * (b / 2 ^ (j + 1)) + 1 := by rw [half b j]; omega
  rw [h1, ← hP, Nat.mul_add, Nat.mul_one, Nat.mul_comm 2, ← Nat.mul_assoc]
theorem step_nil (a b j P : Nat) (hP : a * (b / 2 ^ (j + 1)) = P) (h : (((b : Int) / 2 ^ j).tmod 2 == 1) = false) : a * (b / 2 ^ j) = P * 2 := by
  rw [bit_cast, beq_eq_false_iff_ne] at h
  have h1 : b / 2 ^ j = 2 * (b / 2 ^ (j + 1)) := by rw [half b j]; omega
  rw [h1, ← hP, Nat.mul_comm 2, ← Nat.mul_assoc]
theorem prod_over (a b : Nat) (h : 4611686018427387904 < a * b) : prod a b = .tuple #[.int .i64 0, .int .i64 3] := by
  have h' : (4611686018427387904 : Int) < (a : Int) * (b : Int) := by rw [← Int.natCast_mul]; omega
  simp only [prod, if_pos h']
theorem prod_ok (a b : Nat) (h : a * b ≤ 4611686018427387904) : prod a b = .tuple #[.int .i64 ((a * b : Nat) : Int), .int .i64 0] := by
  have h' : ¬ (4611686018427387904 : Int) < (a : Int) * (b : Int) := by rw [← Int.natCast_mul]; omega
  simp only [prod, if_neg h', Int.natCast_mul]

set_option maxHeartbeats 400000 in
theorem rmul_any (a b : Nat) (w : World) (h3 : b ≤ 9223372036854775807) (h4 : a ≤ 9223372036854775807) :
    Calls Try.prog 23 #[.int .i64 a, .int .i64 b] w fun e w' => e = .returned (prod a b) ∧ w' = w := by
  go_enter Try.func23, Try.ntmps23
  go_wp2
  go_loop [6, 7] (fun p i => ∃ k : Nat, k ≤ 63 ∧ i = .int .i64 ((k : Int) - 1) ∧ p = .int .u64 ((a * (b / 2 ^ k) : Nat) : Int) ∧ a * (b / 2 ^ k) < 18446744073709551616) (fun _ i => (intOf i + 1).toNat)
  case atStart =>
    have e : b / 2 ^ 63 = 0 := Nat.div_eq_of_lt (by omega)
    exact ⟨63, by omega, rfl, by rw [e]; rfl, by rw [e]; omega⟩
  case round =>
    obtain ⟨k, hk, rfl, rfl, hp⟩ := hrel
    generalize hP : a * (b / 2 ^ k) = P at *
    have HP : Hid (a * (b / 2 ^ k) = P) := hP
    clear hP
    by_cases hk0 : k = 0
    · subst hk0
      have HQ : a * b = P := by have := HP.out; simpa using this
      by_cases hg : 4611686018427387904 < P
      · have HR : Hid (prod a b = .tuple #[.int .i64 0, .int .i64 3]) := prod_over a b (by omega)
        clear HQ
        go_wp2
        go_ret2
        exact ⟨by rw [HR.out]; rfl, rfl⟩
      · have HR : Hid (prod a b = .tuple #[.int .i64 (P : Int), .int .i64 0]) := by
          have := prod_ok a b (by omega)
          rw [HQ] at this; exact this
        clear HQ
        go_wp2
        go_ret2
        exact ⟨by rw [HR.out]; rfl, rfl⟩
    · obtain ⟨j, rfl⟩ : ∃ j, k = j + 1 := ⟨k - 1, by omega⟩
      rw [show ((j + 1 : Nat) : Int) - 1 = (j : Int) from by omega]
      have HO : Hid (4611686018427387904 < P → prod a b = .tuple #[.int .i64 0, .int .i64 3]) := fun hg => prod_over a b (by
        have := HP.out
        have h1 : b / 2 ^ (j + 1) ≤ b := Nat.div_le_self _ _
        have h2 := Nat.mul_le_mul_left a h1
        omega)
      go_wp2
      · have hg : 4611686018427387904 < P := by omega
        go_ret2
        exact ⟨by rw [HO.out hg]; rfl, rfl⟩
      · have hs := step_one a b j P HP.out ‹_›
        go_round
        case rel => exact ⟨j, by omega, rfl, by rw [hs]; go_num, by rw [hs]; omega⟩
        case measure => simp [intOf]
      · have hs := step_nil a b j P HP.out ‹_›
        go_round
        case rel => exact ⟨j, by omega, rfl, by rw [hs]; go_num, by rw [hs]; omega⟩
        case measure => simp [intOf]

/-- both products, the program's and the document's, are this one -/
def Both (a b v e0 : Int) : Prop := ∀ w, Calls Try.prog 22 #[.int .i64 a, .int .i64 b] w (fun e w' => e = .returned (.tuple #[.int .i64 v, .int .i64 e0]) ∧ w' = w) ∧ Calls Try.prog 23 #[.int .i64 a, .int .i64 b] w (fun e w' => e = .returned (.tuple #[.int .i64 v, .int .i64 e0]) ∧ w' = w)

theorem both (a b : Nat) (h3 : b ≤ 9223372036854775807) (h4 : a ≤ 9223372036854775807) : ∃ v e0 : Int, Both a b v e0 := by
  have hab : ((a * b : Nat) : Int) = (a : Int) * (b : Int) := Int.natCast_mul a b
  by_cases hg : 4611686018427387904 < a * b
  · refine ⟨0, 3, fun w => ⟨mul_over _ _ w (by omega) (by omega) (by omega) (by omega) (by omega), ?_⟩⟩
    have := rmul_any a b w (by omega) (by omega)
    rwa [prod_over a b hg] at this
  · refine ⟨((a * b : Nat) : Int), 0, fun w => ⟨?_, ?_⟩⟩
    · rw [hab]; exact mul_ok _ _ w (by omega) (by omega) (by omega) (by omega) (by omega)
    · have := rmul_any a b w (by omega) (by omega)
      rwa [prod_ok a b (by omega)] at this
end Go.Proofs.Ytjdgcnednaeogaa.cnt
