/-
  Over this program: Mix, and the document's, are one function on naturals; spot.
-/
import Derived.Test.YtfpkjgalokbkcaaRows
import Derived.WalkKit
import Derived.ChangeAt
import Derived.Below
import Derived.Lib.OthersKept
import Derived.Laws.Rows
import Derived.Laws.Bits64b
import Derived.WalkLawsBesides
import Derived.Deep.QuietTactic
import Derived.Deep.RegionHeld3
import Derived.WalkSmall
import Derived.BigQuiet
import Derived.SizedLaws
namespace Go.Proofs.Ytfpkjgalokbkcaa.hs
open Go.ChangeShapes Go.WideShapes Go.ChangeAt Go.RowKit
set_option linter.unusedVariables false

def sh (x d : Int) : Int := bits .xor .u64 x (x / d)
def mixI (s k : Int) : Int :=
  sh (IntKind.u64.wrap (sh (IntKind.u64.wrap (sh (IntKind.u64.wrap (k + IntKind.u64.wrap ((s + 1) * 11400714819323198485))) 1073741824 * 13787848793156543929)) 134217728 * 10723151780598845931)) 2147483648
theorem wrap_nat (x : Int) : ∃ n : Nat, IntKind.u64.wrap x = (n : Int) ∧ n < 18446744073709551616 := by
  have : IntKind.u64.wrap x = x % 18446744073709551616 := by unfold IntKind.wrap; simp [IntKind.signed, IntKind.bits]
  rw [this]
  exact ⟨(x % 18446744073709551616).toNat, by omega, by omega⟩
theorem sh_nat (n d : Nat) (hn : n < 18446744073709551616) : ∃ m : Nat, sh (n : Int) (d : Int) = (m : Int) ∧ m < 18446744073709551616 := by
  unfold sh
  have e : (n : Int) / (d : Int) = ((n / d : Nat) : Int) := by simp
  have hd : n / d < 18446744073709551616 := Nat.lt_of_le_of_lt (Nat.div_le_self _ _) hn
  rw [e, u64_xor_nat n (n / d) hn hd]
  exact ⟨_, rfl, Nat.xor_lt_two_pow (n := 64) hn hd⟩
theorem mix_nat (s k : Int) : ∃ m : Nat, mixI s k = (m : Int) ∧ m < 18446744073709551616 := by
  unfold mixI
  obtain ⟨m, e, h⟩ := wrap_nat (sh (IntKind.u64.wrap (sh (IntKind.u64.wrap (k + IntKind.u64.wrap ((s + 1) * 11400714819323198485))) 1073741824 * 13787848793156543929)) 134217728 * 10723151780598845931)
  rw [e]
  exact sh_nat m 2147483648 h
def mix (s k : Nat) : Nat := (mixI s k).toNat
theorem mix_eq (s k : Nat) : mixI (s : Int) (k : Int) = ((mix s k : Nat) : Int) := by
  obtain ⟨m, e, _⟩ := mix_nat s k
  unfold mix
  rw [e]; rfl
theorem mix_lt (s k : Nat) : mix s k < 18446744073709551616 := by
  obtain ⟨m, e, h⟩ := mix_nat s k
  unfold mix
  rw [e]; exact h

def sh2 (x d : Int) : Int := bits .xor .u64 x (IntKind.u64.wrap (x.tdiv d))
theorem sh_same (y : Int) (d : Nat) : sh2 (IntKind.u64.wrap y) (d : Int) = sh (IntKind.u64.wrap y) (d : Int) := by
  obtain ⟨n, e, h⟩ := wrap_nat y
  rw [e]
  unfold sh2 sh
  have h2 : n / d < 18446744073709551616 := Nat.lt_of_le_of_lt (Nat.div_le_self _ _) h
  have e1 : (n : Int).tdiv (d : Int) = ((n / d : Nat) : Int) := (Int.ofNat_tdiv n d).symm
  have e2 : (n : Int) / (d : Int) = ((n / d : Nat) : Int) := by simp
  rw [e1, e2, IntKind.wrap_u64]
  clear e1 e2 e
  generalize n / d = q at *
  rw [Int.emod_eq_of_lt (by omega) (by omega)]
theorem mix_same (s k : Int) : mixI s k = sh2 (IntKind.u64.wrap (sh2 (IntKind.u64.wrap (sh2 (IntKind.u64.wrap (k + IntKind.u64.wrap ((s + 1) * 11400714819323198485))) 1073741824 * 13787848793156543929)) 134217728 * 10723151780598845931)) 2147483648 := by
  unfold mixI
  rw [show (1073741824 : Int) = ((1073741824 : Nat) : Int) from rfl, show (134217728 : Int) = ((134217728 : Nat) : Int) from rfl, show (2147483648 : Int) = ((2147483648 : Nat) : Int) from rfl, sh_same, sh_same, sh_same]

set_option maxHeartbeats 1000000 in
theorem mix_any (s k : Nat) (hs : s < 4294967296) (hk : k < 18446744073709551616) (w : World) : Calls Try.prog 10 #[.int .u32 (s : Int), .int .u64 (k : Int)] w fun e w' => e = .returned (.int .u64 (mix s k : Nat)) ∧ w' = w := by
  rw [← mix_eq]
  unfold mixI sh
  go_enter Try.func10, Try.ntmps10
  go_wp2_with (fail)
  go_ret
  exact ⟨rfl, rfl⟩
set_option maxHeartbeats 1000000 in
theorem rmix_any (s k : Nat) (hs : s < 4294967296) (hk : k < 18446744073709551616) (w : World) : Calls Try.prog 11 #[.int .u32 (s : Int), .int .u64 (k : Int)] w fun e w' => e = .returned (.int .u64 (mix s k : Nat)) ∧ w' = w := by
  rw [← mix_eq]
  rw [mix_same]
  unfold sh2
  go_enter Try.func11, Try.ntmps11
  go_wp2_with (fail)
  go_ret
  exact ⟨rfl, rfl⟩

set_option maxHeartbeats 1000000 in
theorem spot_any (s k n : Nat) (hs : s < 4294967296) (hk : k < 18446744073709551616) (h0 : 0 < n) (hn : n ≤ 9223372036854775807) (w : World) : Calls Try.prog 28 #[.int .u32 (s : Int), .int .u64 (k : Int), .int .i64 (n : Int)] w fun e w' => e = .returned (.int .i64 ((mix s k % n : Nat) : Int)) ∧ w' = w := by
  have c := mix_any s k hs hk w
  have hm := mix_lt s k
  have hr := Nat.mod_lt (mix s k) h0
  generalize mix s k = m at *
  have e1 : Hid (((m % n : Nat) : Int) = (m : Int) % (n : Int)) := show _ = _ from by simp
  go_enter Try.func28, Try.ntmps28
  go_wp2_with (go_at_call 10; refine c.mono ?_; rintro e w1 ⟨rfl, h⟩; obtain rfl := h.symm)
  go_ret
  exact ⟨by rw [e1.out]; rfl, rfl⟩
end Go.Proofs.Ytfpkjgalokbkcaa.hs
