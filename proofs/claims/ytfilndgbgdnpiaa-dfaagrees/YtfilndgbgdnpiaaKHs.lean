/-
  Contracts over this program: whether a byte is in a set, a set and a byte (set.Has, the document's Has).
-/
import Derived.Test.YtfilndgbgdnpiaaRows
import Derived.Test.YtfilndgbgdnpiaaKSets
import Derived.Laws.BitsAllLaws
import Derived.Laws.Rows
import Derived.Lib.Builder
import Derived.WalkKit
import Derived.ProofKit
import Derived.OpenShut
namespace Go.Proofs.Ytfilndgbgdnpiaa.st
open Go.ChangeShapes Go.WideShapes Go.ChangeAt Go.RowKit
set_option linter.unusedVariables false

theorem chain {w w1 w2 : World} (h1 : Below w.heap.size w w1) (h2 : Below w1.heap.size w1 w2) : Below w.heap.size w w2 := h1.trans (h2.mono h1.size)

theorem bit_and (x m : Nat) (hx : x < 18446744073709551616) : (bits .and .u64 ((x : Int) / 2 ^ m) 1 == 1) = x.testBit m := by
  have h1 : ((x : Int) / 2 ^ m) = ((x / 2 ^ m : Nat) : Int) := by simp
  have h2 := u64_and_nat (x / 2 ^ m) 1 (Nat.lt_of_le_of_lt (Nat.div_le_self _ _) hx) (by omega)
  rw [h1, show ((1 : Nat) : Int) = (1 : Int) from rfl] at *
  rw [h2, Nat.and_one_is_mod, Nat.testBit_eq_decide_div_mod_eq]
  generalize x / 2 ^ m = y
  by_cases h : y % 2 = 1
  · rw [h]; rfl
  · have : y % 2 = 0 := by omega
    rw [this]; rfl
theorem bit_mod (x m : Nat) : (((x : Int) / 2 ^ m).tmod 2 == 1) = x.testBit m := by
  have h1 : ((x : Int) / 2 ^ m) = ((x / 2 ^ m : Nat) : Int) := by simp
  rw [h1, Nat.testBit_eq_decide_div_mod_eq]
  generalize x / 2 ^ m = y
  rw [Int.tmod_eq_emod_of_nonneg (by omega)]
  by_cases h : y % 2 = 1
  · rw [show ((y : Int) % 2) = 1 from by omega, h]; rfl
  · rw [show ((y : Int) % 2) = 0 from by omega, show y % 2 = 0 from by omega]; rfl
theorem bit_or (x m : Nat) (hx : x < 18446744073709551616) (hm : m < 64) : bits .or .u64 (x : Int) (IntKind.u64.wrap (2 ^ m)) = ((x ||| 2 ^ m : Nat) : Int) := by
  have hp : (2 : Nat) ^ m < 18446744073709551616 := Nat.lt_of_lt_of_le (Nat.pow_lt_pow_right (by omega) hm) (by decide)
  have h1 : IntKind.u64.wrap (2 ^ m) = ((2 ^ m : Nat) : Int) := by
    have e : ((2 : Int) ^ m) = ((2 ^ m : Nat) : Int) := by simp
    rw [e, IntKind.wrap_u64]
    generalize 2 ^ m = y at *
    omega
  rw [h1]
  exact u64_or_nat _ _ hx hp

theorem quarter (n : Nat) (h : n < 256) : n / 64 = 0 ∨ n / 64 = 1 ∨ n / 64 = 2 ∨ n / 64 = 3 := by omega

def HasIs (q : Q4) (n : Nat) (r : Bool) : Prop := ∀ w, Calls Try.prog 56 #[.agg #[.int .u64 q.a, .int .u64 q.b, .int .u64 q.c, .int .u64 q.d], .int .u8 n] w fun e w' => e = .returned (.bool r) ∧ Below w.heap.size w w'
def RHasIs (q : Q4) (n : Nat) (r : Bool) : Prop := ∀ w, Calls Try.prog 57 #[.agg #[.int .u64 q.a, .int .u64 q.b, .int .u64 q.c, .int .u64 q.d], .int .u8 n] w fun e w' => e = .returned (.bool r) ∧ Below w.heap.size w w'

set_option maxRecDepth 100000 in
theorem has_any (q : Q4) (hq : Fits q) (n : Nat) (hn : n < 256) (r : Bool) (hr : r = has q n) : HasIs q n r := by
  intro w
  have HR : Hid (r = has q n) := hr
  clear hr
  obtain ⟨m, hm, hm64⟩ : ∃ m : Nat, n % 64 = m ∧ m < 64 := ⟨_, rfl, by omega⟩
  have e2 : ((n : Int) % 64) = m := by omega
  rcases quarter n hn with h | h | h | h
  · have e1 : ((n : Int) / 64) = 0 := by omega
    have e3 := bit_and q.a m hq.a
    have HB : Hid (q.a.testBit m = r) := by show _ = _; rw [HR.out]; unfold has; rw [h, hm]; rfl
    clear h hm HR hn
    go_enter Try.func56, Try.ntmps56
    go_wp2
    go_ret
    exact ⟨by rw [← HB.out]; rfl, (Below.refl _ _).alloc (Nat.le_refl _) _⟩
  · have e1 : ((n : Int) / 64) = 1 := by omega
    have e3 := bit_and q.b m hq.b
    have HB : Hid (q.b.testBit m = r) := by show _ = _; rw [HR.out]; unfold has; rw [h, hm]; rfl
    clear h hm HR hn
    go_enter Try.func56, Try.ntmps56
    go_wp2
    go_ret
    exact ⟨by rw [← HB.out]; rfl, (Below.refl _ _).alloc (Nat.le_refl _) _⟩
  · have e1 : ((n : Int) / 64) = 2 := by omega
    have e3 := bit_and q.c m hq.c
    have HB : Hid (q.c.testBit m = r) := by show _ = _; rw [HR.out]; unfold has; rw [h, hm]; rfl
    clear h hm HR hn
    go_enter Try.func56, Try.ntmps56
    go_wp2
    go_ret
    exact ⟨by rw [← HB.out]; rfl, (Below.refl _ _).alloc (Nat.le_refl _) _⟩
  · have e1 : ((n : Int) / 64) = 3 := by omega
    have e3 := bit_and q.d m hq.d
    have HB : Hid (q.d.testBit m = r) := by show _ = _; rw [HR.out]; unfold has; rw [h, hm]; rfl
    clear h hm HR hn
    go_enter Try.func56, Try.ntmps56
    go_wp2
    go_ret
    exact ⟨by rw [← HB.out]; rfl, (Below.refl _ _).alloc (Nat.le_refl _) _⟩

set_option maxRecDepth 100000 in
theorem rhas_any (q : Q4) (hq : Fits q) (n : Nat) (hn : n < 256) (r : Bool) (hr : r = has q n) : RHasIs q n r := by
  intro w
  have HR : Hid (r = has q n) := hr
  clear hr
  obtain ⟨m, hm, hm64⟩ : ∃ m : Nat, n % 64 = m ∧ m < 64 := ⟨_, rfl, by omega⟩
  have e2 : ((n : Int) % 64) = m := by omega
  rcases quarter n hn with h | h | h | h
  · have e1 : ((n : Int) / 64) = 0 := by omega
    have e3 := bit_mod q.a m
    have HB : Hid (q.a.testBit m = r) := by show _ = _; rw [HR.out]; unfold has; rw [h, hm]; rfl
    clear h hm HR hn
    go_enter Try.func57, Try.ntmps57
    go_wp2
    go_ret
    exact ⟨by rw [← HB.out]; rfl, (Below.refl _ _).alloc (Nat.le_refl _) _⟩
  · have e1 : ((n : Int) / 64) = 1 := by omega
    have e3 := bit_mod q.b m
    have HB : Hid (q.b.testBit m = r) := by show _ = _; rw [HR.out]; unfold has; rw [h, hm]; rfl
    clear h hm HR hn
    go_enter Try.func57, Try.ntmps57
    go_wp2
    go_ret
    exact ⟨by rw [← HB.out]; rfl, (Below.refl _ _).alloc (Nat.le_refl _) _⟩
  · have e1 : ((n : Int) / 64) = 2 := by omega
    have e3 := bit_mod q.c m
    have HB : Hid (q.c.testBit m = r) := by show _ = _; rw [HR.out]; unfold has; rw [h, hm]; rfl
    clear h hm HR hn
    go_enter Try.func57, Try.ntmps57
    go_wp2
    go_ret
    exact ⟨by rw [← HB.out]; rfl, (Below.refl _ _).alloc (Nat.le_refl _) _⟩
  · have e1 : ((n : Int) / 64) = 3 := by omega
    have e3 := bit_mod q.d m
    have HB : Hid (q.d.testBit m = r) := by show _ = _; rw [HR.out]; unfold has; rw [h, hm]; rfl
    clear h hm HR hn
    go_enter Try.func57, Try.ntmps57
    go_wp2
    go_ret
    exact ⟨by rw [← HB.out]; rfl, (Below.refl _ _).alloc (Nat.le_refl _) _⟩
end Go.Proofs.Ytfilndgbgdnpiaa.st
