/-
  How many digits a number has, and when a number fits its kind.
-/
import Derived.Test.YtkdffnhakgjggabPuts
namespace Go.Proofs.Ytkdffnhakgjggab.num

theorem ret_bool {a b : Bool} (h : a = b) : Ending.returned (.bool a) = .returned (.bool b) := by rw [h]

theorem digs_mono (a b : Nat) (h : a ≤ b) : (digs a).length ≤ (digs b).length := by
  induction b using Nat.strongRecOn generalizing a with
  | ind b ih =>
    by_cases h1 : a < 128
    · rw [digs_small h1]; exact digs_pos b
    · rw [digs_great h1, digs_great (by omega : ¬ b < 128)]
      have := ih (b / 128) (by omega) (a / 128) (by omega)
      simp only [List.length_cons]
      omega

/-- a byte for every seven bits that are left -/
def rest (k : Nat) : Nat := if k = 0 then 0 else (digs k).length
theorem rest_zero : rest 0 = 0 := rfl
theorem rest_len (k : Nat) : rest k = if k = 0 then 0 else (digs k).length := rfl
theorem digs_rest (b : Nat) : 1 + (if b / 128 = 0 then 0 else (digs (b / 128)).length) = (digs b).length := by
  by_cases h : b < 128
  · rw [if_pos (by omega), digs_small h]; rfl
  · rw [if_neg (by omega), digs_great h, List.length_cons]; omega
theorem rest_pos {k : Nat} (h : 0 < k) : rest k = 1 + rest (k / 128) := by
  rw [rest_len, if_neg (by omega), rest_len, digs_rest]

theorem u64_range {a : Int} (h : (Lit.int .u64 a).wf = true) : 0 ≤ a ∧ a < 18446744073709551616 := by
  have e1 : IntKind.u64.min = 0 := by decide
  have e2 : IntKind.u64.max = 18446744073709551615 := by decide
  simp [Lit.wf] at h
  rw [e1, e2] at h
  omega
end Go.Proofs.Ytkdffnhakgjggab.num
