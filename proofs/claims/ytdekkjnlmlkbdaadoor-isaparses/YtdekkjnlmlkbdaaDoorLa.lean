/-
  Plain mathematics: the document's way to read a number and a line is the same.
-/
import Derived.Test.YtdekkjnlmlkbdaaDoorKi
namespace Go.Proofs.YtdekkjnlmlkbdaaDoor.is
open Go.Proofs.YtdekkjnlmlkbdaaDoor.num

/-- digits without a bound -/
def decG : Nat → List UInt8 → Option Nat
  | a, [] => some a
  | a, b :: r => if digB b = true then decG (10 * a + (b.toNat - 48)) r else none
/-- the document's number -/
def numR (s : List UInt8) : Option Nat := if (decide (10 < s.length) || lead s) = true then none else decG 0 s
theorem decG_ge : ∀ {s : List UInt8} {a v : Nat}, decG a s = some v → a * 10 ^ s.length ≤ v
  | [], a, v, h => by rw [decG] at h; cases h; simp
  | b :: s, a, v, h => by
    rw [decG] at h
    by_cases hd : digB b = true
    · rw [if_pos hd] at h
      have := decG_ge h
      rw [List.length_cons, Nat.pow_succ]
      have h2 : a * (10 ^ s.length * 10) ≤ (10 * a + (b.toNat - 48)) * 10 ^ s.length := by
        rw [show a * (10 ^ s.length * 10) = (10 * a) * 10 ^ s.length from by rw [Nat.mul_comm (10 ^ s.length) 10, ← Nat.mul_assoc, Nat.mul_comm a 10]]
        exact Nat.mul_le_mul_right _ (by omega)
      omega
    · rw [if_neg hd] at h; cases h
theorem decG_mono {s : List UInt8} {a v : Nat} (h : decG a s = some v) : a ≤ v := by
  have h1 := decG_ge h
  have h2 : a * 1 ≤ a * 10 ^ s.length := Nat.mul_le_mul_left _ (Nat.pow_pos (by omega))
  omega
theorem numG_dec2 (m : Nat) : ∀ (s : List UInt8) (a : Nat), a ≤ m → numG m a s = (decG a s).bind fun v => if v ≤ m then some v else none
  | [], a, h => by rw [numG, decG]; simp [h]
  | b :: s, a, h => by
    rw [numG, decG]
    by_cases hd : digB b = true
    · rw [if_pos hd, if_pos hd]
      by_cases hm : m < 10 * a + (b.toNat - 48)
      · rw [if_pos hm]
        cases hv : decG (10 * a + (b.toNat - 48)) s with
        | none => rfl
        | some v =>
          have := decG_mono hv
          show none = if v ≤ m then some v else none
          rw [if_neg (by omega)]
      · rw [if_neg hm]; exact numG_dec2 m s _ (by omega)
    · rw [if_neg hd, if_neg hd]; rfl
theorem numV_R (m : Nat) (hm : m ≤ 1073741824) (s : List UInt8) : numV m s = (numR s).bind fun v => if v ≤ m then some v else none := by
  unfold numV numR
  by_cases hl : lead s = true
  · rw [if_pos hl, hl, Bool.or_true]; rfl
  · rw [if_neg hl]
    have hl2 : lead s = false := by simpa using hl
    rw [hl2, Bool.or_false, numG_dec2 m s 0 (by omega)]
    by_cases h10 : 10 < s.length
    · rw [decide_eq_true h10, if_pos rfl]
      cases hv : decG 0 s with
      | none => rfl
      | some v =>
        show (if v ≤ m then some v else none) = none
        rw [if_neg]
        cases s with
        | nil => simp at h10
        | cons b s =>
          rw [decG] at hv
          by_cases hd : digB b = true
          · rw [if_pos hd] at hv
            have hge := decG_ge hv
            unfold digB at hd
            simp only [Bool.and_eq_true, decide_eq_true_eq] at hd
            have hb : b.toNat ≠ 48 := fun e => by
              have e2 : b = 48 := UInt8.toNat_inj.1 e
              unfold lead at hl2
              rw [e2] at hl2
              simp at hl2
              rw [hl2] at h10
              simp at h10
            rw [List.length_cons] at h10
            have hp : 10 ^ 10 ≤ 10 ^ s.length := Nat.pow_le_pow_right (by omega) (by omega)
            have h1 : 1 * 10 ^ s.length ≤ (10 * 0 + (b.toNat - 48)) * 10 ^ s.length := Nat.mul_le_mul_right _ (by omega)
            have : (10 : Nat) ^ 10 = 10000000000 := by decide
            omega
          · rw [if_neg hd] at hv; cases hv
    · rw [decide_eq_false h10, if_neg (by simp)]
theorem numR_lt {s : List UInt8} {v : Nat} (h : numR s = some v) : v < 10 ^ 11 := by
  unfold numR at h
  split at h
  · cases h
  · rename_i hc
    have hl : s.length ≤ 10 := by
      by_cases hx : 10 < s.length
      · rw [decide_eq_true hx] at hc; simp at hc
      · omega
    have key : ∀ (s : List UInt8) (a v : Nat), decG a s = some v → v < (a + 1) * 10 ^ s.length := by
      intro s
      induction s with
      | nil => intro a v h; rw [decG] at h; cases h; simp
      | cons b s ih =>
        intro a v h
        rw [decG] at h
        by_cases hd : digB b = true
        · rw [if_pos hd] at h
          have := ih _ _ h
          unfold digB at hd
          simp only [Bool.and_eq_true, decide_eq_true_eq] at hd
          rw [List.length_cons, Nat.pow_succ]
          have h2 : (10 * a + (b.toNat - 48) + 1) * 10 ^ s.length ≤ (a + 1) * (10 ^ s.length * 10) := by
            rw [show (a + 1) * (10 ^ s.length * 10) = (10 * (a + 1)) * 10 ^ s.length from by rw [Nat.mul_comm (10 ^ s.length) 10, ← Nat.mul_assoc, Nat.mul_comm (a + 1) 10]]
            exact Nat.mul_le_mul_right _ (by omega)
          omega
        · rw [if_neg hd] at h; cases h
    have h1 := key s 0 v h
    have h2 : 10 ^ s.length ≤ 10 ^ 10 := Nat.pow_le_pow_right (by omega) hl
    have : (10 : Nat) ^ 11 = 100000000000 := by decide
    have : (10 : Nat) ^ 10 = 10000000000 := by decide
    omega

/-- the document's way through a line's fields: letters -/
def readC (M : List Nat) : List (List UInt8) → In → Option In := fun ps i => readF (M.map fun c => (fldC c, 0)) ps i
theorem readF_len : ∀ (r : List (Nat × Nat)) (ps : List (List UInt8)) (i x : In), readF r ps i = some x → ps.length = r.length
  | [], ps, i, x, h => by rw [readF_nil] at h; split at h <;> simp_all
  | (f, k) :: r, [], i, x, h => by rw [readF_short] at h; cases h
  | (f, k) :: r, p :: ps, i, x, h => by
    cases hv : fieldV k p with
    | none => rw [readF_bad hv] at h; cases h
    | some v => rw [readF_ok hv] at h; rw [List.length_cons, List.length_cons, readF_len r ps _ x h]
theorem kd_lets (op : Nat) (h : op < 18) : (lets op).map (fun c => (fldC c, kd op (fldC c))) = namedK op 0 := by
  unfold namedK
  rw [← lets_fld op h, List.map_map]
  rfl
theorem most_lets (op : Nat) (h : op < 18) : ∀ c ∈ lets op, most (kd op (fldC c)) = mostC c := by
  have : ∀ x : Fin 18, ∀ c ∈ lets x, most (kd x (fldC c)) = mostC c := by decide
  exact this ⟨op, h⟩
end Go.Proofs.YtdekkjnlmlkbdaaDoor.is
