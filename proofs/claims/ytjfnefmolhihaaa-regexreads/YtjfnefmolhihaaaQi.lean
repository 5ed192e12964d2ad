/-
  Contracts over this program: the steps of the document's reader through one part of a class (fretsawref06's P: point, take and stop, one behind the other).
-/
import Derived.Test.YtjfnefmolhihaaaQe
namespace Go.Proofs.Ytjfnefmolhihaaa.st
open Go.Sort Go.ChangeShapes Go.WideShapes Go.ChangeAt Go.RowKit
set_option linter.unusedVariables false

/-- where one part leaves the reader: read, or wrong -/
def FinP (u : ByteArray) (j a lo hi j' b' a' : Nat) : Prop :=
  j ≤ j' ∧ j' ≤ u.size ∧ ((b' = 0 ∧ a' = a ∧ j < j' ∧ part (suf u j) = .ok (rng lo hi) (suf u j')) ∨ (b' ≠ 0 ∧ a' ≤ u.size ∧ part (suf u j) = .bad b' (suf u a')))

theorem part_steps (u : ByteArray) (j o a : Nat) (hu : u.size ≤ 1000) (hj : j ≤ u.size) (hk : kind (suf u j) = none) :
    (∃ lo j1 b1 a1, lo < 256 ∧ Mv 56 [] u j o 0 a (vb lo) j1 b1 a1 ∧ Mv 24 [.int .u8 45] u j1 o b1 a1 (.bool false) j1 b1 a1 ∧ FinP u j a lo lo j1 b1 a1) ∨
    (∃ lo j1 hi j3 b3 a3, lo < 256 ∧ hi < 256 ∧ j1 + 1 ≤ u.size ∧ Mv 56 [] u j o 0 a (vb lo) j1 0 a ∧ Mv 24 [.int .u8 45] u j1 o 0 a (.bool true) (j1 + 1) 0 a ∧ Mv 56 [] u (j1 + 1) o 0 a (vb hi) j3 b3 a3 ∧
      ((hi < lo ∧ ∃ b4 a4, Mv 14 [.int .i64 60, .int .i64 (j1 + 1 : Nat)] u j3 o b3 a3 (.tuple #[]) j3 b4 a4 ∧ FinP u j a lo hi j3 b4 a4) ∨ (¬ hi < lo ∧ FinP u j a lo hi j3 b3 a3))) := by
  have hpart : part (suf u j) = (point outside (suf u j)).then fun a l1 => if sees [45] l1 then (point outside l1.tail).then fun b l2 => if b < a then .bad 60 l1.tail else .ok (rng a b) l2 else .ok (rng a a) l1 := by
    unfold part
    rw [hk]
  rcases point_all u j o a hu hj with ⟨lo, j1, k1, k2, k3, k4, m1⟩ | ⟨e, q, j1, lo, k1, k2, k3, k4, k5, m1⟩
  · have hlt : j < j1 := by
      have h := point_eats outside _ _ _ k3
      rw [suf_length, suf_length] at h
      omega
    cases hs : sees [45] (suf u j1) with
    | false =>
      refine .inl ⟨lo, j1, 0, a, k4, m1, take_no u j1 o a hu k2 45 (by decide) hs, by omega, k2, .inl ⟨rfl, rfl, hlt, ?_⟩⟩
      rw [hpart, k3]
      simp only [R.then, hs]
      rfl
    | true =>
      have hin := sees_lt hs
      have t1 := take_yes u j1 o a hu k2 45 (by decide) hs
      rcases point_all u (j1 + 1) o a hu hin with ⟨hi, j3, n1, n2, n3, n4, m2⟩ | ⟨e, q, j3, hi, n1, n2, n3, n4, n5, m2⟩
      · refine .inr ⟨lo, j1, hi, j3, 0, a, k4, n4, hin, m1, t1, m2, ?_⟩
        by_cases hl : hi < lo
        · refine .inl ⟨hl, 60, j1 + 1, stop_first u j3 o a 60 (j1 + 1), by omega, n2, .inr ⟨by decide, hin, ?_⟩⟩
          rw [hpart, k3]
          simp only [R.then, hs, if_true]
          rw [suf_tail u j1 hin, n3]
          simp only [hl, if_true]
        · refine .inr ⟨hl, by omega, n2, .inl ⟨rfl, rfl, by omega, ?_⟩⟩
          rw [hpart, k3]
          simp only [R.then, hs, if_true]
          rw [suf_tail u j1 hin, n3]
          simp only [hl, if_false]
      · have hp : part (suf u j) = .bad e (suf u q) := by
          rw [hpart, k3]
          simp only [R.then, hs, if_true]
          rw [suf_tail u j1 hin, n4]
        refine .inr ⟨lo, j1, hi, j3, e, q, k4, n5, hin, m1, t1, m2, ?_⟩
        have hge : j ≤ j3 := by omega
        by_cases hl : hi < lo
        · exact .inl ⟨hl, e, q, stop_dead u j3 o e q _ _ n1, hge, n3.2, .inr ⟨n1, n2, hp⟩⟩
        · exact .inr ⟨hl, hge, n3.2, .inr ⟨n1, n2, hp⟩⟩
  · have hp : part (suf u j) = .bad e (suf u q) := by
      rw [hpart, k4]
      rfl
    exact .inl ⟨lo, j1, e, q, k5, m1, take_dead u j1 o e q k1 45 (by decide), k3.1, k3.2, .inr ⟨k1, k2, hp⟩⟩
end Go.Proofs.Ytjfnefmolhihaaa.st
