/-
  What the laws' walks share: numbers that fit their kinds, worlds one behind the other, and both ways to read a number at any place.
-/
import Derived.Test.YtjnjjbacfodacaaRGets
namespace Go.Proofs.Ytjnjjbacfodacaa.num
open Go.ChangeShapes Go.WideShapes Go.ChangeAt Go.RowKit
set_option linter.unusedVariables false

theorem u64_range {a : Int} (h : (Lit.int .u64 a).wf = true) : 0 ≤ a ∧ a < 18446744073709551616 := by
  have e1 : IntKind.u64.min = 0 := by decide
  have e2 : IntKind.u64.max = 18446744073709551615 := by decide
  simp [Lit.wf] at h
  rw [e1, e2] at h
  omega
theorem u32_range {a : Int} (h : (Lit.int .u32 a).wf = true) : 0 ≤ a ∧ a < 4294967296 := by
  have e1 : IntKind.u32.min = 0 := by decide
  have e2 : IntKind.u32.max = 4294967295 := by decide
  simp [Lit.wf] at h
  rw [e1, e2] at h
  omega
theorem i64_range {a : Int} (h : (Lit.int .i64 a).wf = true) : -9223372036854775808 ≤ a ∧ a < 9223372036854775808 := by
  have e1 : IntKind.i64.min = -9223372036854775808 := by decide
  simp [Lit.wf] at h
  rw [e1] at h
  omega

theorem chain {w w1 w2 : World} (h1 : Below w.heap.size w w1) (h2 : Below w1.heap.size w1 w2) : Below w.heap.size w w2 := h1.trans (h2.mono h1.size)

theorem text (l : List UInt8) : ∃ t : ByteArray, t.data.toList = l := ⟨⟨l.toArray⟩, by simp⟩
theorem size_list (s : ByteArray) : s.data.toList.length = s.size := by simp

/-- what is read within a text: its bounds -/
theorem gets_bounds {l : List UInt8} {p n to e : Nat} (h : gets l p = (n, to, e)) (hp : p ≤ l.length) :
    n < 18446744073709551616 ∧ ((e = 0 ∧ p < to ∧ to ≤ p + 10 ∧ to ≤ l.length ∧ rd (l.drop p) = (n, to - p, 0)) ∨ (n = 0 ∧ to = 0 ∧ (e = 20 ∨ e = 21) ∧ rd (l.drop p) = (0, 0, e))) := by
  have hr := rd_err (l.drop p)
  unfold gets at h
  by_cases h0 : (rd (l.drop p)).2.2 = 0
  · rw [if_pos h0] at h
    simp only [Prod.mk.injEq] at h
    obtain ⟨rfl, rfl, rfl⟩ := h
    have hk := rd_ok (l := l.drop p) (n := (rd (l.drop p)).1) (k := (rd (l.drop p)).2.1) (by rw [← h0])
    rw [List.length_drop] at hk
    refine ⟨hk.2.2.2.2, .inl ⟨rfl, by omega, by omega, by omega, ?_⟩⟩
    rw [Nat.add_sub_cancel_left, ← h0]
  · rw [if_neg h0] at h
    simp only [Prod.mk.injEq] at h
    obtain ⟨rfl, rfl, rfl⟩ := h
    rcases hr with hr | hr | hr
    · exact absurd hr h0
    · exact ⟨by omega, .inr ⟨rfl, rfl, .inl (by rw [hr]), by rw [hr]⟩⟩
    · exact ⟨by omega, .inr ⟨rfl, rfl, .inr (by rw [hr]), by rw [hr]⟩⟩

theorem both_get (s : ByteArray) (i : Int) (hs : s.size ≤ 140737488351232) : ∃ n to e : Nat, GetIs s i n to e ∧ RGetIs s i n to e ∧ n < 18446744073709551616 ∧ to ≤ s.size ∧ e ≤ 21 := by
  by_cases h : i < 0 ∨ (s.size : Int) < i
  · exact ⟨0, 0, 1, get_out s i h, rget_out s i h, by omega, by omega, by omega⟩
  · obtain ⟨p, rfl⟩ := Int.eq_ofNat_of_zero_le (show 0 ≤ i by omega)
    have hp : p ≤ s.size := by omega
    obtain ⟨n, to, e, hg⟩ : ∃ n to e, gets s.data.toList p = (n, to, e) := ⟨_, _, _, rfl⟩
    have hb := gets_bounds hg (by rw [size_list]; exact hp)
    rw [size_list] at hb
    exact ⟨n, to, e, get_in s p (by omega) hp n to e hg, rget_in s p hs hp n to e hg, hb.1, by omega, by omega⟩
end Go.Proofs.Ytjnjjbacfodacaa.num
