/-
  Contracts over this program: whatever a text is, the document's Get reads it as is told of it; the law PackGets of any text.
-/
import Derived.Test.YtjnjjbacfodacaaRGet
namespace Go.Proofs.Ytjnjjbacfodacaa.pk
open Go.ChangeShapes Go.WideShapes Go.ChangeAt Go.RowKit
set_option linter.unusedVariables false

theorem fin_jn (u : ByteArray) (r : List Sec × Nat × Nat) : fin u (jn [] r) = if r.2.2 ≠ 0 then ([], r.2.2) else if r.2.1 ≠ u.size then ([], 21) else if 8388608 < total r.1 then ([], 2) else (r.1, 0) := by
  by_cases h : r.2.2 = 0
  · rw [jn_nil r h, fin]
    simp only [h, ne_eq, not_true_eq_false, if_false]
  · rw [jn_bad r h, fin, if_pos h, if_pos h]

theorem rgets_any (s : ByteArray) (hs : s.size ≤ 140737488351232) (ls : List Sec) (e : Nat) (h : getP s = (ls, e)) : RGetsIs s ls e := by
  unfold getP at h
  by_cases h9 : s.size < 9
  · rw [if_pos h9] at h
    simp only [Prod.mk.injEq] at h
    obtain ⟨rfl, rfl⟩ := h
    exact rgets_short s h9
  · rw [if_neg h9] at h
    have h9 : 9 ≤ s.size := by omega
    by_cases hm : s.extract 0 5 ≠ mark
    · rw [if_pos hm] at h
      simp only [Prod.mk.injEq] at h
      obtain ⟨rfl, rfl⟩ := h
      exact rgets_magic s h9 hs hm
    · rw [if_neg hm] at h
      have hm : s.extract 0 5 = mark := Classical.not_not.1 hm
      by_cases h4 : s.extract (s.size - 4) s.size ≠ seal4 (s.extract 0 (s.size - 4))
      · rw [if_pos h4] at h
        simp only [Prod.mk.injEq] at h
        obtain ⟨rfl, rfl⟩ := h
        exact rgets_sum s h9 hs hm _ rfl h4
      · rw [if_neg h4] at h
        have hgood := good_of s h9 hs hm (Classical.not_not.1 h4)
        have huz := hgood.size
        generalize s.extract 0 (s.size - 4) = u at *
        obtain ⟨n, q, f, hg⟩ : ∃ n q f, num.gets u.data.toList 5 = (n, q, f) := ⟨_, _, _, rfl⟩
        have hb := num.gets_bounds hg (by rw [num.size_list]; omega)
        rw [num.size_list] at hb
        have hget := num.rget_in u 5 (by omega) (by omega) n q f hg
        unfold inner at h
        rw [hg] at h
        simp only at h
        by_cases hf : f = 0
        · subst hf
          rw [if_neg (by simp)] at h
          have hq : q ≤ u.size := by rcases hb.2 with h1 | h1 <;> omega
          by_cases hn : 64 < n
          · rw [if_pos hn] at h
            simp only [Prod.mk.injEq] at h
            obtain ⟨rfl, rfl⟩ := h
            exact rgets_many s u _ _ _ hgood n q hn hget
          · rw [if_neg hn] at h
            exact rgets_main s u _ _ _ hgood n q (by omega) hget hq ls e (by rw [fin_jn]; exact h)
        · rw [if_pos hf] at h
          simp only [Prod.mk.injEq] at h
          obtain ⟨rfl, rfl⟩ := h
          exact rgets_num s u _ _ _ hgood n q f hf hget

def LawIs (s : ByteArray) : Prop := ∀ w, Calls Try.prog 4 #[.string s] w fun e w' => e = .returned (.bool true) ∧ Below w.heap.size w w'

set_option maxRecDepth 100000 in
theorem law_any (s : ByteArray) (hs : s.size ≤ 1125899906842624) : LawIs s := by
  intro w
  by_cases hbig : 20000 < s.size
  · go_enter Try.func4, Try.ntmps4
    go_wp2
    go_ret
    exact ⟨rfl, Below.refl _ _⟩
  · obtain ⟨ls, e, h⟩ : ∃ ls e, getP s = (ls, e) := ⟨_, _, rfl⟩
    have p12 := gets_any s (by omega) ls e h
    have p13 := rgets_any s (by omega) ls e h
    have p14 := like_any ls
    have heq : ((e : Int) == (e : Int)) = true := by simp
    clear h
    go_enter Try.func4, Try.ntmps4
    go_wp2_with (first | (go_at_call 12; refine (p12 _).mono ?_; rintro e w1 ⟨m, rfl, m1, b1⟩) | (go_at_call 13; refine (p13 _).mono ?_; rintro e w2 ⟨k, rfl, k2, b2⟩; have m2 := m1.below b2) | (go_at_call 14; refine (p14 _ _ _ m2 k2).mono ?_; rintro e w3 ⟨rfl, b3⟩))
    go_ret
    exact ⟨rfl, chain2 (chain2 b1 b2) b3⟩
end Go.Proofs.Ytjnjjbacfodacaa.pk
