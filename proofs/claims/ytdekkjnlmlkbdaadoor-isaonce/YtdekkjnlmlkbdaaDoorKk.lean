/-
  The law IsaOnce.
-/
import Derived.Test.YtdekkjnlmlkbdaaDoorKj
namespace Go.Proofs.YtdekkjnlmlkbdaaDoor.is
open Go.Proofs.YtdekkjnlmlkbdaaDoor.num
open Go.ChangeShapes Go.WideShapes Go.ChangeAt Go.RowKit
set_option linter.unusedVariables false

theorem InsAt.sized {w : World} {v : Value} {l : List In} (h : InsAt w v l) : ∃ o cap, v = .slice o l.length cap := by
  obtain ⟨o, cap, e, _⟩ := h
  exact ⟨o, cap, e⟩

set_option maxHeartbeats 1000000 in
set_option maxRecDepth 100000 in
theorem once_law (s : ByteArray) (hs : s.size ≤ maxLen) (w : World) (hT : Tabs w) (hP : Pow w) : Calls Tryd.prog 8 #[.string s] w fun e w' => e = .returned (.bool true) ∧ Below w.heap.size w w' := by
  clear hs
  have hb0 := Below.refl w.heap.size w
  by_cases hl : 50000 < s.size
  · go_enter Tryd.func8, Tryd.ntmps8
    go_wp2
    go_ret
    exact ⟨rfl, hb0⟩
  · obtain ⟨l, e, hr⟩ : ∃ L e, rdA s.data.toList = (L, e) := ⟨_, _, rfl⟩
    obtain ⟨m, g, n, hp⟩ : ∃ L e n, parA s.data.toList = (L, e, n) := ⟨_, _, _, rfl⟩
    have h15 := geta_any s (by omega) l e hr
    have h18 := pas_any s m g n hp
    unfold GetAIs at h15
    unfold PasIs at h18
    have hsl : s.data.toList.length = s.size := by simp
    have ok11 : e = 0 → ∀ v W, Below w.heap.size w W → InsAt W v l → Calls Tryd.prog 11 #[v] W fun x w' => x = .returned (.tuple #[.string s, .int .i64 0]) ∧ Below W.heap.size W w' := fun he v W b hv => by
      subst he
      obtain ⟨h1, h2⟩ := rdA_got hr
      have := puts_ok l h1 v W (hT.later b) hv
      rwa [h2, ← ba_eq] at this
    have no15 : e ≠ 0 → l.length = 0 := fun he => by rw [rdA_err hr he]; rfl
    have hcase := parA_err hp (by omega)
    have ok13 : g = 0 → n = 0 → ∀ v W, Below w.heap.size w W → InsAt W v m → Calls Tryd.prog 13 #[v] W fun x w' => x = .returned (.tuple #[.string s, .int .i64 0]) ∧ Below W.heap.size W w' := fun hg hn v W b hv => by
      subst hg
      subst hn
      obtain ⟨h1, h2⟩ := parA_got hp
      have := texts_ok m h1 v W (hT.later b) (hP.later b) hv
      rwa [h2, ← ba_eq] at this
    clear hr hp hsl
    by_cases he : e = 0
    · subst he
      have h11 := ok11 rfl
      clear ok11 no15
      rcases hcase with ⟨rfl, rfl⟩ | ⟨hg, hm, hn⟩
      · have h13 := ok13 rfl rfl
        clear ok13
        go_enter Tryd.func8, Tryd.ntmps8
        go_wp2_with (first | (go_at_call 15; refine (h15 _ hT).mono ?_; rintro x w1 ⟨va, rfl, ia, b1⟩) | (go_at_call 11; refine (h11 _ _ b1 ia).mono ?_; rintro x w2 ⟨rfl, b2⟩; have B2 := chain b1 b2; have hT2 := hT.later B2) | (go_at_call 18; refine (h18 _ hT2).mono ?_; rintro x w3 ⟨vb, rfl, ib, b3⟩; have B3 := chain B2 b3) | (go_at_call 13; refine (h13 _ _ B3 ib).mono ?_; rintro x w4 ⟨rfl, b4⟩; have B4 := chain B3 b4))
        go_ret
        exact ⟨rfl, B4⟩
      · subst hm
        have hne : ((g : Int) == 0) = false := by rw [beq_eq_false_iff_ne]; omega
        clear ok13
        go_enter Tryd.func8, Tryd.ntmps8
        go_wp2_with (first | (go_at_call 15; refine (h15 _ hT).mono ?_; rintro x w1 ⟨va, rfl, ia, b1⟩) | (go_at_call 11; refine (h11 _ _ b1 ia).mono ?_; rintro x w2 ⟨rfl, b2⟩; have B2 := chain b1 b2; have hT2 := hT.later B2) | (go_at_call 18; refine (h18 _ hT2).mono ?_; rintro x w3 ⟨vb, rfl, ib, b3⟩; have B3 := chain B2 b3; obtain ⟨ob, cb, rfl⟩ := ib.sized))
        go_ret
        exact ⟨by show Ending.returned (.bool (decide (1 ≤ (n : Int)))) = _; rw [decide_eq_true (by omega)], B3⟩
    · have hl0 := no15 he
      obtain rfl : l = [] := List.length_eq_zero_iff.1 hl0
      have hne0 : ((e : Int) == 0) = false := by rw [beq_eq_false_iff_ne]; omega
      clear ok11 no15 hl0
      rcases hcase with ⟨rfl, rfl⟩ | ⟨hg, hm, hn⟩
      · have h13 := ok13 rfl rfl
        clear ok13
        go_enter Tryd.func8, Tryd.ntmps8
        go_wp2_with (first | (go_at_call 15; refine (h15 _ hT).mono ?_; rintro x w1 ⟨va, rfl, ia, b1⟩; have hT2 := hT.later b1; obtain ⟨oa, ca, rfl⟩ := ia.sized) | (go_at_call 18; refine (h18 _ hT2).mono ?_; rintro x w3 ⟨vb, rfl, ib, b3⟩; have B3 := chain b1 b3) | (go_at_call 13; refine (h13 _ _ B3 ib).mono ?_; rintro x w4 ⟨rfl, b4⟩; have B4 := chain B3 b4))
        go_ret
        exact ⟨rfl, B4⟩
      · subst hm
        have hne : ((g : Int) == 0) = false := by rw [beq_eq_false_iff_ne]; omega
        clear ok13
        go_enter Tryd.func8, Tryd.ntmps8
        go_wp2_with (first | (go_at_call 15; refine (h15 _ hT).mono ?_; rintro x w1 ⟨va, rfl, ia, b1⟩; have hT2 := hT.later b1; obtain ⟨oa, ca, rfl⟩ := ia.sized) | (go_at_call 18; refine (h18 _ hT2).mono ?_; rintro x w3 ⟨vb, rfl, ib, b3⟩; have B3 := chain b1 b3; obtain ⟨ob, cb, rfl⟩ := ib.sized))
        go_ret
        exact ⟨by show Ending.returned (.bool (decide (1 ≤ (n : Int)))) = _; rw [decide_eq_true (by omega)], B3⟩
end Go.Proofs.YtdekkjnlmlkbdaaDoor.is
