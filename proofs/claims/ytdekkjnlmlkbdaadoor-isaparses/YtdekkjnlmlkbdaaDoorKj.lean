/-
  The laws IsaBack and IsaOnce.
-/
import Derived.Test.YtdekkjnlmlkbdaaDoorKi
import Derived.Test.YtdekkjnlmlkbdaaDoorKg
import Derived.Test.YtdekkjnlmlkbdaaDoorHi
import Derived.Test.YtdekkjnlmlkbdaaDoorGg
namespace Go.Proofs.YtdekkjnlmlkbdaaDoor.is
open Go.Proofs.YtdekkjnlmlkbdaaDoor.num
open Go.ChangeShapes Go.WideShapes Go.ChangeAt Go.RowKit
set_option linter.unusedVariables false

theorem pas_any (s : ByteArray) (L : List In) (e n : Nat) (h : parA s.data.toList = (L, e, n)) : PasIs s L e n := by
  unfold parA at h
  by_cases hl : 262144 < s.data.toList.length
  · rw [if_pos hl] at h
    simp only [Prod.mk.injEq] at h
    obtain ⟨rfl, rfl, rfl⟩ := h
    exact pas_long s (by simpa using hl)
  · rw [if_neg hl] at h
    exact pas_ok s (by simpa using hl) L e n h
theorem ba_list (l : List UInt8) : (ba l).data.toList = l := rfl

set_option maxHeartbeats 1000000 in
set_option maxRecDepth 100000 in
theorem back_law (l : List In) (hs : ∀ i ∈ l, i.sane) (v : Value) (w : World) (hT : Tabs w) (hP : Pow w) (hv : InsAt w v l) : Calls Tryd.prog 7 #[v] w fun e w' => e = .returned (.bool true) ∧ Below w.heap.size w w' := by
  obtain ⟨o, n, cap, rfl, hn, hc, hcm, hel⟩ := hv.open
  -- what is met behind the cut
  have bad : ∀ (m : Nat) (l : List In), InsAt w (.slice o m cap) l → allE l ≠ 0 → ∃ er : Nat, er ≠ 0 ∧ (∀ W, Below w.heap.size w W → Calls Tryd.prog 11 #[.slice o m cap] W fun x w' => x = .returned (.tuple #[.string ⟨#[]⟩, .int .i64 er]) ∧ Below W.heap.size W w') ∧ (∀ W, Below w.heap.size w W → Calls Tryd.prog 13 #[.slice o m cap] W fun x w' => x = .returned (.tuple #[.string ⟨#[]⟩, .int .i64 er]) ∧ Below W.heap.size W w') ∧ (∀ W, Below w.heap.size w W → Calls Tryd.prog 20 #[.slice o m cap] W fun x w' => x = .returned (.int .i64 er) ∧ Below W.heap.size W w') := fun m l hi h =>
    ⟨allE l, h, fun W b => puts_bad l h _ W (hT.later b) (hi.later b), fun W b => texts_bad l h _ W (hT.later b) (hP.later b) (hi.later b), fun W b => rall_any l _ W (hi.later b)⟩
  have good : ∀ (m : Nat) (l : List In), InsAt w (.slice o m cap) l → allE l = 0 → (textL l).length ≤ 262144 → ∃ s t : ByteArray, (∀ W, Below w.heap.size w W → Calls Tryd.prog 11 #[.slice o m cap] W fun x w' => x = .returned (.tuple #[.string s, .int .i64 0]) ∧ Below W.heap.size W w') ∧ (∀ W, Below w.heap.size w W → Calls Tryd.prog 13 #[.slice o m cap] W fun x w' => x = .returned (.tuple #[.string t, .int .i64 0]) ∧ Below W.heap.size W w') ∧ (∀ W, Below w.heap.size w W → Calls Tryd.prog 20 #[.slice o m cap] W fun x w' => x = .returned (.int .i64 0) ∧ Below W.heap.size W w') ∧
      (∀ W, Below w.heap.size w W → Calls Tryd.prog 15 #[.string s] W fun x w' => ∃ u, x = .returned (.tuple #[u, .int .i64 0]) ∧ InsAt w' u l ∧ Below W.heap.size W w') ∧ (∀ W, Below w.heap.size w W → Calls Tryd.prog 18 #[.string t] W fun x w' => ∃ u, x = .returned (.tuple #[u, .int .i64 0, .int .i64 0]) ∧ InsAt w' u l ∧ Below W.heap.size W w') ∧
      (∀ u W, Below w.heap.size w W → InsAt W u l → Calls Tryd.prog 17 #[u, .slice o m cap] W fun x w' => x = .returned (.bool true) ∧ Below W.heap.size W w') := fun m l hi h ht =>
    ⟨ba (putL l), ba (textL l), fun W b => puts_ok l h _ W (hT.later b) (hi.later b), fun W b => texts_ok l h _ W (hT.later b) (hP.later b) (hi.later b), fun W b => (rall_any l _ W (hi.later b)).mono fun x w' hx => by rw [h] at hx; exact hx,
      fun W b => geta_any (ba (putL l)) (by rw [ba_size]; have := putL_le h; omega) l 0 (rdA_put l h) W (hT.later b), fun W b => pas_any (ba (textL l)) l 0 0 (parA_put l h ht) W (hT.later b),
      fun u W b hu => by have := like_any l l u _ W hu (hi.later b); rwa [likeB_self] at this⟩
  have cutE : 1000 < n → n ≤ 4096 → InsAt w (.slice o 1000 cap) (l.take 1000) := fun h1 h2 => hv.cut 1000 (by omega)
  have hb0 := Below.refl w.heap.size w
  by_cases hcut : 1000 < n ∧ n ≤ 4096
  · obtain ⟨h1, h2⟩ := hcut
    have hi := cutE h1 h2
    have hlen : (l.take 1000).length ≤ 1000 := by rw [List.length_take]; omega
    obtain ⟨b, off, rfl, _⟩ := hel 0 (by omega)
    by_cases hA : allE (l.take 1000) = 0
    · obtain ⟨s, t, g1, g2, g3, g4, g5, g6⟩ := good 1000 _ hi hA (by have := text_le hA; omega)
      clear good bad cutE hel hv hn hi hlen
      go_enter Tryd.func7, Tryd.ntmps7
      go_wp2_with (first | (go_at_call 11; refine (g1 _ hb0).mono ?_; rintro x w1 ⟨rfl, b1⟩) | (go_at_call 13; refine (g2 _ b1).mono ?_; rintro x w2 ⟨rfl, b2⟩; have B2 := chain b1 b2) | (go_at_call 20; refine (g3 _ B2).mono ?_; rintro x w3 ⟨rfl, b3⟩; have B3 := chain B2 b3) | (go_at_call 15; refine (g4 _ B3).mono ?_; rintro x w4 ⟨u, rfl, iu, b4⟩; have B4 := chain B3 b4) | (go_at_call 18; refine (g5 _ B4).mono ?_; rintro x w5 ⟨u2, rfl, iu2, b5⟩; have B5 := chain B4 b5; have iu := iu.later b5) | (go_at_call 17; with_reducible refine (g6 u _ B5 iu).mono ?_; rintro x w6 ⟨rfl, b6⟩; have B6 := chain B5 b6; have iu2 := iu2.later b6) | (go_at_call 17; with_reducible refine (g6 u2 _ B6 iu2).mono ?_; rintro x w7 ⟨rfl, b7⟩; have B7 := chain B6 b7))
      go_ret
      exact ⟨rfl, B7⟩
    · obtain ⟨er, he, g1, g2, g3⟩ := bad 1000 _ hi hA
      have hne : ((er : Int) == 0) = false := by rw [beq_eq_false_iff_ne]; omega
      clear good bad cutE hel hv hn hi hlen hA
      go_enter Tryd.func7, Tryd.ntmps7
      go_wp2_with (first | (go_at_call 11; refine (g1 _ hb0).mono ?_; rintro x w1 ⟨rfl, b1⟩) | (go_at_call 13; refine (g2 _ b1).mono ?_; rintro x w2 ⟨rfl, b2⟩; have B2 := chain b1 b2) | (go_at_call 20; refine (g3 _ B2).mono ?_; rintro x w3 ⟨rfl, b3⟩; have B3 := chain B2 b3))
      go_ret
      exact ⟨rfl, B3⟩
  · by_cases h2 : 4096 < n
    · have hA : allE l ≠ 0 := by rw [allE_long (by omega)]; omega
      obtain ⟨er, he, g1, g2, g3⟩ := bad n l hv hA
      have hne : ((er : Int) == 0) = false := by rw [beq_eq_false_iff_ne]; omega
      clear hcut good bad cutE hel hv hn hA
      go_enter Tryd.func7, Tryd.ntmps7
      go_wp2_with (first | (go_at_call 11; refine (g1 _ hb0).mono ?_; rintro x w1 ⟨rfl, b1⟩) | (go_at_call 13; refine (g2 _ b1).mono ?_; rintro x w2 ⟨rfl, b2⟩; have B2 := chain b1 b2) | (go_at_call 20; refine (g3 _ B2).mono ?_; rintro x w3 ⟨rfl, b3⟩; have B3 := chain B2 b3))
      go_ret
      exact ⟨rfl, B3⟩
    · have h3 : n ≤ 1000 := by omega
      clear hcut h2
      by_cases hA : allE l = 0
      · obtain ⟨s, t, g1, g2, g3, g4, g5, g6⟩ := good n l hv hA (by have := text_le hA; omega)
        clear good bad cutE hel hv hn
        go_enter Tryd.func7, Tryd.ntmps7
        go_wp2_with (first | (go_at_call 11; refine (g1 _ hb0).mono ?_; rintro x w1 ⟨rfl, b1⟩) | (go_at_call 13; refine (g2 _ b1).mono ?_; rintro x w2 ⟨rfl, b2⟩; have B2 := chain b1 b2) | (go_at_call 20; refine (g3 _ B2).mono ?_; rintro x w3 ⟨rfl, b3⟩; have B3 := chain B2 b3) | (go_at_call 15; refine (g4 _ B3).mono ?_; rintro x w4 ⟨u, rfl, iu, b4⟩; have B4 := chain B3 b4) | (go_at_call 18; refine (g5 _ B4).mono ?_; rintro x w5 ⟨u2, rfl, iu2, b5⟩; have B5 := chain B4 b5; have iu := iu.later b5) | (go_at_call 17; with_reducible refine (g6 u _ B5 iu).mono ?_; rintro x w6 ⟨rfl, b6⟩; have B6 := chain B5 b6; have iu2 := iu2.later b6) | (go_at_call 17; with_reducible refine (g6 u2 _ B6 iu2).mono ?_; rintro x w7 ⟨rfl, b7⟩; have B7 := chain B6 b7))
        go_ret
        exact ⟨rfl, B7⟩
      · obtain ⟨er, he, g1, g2, g3⟩ := bad n l hv hA
        have hne : ((er : Int) == 0) = false := by rw [beq_eq_false_iff_ne]; omega
        clear good bad cutE hel hv hn hA
        go_enter Tryd.func7, Tryd.ntmps7
        go_wp2_with (first | (go_at_call 11; refine (g1 _ hb0).mono ?_; rintro x w1 ⟨rfl, b1⟩) | (go_at_call 13; refine (g2 _ b1).mono ?_; rintro x w2 ⟨rfl, b2⟩; have B2 := chain b1 b2) | (go_at_call 20; refine (g3 _ B2).mono ?_; rintro x w3 ⟨rfl, b3⟩; have B3 := chain B2 b3))
        go_ret
        exact ⟨rfl, B3⟩
end Go.Proofs.YtdekkjnlmlkbdaaDoor.is
