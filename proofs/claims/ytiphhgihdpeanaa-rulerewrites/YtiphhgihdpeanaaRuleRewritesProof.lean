/-
  For every list of rules and every text the law RuleRewrites of package fretsawlaw11 returns true (Apply, Grow and Right answer just as the document says), and the arguments read as before. No condition.
-/
import Derived.Test.YtiphhgihdpeanaaRows
import Derived.Test.YtiphhgihdpeanaaKUn
import Derived.WalkKit
import Derived.ProofKit
import Derived.OpenShut
import Derived.ChangeOld
import Derived.SizedLaws
import Derived.ShutString
import Derived.Below
namespace Go.Proofs.Ytiphhgihdpeanaa.ruleRewrites
open Go.ChangeShapes Go.WideShapes Go.ChangeAt Go.RowKit
open Go.ChangeMaps (open_string shut_string)
open ru (Ru Rus)
set_option linter.unusedVariables false

theorem own : ownKnob Try.prog.godebug = none := by kernel_rfl
theorem laidOut : laidOutB Try.prog = true := by kernel_rfl

open ru in
set_option maxHeartbeats 4000000 in
set_option maxRecDepth 100000 in
theorem walk {l : List Ru} {v : Value} {w : World} (hS : Rus w v l) {s : ByteArray} (hs : s.size ≤ 140737488351232) (w0 : World) (hw0 : w0 = w := by rfl) :
    Calls Try.prog 3 #[v, .string s] w0 fun e w' => e = .returned (.bool true) ∧ Below w0.heap.size w0 w' := by
  subst hw0
  have c7 := ap_any l s (by omega) _ _ rfl rfl
  have c8 := gr_any l _ rfl
  have c9 := rright_any l _ rfl
  have c10 := right_any l _ rfl
  obtain ⟨av, cap, rfl, _, _⟩ := hS.form
  by_cases hg : ru.Good l
  · rw [rightE_ok hg] at c8 c9 c10
    have e2 : grN l = growN 1 l := by unfold grN; rw [if_pos hg]
    have c11 := rgr_any l hg _ rfl
    rw [e2] at c8
    clear e2
    have hqg : ((growN 1 l : Int) != (growN 1 l : Int)) = false := by simp
    by_cases h1 : s.size ≤ 262144
    · have e1 : apE l s = 0 := by unfold apE; rw [if_pos hg, if_pos h1]
      have e3 : apT l s = txt (ap l s.data.toList) := by unfold apT; rw [if_pos ⟨hg, h1⟩]
      rw [e1, e3] at c7
      clear e1 e3
      have f1 : ¬ (262144 : Int) < (s.size : Int) := by omega
      by_cases h2 : s.size ≤ 3000
      · have c12 := rap_any l hg s h2
        have f2 : decide ((3000 : Int) < (s.size : Int)) = false := decide_eq_false (by omega)
        have hu : ((txt (ap l s.data.toList)).toList == (txt (ap l s.data.toList)).toList) = true := by simp
        generalize growN 1 l = n at *
        unfold RApIs at c12
        generalize txt (ap l s.data.toList) = t at *
        clear h1 h2
        go_enter Try.func3, Try.ntmps3
        go_wp2_with (first | (go_at_call 7; refine (c7 _ _ hS).mono ?_; rintro e w1 ⟨rfl, b1⟩; have hS1 := hS.below b1) | (go_at_call 8; refine (c8 _ _ hS1).mono ?_; rintro e w2 ⟨rfl, b2⟩; have hS2 := hS1.below b2) | (go_at_call 9; refine (c9 _ _ hS2).mono ?_; rintro e w3 ⟨rfl, b3⟩; have hS3 := hS2.below b3) | (go_at_call 10; refine (c10 _ _ hS3).mono ?_; rintro e w4 ⟨rfl, b4⟩; have hS4 := hS3.below b4) | (go_at_call 11; refine (c11 _ _ hS4).mono ?_; rintro e w5 ⟨rfl, b5⟩; have hS5 := hS4.below b5) | (go_at_call 12; refine (c12 _ _ hS5).mono ?_; rintro e w6 ⟨rfl, b6⟩))
        go_ret
        exact ⟨rfl, chain (chain (chain (chain (chain b1 b2) b3) b4) b5) b6⟩
      · have f2 : decide ((3000 : Int) < (s.size : Int)) = true := decide_eq_true (by omega)
        have f2' : (3000 : Int) < (s.size : Int) := by omega
        generalize growN 1 l = n at *
        generalize txt (ap l s.data.toList) = t at *
        clear h1 h2
        go_enter Try.func3, Try.ntmps3
        go_wp2_with (first | (go_at_call 7; refine (c7 _ _ hS).mono ?_; rintro e w1 ⟨rfl, b1⟩; have hS1 := hS.below b1) | (go_at_call 8; refine (c8 _ _ hS1).mono ?_; rintro e w2 ⟨rfl, b2⟩; have hS2 := hS1.below b2) | (go_at_call 9; refine (c9 _ _ hS2).mono ?_; rintro e w3 ⟨rfl, b3⟩; have hS3 := hS2.below b3) | (go_at_call 10; refine (c10 _ _ hS3).mono ?_; rintro e w4 ⟨rfl, b4⟩; have hS4 := hS3.below b4) | (go_at_call 11; refine (c11 _ _ hS4).mono ?_; rintro e w5 ⟨rfl, b5⟩; have hS5 := hS4.below b5))
        go_ret
        exact ⟨rfl, chain (chain (chain (chain b1 b2) b3) b4) b5⟩
    · have e1 : apE l s = 2 := by unfold apE; rw [if_pos hg, if_neg h1]
      have e3 : apT l s = ⟨#[]⟩ := by unfold apT; rw [if_neg (fun h => h1 h.2)]
      rw [e1, e3] at c7
      clear e1 e3
      have f1 : (262144 : Int) < (s.size : Int) := by omega
      generalize growN 1 l = n at *
      clear h1
      go_enter Try.func3, Try.ntmps3
      go_wp2_with (first | (go_at_call 7; refine (c7 _ _ hS).mono ?_; rintro e w1 ⟨rfl, b1⟩; have hS1 := hS.below b1) | (go_at_call 8; refine (c8 _ _ hS1).mono ?_; rintro e w2 ⟨rfl, b2⟩; have hS2 := hS1.below b2) | (go_at_call 9; refine (c9 _ _ hS2).mono ?_; rintro e w3 ⟨rfl, b3⟩; have hS3 := hS2.below b3) | (go_at_call 10; refine (c10 _ _ hS3).mono ?_; rintro e w4 ⟨rfl, b4⟩; have hS4 := hS3.below b4) | (go_at_call 11; refine (c11 _ _ hS4).mono ?_; rintro e w5 ⟨rfl, b5⟩; have hS5 := hS4.below b5))
      go_ret
      exact ⟨rfl, chain (chain (chain (chain b1 b2) b3) b4) b5⟩
  · have e1 : apE l s = rightE l := by unfold apE; rw [if_neg hg]
    have e3 : apT l s = ⟨#[]⟩ := by unfold apT; rw [if_neg (fun h => hg h.1)]
    have e4 : grN l = 0 := by unfold grN; rw [if_neg hg]
    have hne : rightE l ≠ 0 := fun h => hg (rightE_zero h)
    rw [e1, e3] at c7
    rw [e4] at c8
    have hq2 : ((rightE l : Int) != 0) = true := bne_iff_ne.2 (by omega)
    have hq3 : ((rightE l : Int) != (rightE l : Int)) = false := by simp
    have hq4 : ((rightE l : Int) == (rightE l : Int)) = true := by simp
    clear e1 e3 e4 hg
    generalize rightE l = r at *
    go_enter Try.func3, Try.ntmps3
    go_wp2_with (first | (go_at_call 7; refine (c7 _ _ hS).mono ?_; rintro e w1 ⟨rfl, b1⟩; have hS1 := hS.below b1) | (go_at_call 8; refine (c8 _ _ hS1).mono ?_; rintro e w2 ⟨rfl, b2⟩; have hS2 := hS1.below b2) | (go_at_call 9; refine (c9 _ _ hS2).mono ?_; rintro e w3 ⟨rfl, b3⟩; have hS3 := hS2.below b3) | (go_at_call 10; refine (c10 _ _ hS3).mono ?_; rintro e w4 ⟨rfl, b4⟩))
    go_ret
    exact ⟨rfl, chain (chain (chain b1 b2) b3) b4⟩

set_option maxRecDepth 100000 in
theorem lifted (os : Os) (started : os.Started) (H : Type) (enc : TypeId × Value → H) :
    ReturnsInHanded {} Try.checked os 3 .any (Rows.ruleRewritesSpec.pre6 enc Try.prog Try.f3 Rows.ruleRewritesRow.domain false) (Rows.ruleRewritesSpec.post enc Try.prog Try.f3 false true false false) := by
  refine returnsInHanded_of_change_sized (C := Try.checked) own started (by kernel_rfl) Try.func3
    (ChangeSpec.witness6 (enc := enc) (C := Try.checked) false ⟨#[], #[.slice none 0 0, .string ByteArray.empty], []⟩ 8 (by kernel_rfl) (by kernel_rfl) (by kernel_rfl) (by kernel_rfl)) ?_
  intro W base args ds gs before hval0 hW hcnd hsz0 _
  have hsz : (DataW.weightsEach Try.prog (Try.f3.params.toList ++ Rows.ruleRewritesSpec.plain.varTypes Try.prog) (ds ++ gs)).all (· ≤ reachBytes) = true := hsz0
  have hval : ∀ (j : Nat) t v, Try.f3.params[j]? = some t → args[j]? = some v → Value.okWide Try.prog W .any base t v := hval0
  have hW' := hW
  obtain ⟨p, q, hA0, hV, rfl, hfz, hnd⟩ := hW
  have hA : DataW.TrodAll enc Try.prog W 0 (fun _ => true) true Try.f3.params.toList args.toList ds p := hA0
  rw [Try.params3] at hA hval hsz
  obtain ⟨v0, vs0, d0, ds0, p0, q0, hargs, rfl, rfl, h0, r0⟩ := trodAll_cons hA
  obtain ⟨v1, vs1, d1, ds1, p1, q1, rfl, rfl, rfl, h1, r1⟩ := trodAll_cons r0
  obtain ⟨rfl, rfl, rfl⟩ := trodAll_nil r1
  obtain rfl : args = #[v0, v1] := by cases args; simp_all
  obtain ⟨rfl, rfl⟩ := trodVars_none hV
  have k0 := h0
  have lt0 : ∀ x ∈ p0, x.block < W.heap.size := by obtain ⟨m, hm⟩ := k0; exact DataW.trod_lt m _ _ _ hm
  obtain ⟨l0, F0⟩ := ru.open22 (hval 0 22 v0 rfl rfl) h0
  obtain ⟨a1, rfl, rfl, rfl, w1⟩ := open_string Try.underlying9 (hval 1 9 v1 rfl rfl) h1
  have F1 : a1.size ≤ 140737488351232 := by
    have := sized_string hsz (j := 1) (t := 9) rfl rfl
    simpa [reachBytes] using this
  clear hA0 hval0
  refine (walk F0 F1 W).mono fun e W' ⟨he, bel⟩ => ?_
  subst he
  exact ⟨_, rfl, _, _, _, [], _, [], hW', trodAll_mk1 (shut_bool Try.underlying4 _), (trodAll_cons_mk (Below.trod laidOut (by kernel_rfl) (of_decide_eq_true (by kernel_rfl)) k0 bel lt0) (trodAll_cons_mk (shut_string Try.underlying9 w1) trodAll_mk0)), rfl, bel.frame _, fun h => by cases h⟩

theorem over : Rows.ruleRewritesRow.holds Try.pinned (OpenSpec.ofChange Rows.ruleRewritesSpec) :=
  OpenClaim.holds_of_wide 3 Try.f3 rfl rfl rfl rfl rfl rfl rfl ⟨rfl, rfl, rfl, rfl, rfl⟩ rfl rfl rfl rfl rfl (by kernel_rfl) Try.func3 (by kernel_rfl)
    (of_decide_eq_true (by kernel_rfl)) (by unfold Func.isWrapper; first | (rw [if_pos (by decide +kernel)]; kernel_rfl) | (rw [if_neg (by decide +kernel)]; exact ⟨rfl, rfl⟩))
    (fun os started H enc _ => lifted os started H enc)

theorem proved : Rows.RuleRewritesSaid :=
  over
#print axioms proved
end Go.Proofs.Ytiphhgihdpeanaa.ruleRewrites
