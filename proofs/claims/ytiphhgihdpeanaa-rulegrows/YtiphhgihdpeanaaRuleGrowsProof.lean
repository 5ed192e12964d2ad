/-
  For every list of rules and every text the law RuleGrows of package fretsawlaw11 returns true (a rewritten text has at most as many bytes as Grow says), and the arguments read as before. No condition.
-/
import Derived.Test.YtiphhgihdpeanaaRows
import Derived.Test.YtiphhgihdpeanaaKArg
import Derived.WalkKit
import Derived.ProofKit
import Derived.OpenShut
import Derived.ChangeOld
import Derived.SizedLaws
import Derived.ShutString
import Derived.Below
namespace Go.Proofs.Ytiphhgihdpeanaa.ruleGrows
open Go.ChangeShapes Go.WideShapes Go.ChangeAt Go.RowKit
open Go.ChangeMaps (open_string shut_string)
open ru (Ru Rus)
set_option linter.unusedVariables false

theorem own : ownKnob Try.prog.godebug = none := by kernel_rfl
theorem laidOut : laidOutB Try.prog = true := by kernel_rfl

open ru in
set_option maxHeartbeats 2000000 in
set_option maxRecDepth 100000 in
theorem walk {l : List Ru} {v : Value} {w : World} (hS : Rus w v l) {s : ByteArray} (hs : s.size ≤ 140737488351232) (w0 : World) (hw0 : w0 = w := by rfl) :
    Calls Try.prog 4 #[v, .string s] w0 fun e w' => e = .returned (.bool true) ∧ Below w0.heap.size w0 w' := by
  subst hw0
  have c13 := alive_any w0
  have c7 := ap_any l s (by omega) _ _ rfl rfl
  have c8 := gr_any l _ rfl
  obtain ⟨a, cap, rfl, _, _⟩ := hS.form
  by_cases hok : ru.Good l ∧ s.size ≤ 262144
  · have e1 : apE l s = 0 := by unfold apE; rw [if_pos hok.1, if_pos hok.2]
    have e2 : rightE l = 0 := rightE_ok hok.1
    have hle : (apT l s).size ≤ grN l * s.size := by
      have h1 : (apT l s).size = (ap l s.data.toList).length := by unfold apT; rw [if_pos hok]; simp [txt, ByteArray.size]
      have h2 := ap_grow hok.1 s.data.toList
      rw [list_len] at h2
      unfold grN
      rw [if_pos hok.1]
      omega
    have h32 : grN l ≤ 32 := by unfold grN; rw [if_pos hok.1]; exact growN_le l hok.1.2.1 1 (by omega)
    have hmul : grN l * s.size ≤ 32 * 262144 := Nat.mul_le_mul h32 hok.2
    rw [e1] at c7
    rw [e2] at c8
    have HLE := (show Hid (((apT l s).size : Int) ≤ (grN l : Int) * (s.size : Int)) from by show _ ≤ _; rw [← Int.natCast_mul]; omega)
    have hm2 : (grN l : Int) * (s.size : Int) ≤ 8388608 := by rw [← Int.natCast_mul]; omega
    have hm0 : 0 ≤ (grN l : Int) * (s.size : Int) := by rw [← Int.natCast_mul]; omega
    clear hle hmul e1 e2 hok
    generalize apT l s = t at *
    generalize grN l = n at *
    go_enter Try.func4, Try.ntmps4
    go_wp2_with (first | (go_at_call 13; refine c13.mono ?_; rintro e w1 ⟨rfl, b1⟩; have c7' := c7 _ _ (hS.below b1)) | (go_at_call 7; refine c7'.mono ?_; rintro e w2 ⟨rfl, b2⟩; have c8' := c8 _ _ ((hS.below b1).below b2)) | (go_at_call 8; refine c8'.mono ?_; rintro e w3 ⟨rfl, b3⟩))
    go_ret
    refine ⟨?_, chain (chain b1 b2) b3⟩
    show Ending.returned (.bool (decide ((t.size : Int) ≤ (n : Int) * (s.size : Int)))) = _
    rw [decide_eq_true HLE.out]
  · have e3 : apT l s = ⟨#[]⟩ := by unfold apT; rw [if_neg hok]
    have e1 : apE l s ≠ 0 := by
      unfold apE
      by_cases hg : ru.Good l
      · rw [if_pos hg, if_neg (fun h => hok ⟨hg, h⟩)]; omega
      · rw [if_neg hg]; exact fun h => hg (rightE_zero h)
    have hq2 : ((apE l s : Int) != 0) = true := bne_iff_ne.2 (by omega)
    rw [e3] at c7
    clear e3 e1 hok
    generalize apE l s = x at *
    generalize grN l = n at *
    generalize rightE l = y at *
    go_enter Try.func4, Try.ntmps4
    go_wp2_with (first | (go_at_call 13; refine c13.mono ?_; rintro e w1 ⟨rfl, b1⟩; have c7' := c7 _ _ (hS.below b1)) | (go_at_call 7; refine c7'.mono ?_; rintro e w2 ⟨rfl, b2⟩; have c8' := c8 _ _ ((hS.below b1).below b2)) | (go_at_call 8; refine c8'.mono ?_; rintro e w3 ⟨rfl, b3⟩))
    go_ret
    exact ⟨rfl, chain (chain b1 b2) b3⟩

set_option maxRecDepth 100000 in
theorem lifted (os : Os) (started : os.Started) (H : Type) (enc : TypeId × Value → H) :
    ReturnsInHanded {} Try.checked os 4 .any (Rows.ruleGrowsSpec.pre6 enc Try.prog Try.f4 Rows.ruleGrowsRow.domain false) (Rows.ruleGrowsSpec.post enc Try.prog Try.f4 false true false false) := by
  refine returnsInHanded_of_change_sized (C := Try.checked) own started (by kernel_rfl) Try.func4
    (ChangeSpec.witness6 (enc := enc) (C := Try.checked) false ⟨#[], #[.slice none 0 0, .string ByteArray.empty], []⟩ 8 (by kernel_rfl) (by kernel_rfl) (by kernel_rfl) (by kernel_rfl)) ?_
  intro W base args ds gs before hval0 hW hcnd hsz0 _
  have hsz : (DataW.weightsEach Try.prog (Try.f4.params.toList ++ Rows.ruleGrowsSpec.plain.varTypes Try.prog) (ds ++ gs)).all (· ≤ reachBytes) = true := hsz0
  have hval : ∀ (j : Nat) t v, Try.f4.params[j]? = some t → args[j]? = some v → Value.okWide Try.prog W .any base t v := hval0
  have hW' := hW
  obtain ⟨p, q, hA0, hV, rfl, hfz, hnd⟩ := hW
  have hA : DataW.TrodAll enc Try.prog W 0 (fun _ => true) true Try.f4.params.toList args.toList ds p := hA0
  rw [Try.params4] at hA hval hsz
  obtain ⟨v0, vs0, d0, ds0, p0, q0, hargs, rfl, rfl, h0, r0⟩ := trodAll_cons hA
  obtain ⟨v1, vs1, d1, ds1, p1, q1, rfl, rfl, rfl, h1, r1⟩ := trodAll_cons r0
  obtain ⟨rfl, rfl, rfl⟩ := trodAll_nil r1
  obtain rfl : args = #[v0, v1] := by cases args; simp_all
  obtain ⟨rfl, rfl⟩ := trodVars_none hV
  have k0 := h0
  have lt0 : ∀ x ∈ p0, x.block < W.heap.size := by obtain ⟨m, hm⟩ := k0; exact DataW.trod_lt m _ _ _ hm
  obtain ⟨l0, F0⟩ := ru.open22 (hval 0 22 v0 rfl rfl) h0
  obtain ⟨a1, rfl, rfl, rfl, w1⟩ := open_string Try.underlying9 (hval 1 9 v1 rfl rfl) h1
  have F1 : a1.size ≤ 140737488351232 := by
    have := sized_string hsz (j := 1) (t := 9) rfl rfl
    simpa [reachBytes] using this
  clear hA0 hval0
  refine (walk F0 F1 W).mono fun e W' ⟨he, bel⟩ => ?_
  subst he
  exact ⟨_, rfl, _, _, _, [], _, [], hW', trodAll_mk1 (shut_bool Try.underlying4 _), (trodAll_cons_mk (Below.trod laidOut (by kernel_rfl) (of_decide_eq_true (by kernel_rfl)) k0 bel lt0) (trodAll_cons_mk (shut_string Try.underlying9 w1) trodAll_mk0)), rfl, bel.frame _, fun h => by cases h⟩

theorem over : Rows.ruleGrowsRow.holds Try.pinned (OpenSpec.ofChange Rows.ruleGrowsSpec) :=
  OpenClaim.holds_of_wide 4 Try.f4 rfl rfl rfl rfl rfl rfl rfl ⟨rfl, rfl, rfl, rfl, rfl⟩ rfl rfl rfl rfl rfl (by kernel_rfl) Try.func4 (by kernel_rfl)
    (of_decide_eq_true (by kernel_rfl)) (by unfold Func.isWrapper; first | (rw [if_pos (by decide +kernel)]; kernel_rfl) | (rw [if_neg (by decide +kernel)]; exact ⟨rfl, rfl⟩))
    (fun os started H enc _ => lifted os started H enc)

theorem proved : Rows.RuleGrowsSaid :=
  over
#print axioms proved
end Go.Proofs.Ytiphhgihdpeanaa.ruleGrows
