/-
  For every list of merges the law MergeTexts of package fretsawlaw13 returns true (which merges may be, and the texts of all ids, are as the document says), and the argument reads as before
-/
import Derived.Test.YtciphckjjbinbaaMg
import Derived.ProofKit
import Derived.ShutString
namespace Go.Proofs.Ytciphckjjbinbaa.mergeTexts
open Go.ChangeShapes Go.WideShapes Go.ChangeAt Go.RowKit
open Go.ChangeMaps (open_string shut_string)
open mg
set_option linter.unusedVariables false

theorem own : ownKnob Try.prog.godebug = none := by kernel_rfl
theorem laidOut : laidOutB Try.prog = true := by kernel_rfl

set_option maxHeartbeats 2000000 in
set_option maxRecDepth 100000 in
theorem walk {l : List Mg} {v : Value} {w : World} (hM : Mgs w v l) (w0 : World) (hw0 : w0 = w := by rfl) :
    Calls Try.prog 3 #[v] w0 fun e w' => e = .returned (.bool true) ∧ Below w0.heap.size w0 w' := by
  subst hw0
  have HM : Hid (∀ W, Below w0.heap.size w0 W → Mgs W v l) := fun W b => hM.later b
  have c8 := texts_any l v w0 hM
  obtain ⟨o, cap, rfl, _, _, _⟩ := hM.form
  clear hM
  have hq : ((errOf l : Int) == (errOf l : Int)) = true := beq_self_eq_true _
  go_enter Try.func3, Try.ntmps3
  go_wp2_with (first | (go_at_call 8; refine c8.mono ?_; rintro e w1 ⟨v1, rfl, s1, b1⟩; have c9 := rtexts_any l _ w1 (HM.out w1 b1); clear c8) | (go_at_call 9; refine c9.mono ?_; rintro e w2 ⟨v2, rfl, s2, b2⟩; have c10 := right_any l _ w2 (HM.out w2 (chain b1 b2)); have HS1 : Hid (StrsV w2 v1 (textsOf l)) := s1.later b2; have HS2 : Hid (StrsV w2 v2 (textsOf l)) := s2; clear c9 s1 s2) | (go_at_call 10; refine c10.mono ?_; rintro e w3 ⟨rfl, b3⟩; have c11 := like_same _ _ _ w3 (HS1.out.later b3) (HS2.out.later b3); clear c10) | (go_at_call 11; refine c11.mono ?_; rintro e w4 ⟨rfl, b4⟩))
  go_ret
  exact ⟨rfl, chain (chain b1 b2) (chain b3 b4)⟩
set_option maxRecDepth 100000 in
theorem lifted (os : Os) (started : os.Started) (H : Type) (enc : TypeId × Value → H) :
    ReturnsInHanded {} Try.checked os 3 .any (Rows.mergeTextsSpec.pre6 enc Try.prog Try.f3 Rows.mergeTextsRow.domain false) (Rows.mergeTextsSpec.post enc Try.prog Try.f3 false true false false) := by
  refine returnsInHanded_of_change_sized (C := Try.checked) own started (by kernel_rfl) Try.func3
    (ChangeSpec.witness6 (enc := enc) (C := Try.checked) false ⟨#[], #[.slice none 0 0], []⟩ 8 (by kernel_rfl) (by kernel_rfl) (by kernel_rfl) (by kernel_rfl)) ?_
  intro W base args ds gs before hval0 hW hcnd hsz0 _
  have hsz : (DataW.weightsEach Try.prog (Try.f3.params.toList ++ Rows.mergeTextsSpec.plain.varTypes Try.prog) (ds ++ gs)).all (· ≤ reachBytes) = true := hsz0
  have hval : ∀ (j : Nat) t v, Try.f3.params[j]? = some t → args[j]? = some v → Value.okWide Try.prog W .any base t v := hval0
  have hW' := hW
  obtain ⟨p, q, hA0, hV, rfl, hfz, hnd⟩ := hW
  have hA : DataW.TrodAll enc Try.prog W 0 (fun _ => true) true Try.f3.params.toList args.toList ds p := hA0
  rw [Try.params3] at hA hval hsz
  obtain ⟨v0, vs0, d0, ds0, p0, q0, hargs, rfl, rfl, h0, r0⟩ := trodAll_cons hA
  obtain ⟨rfl, rfl, rfl⟩ := trodAll_nil r0
  obtain rfl : args = #[v0] := by cases args; simp_all
  obtain ⟨rfl, rfl⟩ := trodVars_none hV
  have k0 := h0
  have lt0 : ∀ x ∈ p0, x.block < W.heap.size := by obtain ⟨m, hm⟩ := k0; exact DataW.trod_lt m _ _ _ hm
  obtain ⟨l0, F0⟩ := mg.open22 (hval 0 22 v0 rfl rfl) h0
  clear hA0 hval0
  refine (walk F0 W).mono fun e W' ⟨he, bel⟩ => ?_
  subst he
  exact ⟨_, rfl, _, _, _, [], _, [], hW', trodAll_mk1 (shut_bool Try.underlying4 _), (trodAll_cons_mk (Below.trod laidOut (by kernel_rfl) (of_decide_eq_true (by kernel_rfl)) k0 bel lt0) trodAll_mk0), rfl, bel.frame _, fun h => by cases h⟩

theorem over : Rows.mergeTextsRow.holds Try.pinned (OpenSpec.ofChange Rows.mergeTextsSpec) :=
  OpenClaim.holds_of_wide 3 Try.f3 rfl rfl rfl rfl rfl rfl rfl ⟨rfl, rfl, rfl, rfl, rfl⟩ rfl rfl rfl rfl rfl (by kernel_rfl) Try.func3 (by kernel_rfl)
    (of_decide_eq_true (by kernel_rfl)) (by unfold Func.isWrapper; first | (rw [if_pos (by decide +kernel)]; kernel_rfl) | (rw [if_neg (by decide +kernel)]; exact ⟨rfl, rfl⟩))
    (fun os started H enc _ => lifted os started H enc)

theorem proved : Rows.MergeTextsSaid :=
  over
#print axioms proved
end Go.Proofs.Ytciphckjjbinbaa.mergeTexts
