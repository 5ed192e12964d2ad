/-
  For every configuration the law ConfigRights of package fretsawlaw17 returns true (whether it may be is as the document says), and the argument reads as before. No condition.
-/
import Derived.Test.YtljaggfliklggaaCi
import Derived.Test.YtljaggfliklggaaCj
import Derived.ProofKit
import Derived.ShutString
import Derived.Lib.QuietBelow
namespace Go.Proofs.Ytljaggfliklggaa.configRights
open Go.ChangeShapes Go.WideShapes Go.ChangeAt Go.RowKit Go.Sort
open Go.ChangeMaps (open_string shut_string)
open cf
set_option linter.unusedVariables false

theorem own : ownKnob Try.prog.godebug = none := by kernel_rfl
theorem laidOut : laidOutB Try.prog = true := by kernel_rfl

set_option maxHeartbeats 4000000 in
set_option maxRecDepth 100000 in
theorem walk_at {c : Cf} {p : Cp} {w : World} (hM : CfAt w c p) :
    Calls Try.prog 3 #[.agg (cv c p)] w fun e w' => e = .returned (.bool true) ∧ Below w.heap.size w w' := by
  obtain ⟨wA, HWA⟩ : ∃ wA, Hid (wA = w.alloc (.cells (cv c p) 34)) := ⟨_, rfl⟩
  have B0 : Below w.heap.size w wA := by rw [HWA.out]; exact mg.below_alloc w _
  have hMA : CfAt wA c p := hM.later B0
  have hX : CBox wA w.heap.size c p := by rw [HWA.out]; exact cbox_new w c p
  have z0 := cell_regrown hX.c0
  obtain ⟨y1, y2, y3, y4, y5, y6, y7, y8⟩ := hX.tree
  have z1 := cell_regrown y1
  have z2 := cell_regrown y2
  have z3 := cell_regrown y3
  have z4 := cell_regrown y4
  have z5 := cell_regrown y5
  have z6 := cell_regrown y6
  have z7 := cell_regrown y7
  have z8 := cell_regrown y8
  have z9 := cell_regrown hX.c9
  have z10 := cell_regrown hX.c10
  have z11 := cell_regrown hX.c11
  have z12 := cell_regrown hX.c12
  obtain ⟨r, hr⟩ : ∃ r, r = cfE c := ⟨_, rfl⟩
  have g1 : ∀ d os, Calls Try.prog 4 #[.agg (cv c p)] (grow (redrawn wA d) os) fun e w'' => e = .returned (.int .i64 (r : Int)) ∧ ∃ p : Regrown, w'' = grow (redrawn wA p.d) p.os := fun d os => Calls.regrown_of (right_any c p _ (hMA.later (below_regrown wA d os)) r hr)
  have g2 : ∀ d os, Calls Try.prog 5 #[.agg (cv c p)] (grow (redrawn wA d) os) fun e w'' => e = .returned (.int .i64 (r : Int)) ∧ ∃ p : Regrown, w'' = grow (redrawn wA p.d) p.os := fun d os => Calls.regrown_of (rright_any c p _ (hMA.later (below_regrown wA d os)) r hr)
  clear hM hMA hr hX y1 y2 y3 y4 y5 y6 y7 y8
  unfold cv at *
  go_enter Try.func3, Try.ntmps3
  go_wp2_with (fail)
  rw [← HWA.out]
  clear HWA
  refine wp_region_quiet_below (by kernel_rfl) (by kernel_rfl) ?_
  repeat (go_big_quiet_step (first | (with_reducible exact g1 _ _) | (with_reducible exact g2 _ _)))
  refine wpQuiet_nil ?_
  intro _ hw'
  obtain ⟨⟨dq, osq⟩, hw''⟩ := hw'
  subst hw''
  have b1 := below_regrown wA dq osq
  clear g1 g2 z0 z1 z2 z3 z4 z5 z6 z7 z8 z9 z10 z11 z12
  generalize grow (redrawn wA dq) osq = w1 at *
  go_wp2_with (fail)
  go_ret
  exact ⟨rfl, mg.chain B0 b1⟩
theorem walk {c : Cf} {p : Cp} {W : World} (hM : CfAt W c p) (w : World) : Calls Try.prog 3 #[.agg (cv c p)] W fun e w' => e = .returned (.bool true) ∧ Below W.heap.size W w' := walk_at hM

set_option maxRecDepth 100000 in
theorem lifted (os : Os) (started : os.Started) (H : Type) (enc : TypeId × Value → H) :
    ReturnsInHanded {} Try.checked os 3 .any (Rows.configRightsSpec.pre6 enc Try.prog Try.f3 Rows.configRightsRow.domain false) (Rows.configRightsSpec.post enc Try.prog Try.f3 false true false false) := by
  refine returnsInHanded_of_change_sized (C := Try.checked) own started (by kernel_rfl) Try.func3
    (ChangeSpec.witness6 (enc := enc) (C := Try.checked) false ⟨#[], #[.agg #[.slice none 0 0, .int .i64 0, .int .u64 0, .int .u64 0, .int .u64 0, .int .u64 0, .int .i64 0, .int .i64 0, .slice none 0 0, .slice none 0 0, .slice none 0 0, .slice none 0 0, .slice none 0 0]], []⟩ 8 (by kernel_rfl) (by kernel_rfl) (by kernel_rfl) (by kernel_rfl)) ?_
  intro W base args ds gs before hval0 hW hcnd hsz0 _
  have hsz : (DataW.weightsEach Try.prog (Try.f3.params.toList ++ Rows.configRightsSpec.plain.varTypes Try.prog) (ds ++ gs)).all (· ≤ reachBytes) = true := hsz0
  have hval : ∀ (j : Nat) t v, Try.f3.params[j]? = some t → args[j]? = some v → Value.okWide Try.prog W .any base t v := hval0
  have hW' := hW
  obtain ⟨p, q, hA0, hV, rfl, hfz, hnd⟩ := hW
  have hA : DataW.TrodAll enc Try.prog W 0 (fun _ => true) true Try.f3.params.toList args.toList ds p := hA0
  rw [Try.params3] at hA hval hsz
  obtain ⟨v0, vs0, d0, ds0, p0, q0, hargs, rfl, rfl, h0, r0⟩ := trodAll_cons hA
  obtain ⟨rfl, rfl, rfl⟩ := trodAll_nil r0
  obtain rfl : args = #[v0] := by cases args; simp_all
  obtain ⟨rfl, rfl⟩ := trodVars_none hV
  have k0 := h0
  have lt0 : ∀ x ∈ p0, x.block < W.heap.size := by obtain ⟨m, hm⟩ := k0; exact DataW.trod_lt m _ _ _ hm
  obtain ⟨m0, mp0, rfl, F0⟩ := cf.open34 (hval 0 34 v0 rfl rfl) h0
  clear hA0 hval0
  refine (walk F0 W).mono fun e W' ⟨he, bel⟩ => ?_
  subst he
  exact ⟨_, rfl, _, _, _, [], _, [], hW', trodAll_mk1 (shut_bool Try.underlying4 _), (trodAll_cons_mk (Below.trod laidOut (by kernel_rfl) (of_decide_eq_true (by kernel_rfl)) k0 bel lt0) trodAll_mk0), rfl, bel.frame _, fun h => by cases h⟩

theorem over : Rows.configRightsRow.holds Try.pinned (OpenSpec.ofChange Rows.configRightsSpec) :=
  OpenClaim.holds_of_wide 3 Try.f3 rfl rfl rfl rfl rfl rfl rfl ⟨rfl, rfl, rfl, rfl, rfl⟩ rfl rfl rfl rfl rfl (by kernel_rfl) Try.func3 (by kernel_rfl)
    (of_decide_eq_true (by kernel_rfl)) (by unfold Func.isWrapper; first | (rw [if_pos (by decide +kernel)]; kernel_rfl) | (rw [if_neg (by decide +kernel)]; exact ⟨rfl, rfl⟩))
    (fun os started H enc _ => lifted os started H enc)

theorem proved : Rows.ConfigRightsSaid :=
  over
#print axioms proved
end Go.Proofs.Ytljaggfliklggaa.configRights
