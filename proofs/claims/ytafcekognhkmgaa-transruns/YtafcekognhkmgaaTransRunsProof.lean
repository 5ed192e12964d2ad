/-
  For every machine and every text the law TransRuns of package fretsawlaw12 returns true (which machine may be, and what any one puts of any text, or why it doesn't, is as the document says), and the arguments read as before. No condition.
-/
import Derived.Test.YtafcekognhkmgaaTk
import Derived.ProofKit
import Derived.ShutString
import Derived.Lib.QuietBelow
namespace Go.Proofs.Ytafcekognhkmgaa.transRuns
open Go.ChangeShapes Go.WideShapes Go.ChangeAt Go.RowKit Go.Sort
open Go.ChangeMaps (open_string shut_string)
open tr
set_option linter.unusedVariables false

theorem own : ownKnob Try.prog.godebug = none := by kernel_rfl
theorem laidOut : laidOutB Try.prog = true := by kernel_rfl

set_option maxHeartbeats 2000000 in
set_option maxRecDepth 100000 in
theorem walk_not {m : Mc} {p : Mp} {w : World} (hM : MAt (In w) w m p) {s : ByteArray} (hs : s.size ≤ 140737488351232) (hr : right m = false) : Calls Try.prog 3 #[.agg (mv m p), .string s] w fun e w' => e = .returned (.bool true) ∧ Below w.heap.size w w' := by
  obtain ⟨wA, HWA⟩ : ∃ wA, Hid (wA = w.alloc (.cells (mv m p) 26)) := ⟨_, rfl⟩
  have B0 : Below w.heap.size w wA := by rw [HWA.out]; exact below_alloc w _
  have hMA : MAt (In wA) wA m p := hM.later B0
  have hXA : Box wA w.heap.size m p := by rw [HWA.out]; exact box_new w m p
  have HK : Hid (∀ W, Below wA.heap.size wA W → Box W w.heap.size m p ∧ MAt (In W) W m p) := fun W b => ⟨hXA.later b, hMA.later b⟩
  have c9 := right_any m _ rfl p
  have c10 := rright_any m _ rfl p
  have c11 := run_any m s (by omega) _ _ rfl rfl p
  rw [hr] at c9 c10
  rw [show tr.runT m s = ⟨#[]⟩ by unfold tr.runT; rw [if_neg (by simp [hr])], show runE m s = 120 by unfold runE; rw [if_neg (by simp [hr])]] at c11
  have z0 := cell_regrown hXA.c0
  have z1 := cell_regrown hXA.c1
  have z2 := cell_regrown hXA.c2
  have z3 := cell_regrown hXA.c3
  have g1 : ∀ d os, Calls Try.prog 9 #[.agg (mv m p)] (grow (redrawn wA d) os) fun e w'' => e = .returned (.bool false) ∧ ∃ p : Regrown, w'' = grow (redrawn wA p.d) p.os := fun d os => Calls.regrown_of (c9 _ (HK.out _ (below_regrown wA d os)).2)
  have g2 : ∀ d os, Calls Try.prog 10 #[.agg (mv m p)] (grow (redrawn wA d) os) fun e w'' => e = .returned (.bool false) ∧ ∃ p : Regrown, w'' = grow (redrawn wA p.d) p.os := fun d os => Calls.regrown_of (c10 _ (HK.out _ (below_regrown wA d os)).2)
  clear hr
  clear c9 hM hMA hXA
  go_enter Try.func3, Try.ntmps3
  go_wp2_with (fail)
  rw [← HWA.out]
  clear HWA
  refine wp_region_quiet_below (by kernel_rfl) (by kernel_rfl) ?_
  repeat (go_big_quiet_step (first | (with_reducible exact g1 _ _) | (with_reducible exact g2 _ _)))
  refine wpQuiet_nil ?_
  intro _ hw'
  obtain ⟨⟨dq, osq⟩, hw''⟩ := hw'
  subst hw''
  have b1 := below_regrown wA dq osq
  clear g1 g2 z0 z1 z2 z3
  generalize grow (redrawn wA dq) osq = w1 at *
  have X1 := (HK.out w1 b1).1
  have d11 := c11 w1 (HK.out w1 b1).2
  go_wp2_with (first | (refine wpList_load_row rfl 26 (.tmp 2) rfl w.heap.size rfl 26 (mv m p) (0, 0) _ X1 Try.underlying26 rfl info26 ?_) | (go_at_call 11; refine d11.mono ?_; rintro e w2 ⟨rfl, b2⟩; have b2' := chain b1 b2; have X2 := (HK.out w2 b2').1; have d10 := c10 w2 (HK.out w2 b2').2; clear X1) | (refine wpList_load_row rfl 26 (.tmp 2) rfl w.heap.size rfl 26 (mv m p) (0, 0) _ X2 Try.underlying26 rfl info26 ?_) | (go_at_call 10; refine d10.mono ?_; rintro e w3 ⟨rfl, b3⟩; have b3' := chain b2' b3; have X3 := (HK.out w3 b3').1; clear X2))
  go_ret
  exact ⟨rfl, chain B0 b3'⟩
set_option maxHeartbeats 2000000 in
set_option maxRecDepth 100000 in
theorem walk_long {m : Mc} {p : Mp} {w : World} (hM : MAt (In w) w m p) {s : ByteArray} (hs : s.size ≤ 140737488351232) (hr : right m = true) (h4 : ¬ s.size ≤ 4096) : Calls Try.prog 3 #[.agg (mv m p), .string s] w fun e w' => e = .returned (.bool true) ∧ Below w.heap.size w w' := by
  obtain ⟨wA, HWA⟩ : ∃ wA, Hid (wA = w.alloc (.cells (mv m p) 26)) := ⟨_, rfl⟩
  have B0 : Below w.heap.size w wA := by rw [HWA.out]; exact below_alloc w _
  have hMA : MAt (In wA) wA m p := hM.later B0
  have hXA : Box wA w.heap.size m p := by rw [HWA.out]; exact box_new w m p
  have HK : Hid (∀ W, Below wA.heap.size wA W → Box W w.heap.size m p ∧ MAt (In W) W m p) := fun W b => ⟨hXA.later b, hMA.later b⟩
  have c9 := right_any m _ rfl p
  have c10 := rright_any m _ rfl p
  have c11 := run_any m s (by omega) _ _ rfl rfl p
  rw [hr] at c9 c10
  rw [show tr.runT m s = ⟨#[]⟩ by unfold tr.runT; rw [if_neg (fun h => h4 h.2.1)], show runE m s = 2 by unfold runE; rw [if_pos hr, if_neg (fun h => h4 h.1)]] at c11
  have z0 := cell_regrown hXA.c0
  have z1 := cell_regrown hXA.c1
  have z2 := cell_regrown hXA.c2
  have z3 := cell_regrown hXA.c3
  have g1 : ∀ d os, Calls Try.prog 9 #[.agg (mv m p)] (grow (redrawn wA d) os) fun e w'' => e = .returned (.bool true) ∧ ∃ p : Regrown, w'' = grow (redrawn wA p.d) p.os := fun d os => Calls.regrown_of (c9 _ (HK.out _ (below_regrown wA d os)).2)
  have g2 : ∀ d os, Calls Try.prog 10 #[.agg (mv m p)] (grow (redrawn wA d) os) fun e w'' => e = .returned (.bool true) ∧ ∃ p : Regrown, w'' = grow (redrawn wA p.d) p.os := fun d os => Calls.regrown_of (c10 _ (HK.out _ (below_regrown wA d os)).2)
  have f1 : (4096 : Int) < (s.size : Int) := by omega
  clear hr h4
  clear c9 hM hMA hXA
  go_enter Try.func3, Try.ntmps3
  go_wp2_with (fail)
  rw [← HWA.out]
  clear HWA
  refine wp_region_quiet_below (by kernel_rfl) (by kernel_rfl) ?_
  repeat (go_big_quiet_step (first | (with_reducible exact g1 _ _) | (with_reducible exact g2 _ _)))
  refine wpQuiet_nil ?_
  intro _ hw'
  obtain ⟨⟨dq, osq⟩, hw''⟩ := hw'
  subst hw''
  have b1 := below_regrown wA dq osq
  clear g1 g2 z0 z1 z2 z3
  generalize grow (redrawn wA dq) osq = w1 at *
  have X1 := (HK.out w1 b1).1
  have d11 := c11 w1 (HK.out w1 b1).2
  go_wp2_with (first | (refine wpList_load_row rfl 26 (.tmp 2) rfl w.heap.size rfl 26 (mv m p) (0, 0) _ X1 Try.underlying26 rfl info26 ?_) | (go_at_call 11; refine d11.mono ?_; rintro e w2 ⟨rfl, b2⟩; have b2' := chain b1 b2; have X2 := (HK.out w2 b2').1; have d10 := c10 w2 (HK.out w2 b2').2; clear X1) | (refine wpList_load_row rfl 26 (.tmp 2) rfl w.heap.size rfl 26 (mv m p) (0, 0) _ X2 Try.underlying26 rfl info26 ?_) | (go_at_call 10; refine d10.mono ?_; rintro e w3 ⟨rfl, b3⟩; have b3' := chain b2' b3; have X3 := (HK.out w3 b3').1; clear X2))
  go_ret
  exact ⟨rfl, chain B0 b3'⟩
set_option maxHeartbeats 2000000 in
set_option maxRecDepth 100000 in
theorem walk_much {m : Mc} {p : Mp} {w : World} (hM : MAt (In w) w m p) {s : ByteArray} (hs : s.size ≤ 140737488351232) (hr : right m = true) (h4 : s.size ≤ 4096) (h6 : ¬ (total m 0 s.data.toList).length ≤ 262144) : Calls Try.prog 3 #[.agg (mv m p), .string s] w fun e w' => e = .returned (.bool true) ∧ Below w.heap.size w w' := by
  obtain ⟨wA, HWA⟩ : ∃ wA, Hid (wA = w.alloc (.cells (mv m p) 26)) := ⟨_, rfl⟩
  have B0 : Below w.heap.size w wA := by rw [HWA.out]; exact below_alloc w _
  have hMA : MAt (In wA) wA m p := hM.later B0
  have hXA : Box wA w.heap.size m p := by rw [HWA.out]; exact box_new w m p
  have HK : Hid (∀ W, Below wA.heap.size wA W → Box W w.heap.size m p ∧ MAt (In W) W m p) := fun W b => ⟨hXA.later b, hMA.later b⟩
  have c9 := right_any m _ rfl p
  have c10 := rright_any m _ rfl p
  have c11 := run_any m s (by omega) _ _ rfl rfl p
  rw [hr] at c9 c10
  rw [show tr.runT m s = ⟨#[]⟩ by unfold tr.runT; rw [if_neg (fun h => h6 h.2.2)], show runE m s = 2 by unfold runE; rw [if_pos hr, if_neg (fun h => h6 h.2)]] at c11
  have c12 := rrun_any m (right_iff.1 hr) s (by omega) 262144 (by omega) _ _ rfl rfl p
  rw [show rrunT m s 262144 = ⟨#[]⟩ by unfold rrunT; rw [if_neg h6], show rrunL m s 262144 = true by unfold rrunL; exact decide_eq_true (by omega)] at c12
  have z0 := cell_regrown hXA.c0
  have z1 := cell_regrown hXA.c1
  have z2 := cell_regrown hXA.c2
  have z3 := cell_regrown hXA.c3
  have g1 : ∀ d os, Calls Try.prog 9 #[.agg (mv m p)] (grow (redrawn wA d) os) fun e w'' => e = .returned (.bool true) ∧ ∃ p : Regrown, w'' = grow (redrawn wA p.d) p.os := fun d os => Calls.regrown_of (c9 _ (HK.out _ (below_regrown wA d os)).2)
  have g2 : ∀ d os, Calls Try.prog 10 #[.agg (mv m p)] (grow (redrawn wA d) os) fun e w'' => e = .returned (.bool true) ∧ ∃ p : Regrown, w'' = grow (redrawn wA p.d) p.os := fun d os => Calls.regrown_of (c10 _ (HK.out _ (below_regrown wA d os)).2)
  have f1 : ¬ (4096 : Int) < (s.size : Int) := by omega
  clear hr h4 h6
  clear c9 hM hMA hXA
  go_enter Try.func3, Try.ntmps3
  go_wp2_with (fail)
  rw [← HWA.out]
  clear HWA
  refine wp_region_quiet_below (by kernel_rfl) (by kernel_rfl) ?_
  repeat (go_big_quiet_step (first | (with_reducible exact g1 _ _) | (with_reducible exact g2 _ _)))
  refine wpQuiet_nil ?_
  intro _ hw'
  obtain ⟨⟨dq, osq⟩, hw''⟩ := hw'
  subst hw''
  have b1 := below_regrown wA dq osq
  clear g1 g2 z0 z1 z2 z3
  generalize grow (redrawn wA dq) osq = w1 at *
  have X1 := (HK.out w1 b1).1
  have d11 := c11 w1 (HK.out w1 b1).2
  go_wp2_with (first | (refine wpList_load_row rfl 26 (.tmp 2) rfl w.heap.size rfl 26 (mv m p) (0, 0) _ X1 Try.underlying26 rfl info26 ?_) | (go_at_call 11; refine d11.mono ?_; rintro e w2 ⟨rfl, b2⟩; have b2' := chain b1 b2; have X2 := (HK.out w2 b2').1; have d10 := c10 w2 (HK.out w2 b2').2; clear X1) | (refine wpList_load_row rfl 26 (.tmp 2) rfl w.heap.size rfl 26 (mv m p) (0, 0) _ X2 Try.underlying26 rfl info26 ?_) | (go_at_call 10; refine d10.mono ?_; rintro e w3 ⟨rfl, b3⟩; have b3' := chain b2' b3; have X3 := (HK.out w3 b3').1; have d12 := c12 w3 (HK.out w3 b3').2; clear X2) | (refine wpList_load_row rfl 26 (.tmp 2) rfl w.heap.size rfl 26 (mv m p) (0, 0) _ X3 Try.underlying26 rfl info26 ?_) | (go_at_call 12; refine d12.mono ?_; rintro e w4 ⟨rfl, b4⟩; have b4' := chain b3' b4))
  go_ret
  exact ⟨rfl, chain B0 b4'⟩
set_option maxHeartbeats 2000000 in
set_option maxRecDepth 100000 in
theorem walk_ok {m : Mc} {p : Mp} {w : World} (hM : MAt (In w) w m p) {s : ByteArray} (hs : s.size ≤ 140737488351232) (hr : right m = true) (h4 : s.size ≤ 4096) (h6 : (total m 0 s.data.toList).length ≤ 262144) : Calls Try.prog 3 #[.agg (mv m p), .string s] w fun e w' => e = .returned (.bool true) ∧ Below w.heap.size w w' := by
  obtain ⟨wA, HWA⟩ : ∃ wA, Hid (wA = w.alloc (.cells (mv m p) 26)) := ⟨_, rfl⟩
  have B0 : Below w.heap.size w wA := by rw [HWA.out]; exact below_alloc w _
  have hMA : MAt (In wA) wA m p := hM.later B0
  have hXA : Box wA w.heap.size m p := by rw [HWA.out]; exact box_new w m p
  have HK : Hid (∀ W, Below wA.heap.size wA W → Box W w.heap.size m p ∧ MAt (In W) W m p) := fun W b => ⟨hXA.later b, hMA.later b⟩
  have c9 := right_any m _ rfl p
  have c10 := rright_any m _ rfl p
  have c11 := run_any m s (by omega) _ _ rfl rfl p
  rw [hr] at c9 c10
  rw [show tr.runT m s = bs (total m 0 s.data.toList) by unfold tr.runT; rw [if_pos ⟨hr, h4, h6⟩], show runE m s = 0 by unfold runE; rw [if_pos hr, if_pos ⟨h4, h6⟩]] at c11
  have c12 := rrun_any m (right_iff.1 hr) s (by omega) 262144 (by omega) _ _ rfl rfl p
  rw [show rrunT m s 262144 = bs (total m 0 s.data.toList) by unfold rrunT; rw [if_pos h6], show rrunL m s 262144 = false by unfold rrunL; exact decide_eq_false (by omega)] at c12
  have z0 := cell_regrown hXA.c0
  have z1 := cell_regrown hXA.c1
  have z2 := cell_regrown hXA.c2
  have z3 := cell_regrown hXA.c3
  have g1 : ∀ d os, Calls Try.prog 9 #[.agg (mv m p)] (grow (redrawn wA d) os) fun e w'' => e = .returned (.bool true) ∧ ∃ p : Regrown, w'' = grow (redrawn wA p.d) p.os := fun d os => Calls.regrown_of (c9 _ (HK.out _ (below_regrown wA d os)).2)
  have g2 : ∀ d os, Calls Try.prog 10 #[.agg (mv m p)] (grow (redrawn wA d) os) fun e w'' => e = .returned (.bool true) ∧ ∃ p : Regrown, w'' = grow (redrawn wA p.d) p.os := fun d os => Calls.regrown_of (c10 _ (HK.out _ (below_regrown wA d os)).2)
  have f1 : ¬ (4096 : Int) < (s.size : Int) := by omega
  clear hr h4 h6
  generalize bs (total m 0 s.data.toList) = t at *
  clear c9 hM hMA hXA
  go_enter Try.func3, Try.ntmps3
  go_wp2_with (fail)
  rw [← HWA.out]
  clear HWA
  refine wp_region_quiet_below (by kernel_rfl) (by kernel_rfl) ?_
  repeat (go_big_quiet_step (first | (with_reducible exact g1 _ _) | (with_reducible exact g2 _ _)))
  refine wpQuiet_nil ?_
  intro _ hw'
  obtain ⟨⟨dq, osq⟩, hw''⟩ := hw'
  subst hw''
  have b1 := below_regrown wA dq osq
  clear g1 g2 z0 z1 z2 z3
  generalize grow (redrawn wA dq) osq = w1 at *
  have X1 := (HK.out w1 b1).1
  have d11 := c11 w1 (HK.out w1 b1).2
  go_wp2_with (first | (refine wpList_load_row rfl 26 (.tmp 2) rfl w.heap.size rfl 26 (mv m p) (0, 0) _ X1 Try.underlying26 rfl info26 ?_) | (go_at_call 11; refine d11.mono ?_; rintro e w2 ⟨rfl, b2⟩; have b2' := chain b1 b2; have X2 := (HK.out w2 b2').1; have d10 := c10 w2 (HK.out w2 b2').2; clear X1) | (refine wpList_load_row rfl 26 (.tmp 2) rfl w.heap.size rfl 26 (mv m p) (0, 0) _ X2 Try.underlying26 rfl info26 ?_) | (go_at_call 10; refine d10.mono ?_; rintro e w3 ⟨rfl, b3⟩; have b3' := chain b2' b3; have X3 := (HK.out w3 b3').1; have d12 := c12 w3 (HK.out w3 b3').2; clear X2) | (refine wpList_load_row rfl 26 (.tmp 2) rfl w.heap.size rfl 26 (mv m p) (0, 0) _ X3 Try.underlying26 rfl info26 ?_) | (go_at_call 12; refine d12.mono ?_; rintro e w4 ⟨rfl, b4⟩; have b4' := chain b3' b4))
  go_ret
  exact ⟨rfl, chain B0 b4'⟩
theorem walk {m : Mc} {p : Mp} {w : World} (hM : MAt (In w) w m p) {s : ByteArray} (hs : s.size ≤ 140737488351232) (w0 : World) (hw0 : w0 = w := by rfl) :
    Calls Try.prog 3 #[.agg (mv m p), .string s] w0 fun e w' => e = .returned (.bool true) ∧ Below w0.heap.size w0 w' := by
  subst hw0
  cases hr : right m with
  | false => exact walk_not hM hs hr
  | true =>
    by_cases h4 : s.size ≤ 4096
    · by_cases h6 : (total m 0 s.data.toList).length ≤ 262144
      · exact walk_ok hM hs hr h4 h6
      · exact walk_much hM hs hr h4 h6
    · exact walk_long hM hs hr h4

set_option maxRecDepth 100000 in
theorem lifted (os : Os) (started : os.Started) (H : Type) (enc : TypeId × Value → H) :
    ReturnsInHanded {} Try.checked os 3 .any (Rows.transRunsSpec.pre6 enc Try.prog Try.f3 Rows.transRunsRow.domain false) (Rows.transRunsSpec.post enc Try.prog Try.f3 false true false false) := by
  refine returnsInHanded_of_change_sized (C := Try.checked) own started (by kernel_rfl) Try.func3
    (ChangeSpec.witness6 (enc := enc) (C := Try.checked) false ⟨#[], #[.agg #[.slice none 0 0, .slice none 0 0, .slice none 0 0, .slice none 0 0], .string ByteArray.empty], []⟩ 8 (by kernel_rfl) (by kernel_rfl) (by kernel_rfl) (by kernel_rfl)) ?_
  intro W base args ds gs before hval0 hW hcnd hsz0 _
  have hsz : (DataW.weightsEach Try.prog (Try.f3.params.toList ++ Rows.transRunsSpec.plain.varTypes Try.prog) (ds ++ gs)).all (· ≤ reachBytes) = true := hsz0
  have hval : ∀ (j : Nat) t v, Try.f3.params[j]? = some t → args[j]? = some v → Value.okWide Try.prog W .any base t v := hval0
  have hW' := hW
  obtain ⟨p, q, hA0, hV, rfl, hfz, hnd⟩ := hW
  have hA : DataW.TrodAll enc Try.prog W 0 (fun _ => true) true Try.f3.params.toList args.toList ds p := hA0
  rw [Try.params3] at hA hval hsz
  obtain ⟨v0, vs0, d0, ds0, p0, q0, hargs, rfl, rfl, h0, r0⟩ := trodAll_cons hA
  obtain ⟨v1, vs1, d1, ds1, p1, q1, rfl, rfl, rfl, h1, r1⟩ := trodAll_cons r0
  obtain ⟨rfl, rfl, rfl⟩ := trodAll_nil r1
  obtain rfl : args = #[v0, v1] := by cases args; simp_all
  obtain ⟨rfl, rfl⟩ := trodVars_none hV
  have k0 := h0
  have lt0 : ∀ x ∈ p0, x.block < W.heap.size := by obtain ⟨m, hm⟩ := k0; exact DataW.trod_lt m _ _ _ hm
  obtain ⟨m0, mp0, rfl, F0⟩ := tr.open26 (hval 0 26 v0 rfl rfl) h0
  obtain ⟨a1, rfl, rfl, rfl, w1⟩ := open_string Try.underlying9 (hval 1 9 v1 rfl rfl) h1
  have F1 : a1.size ≤ 140737488351232 := by
    have := sized_string hsz (j := 1) (t := 9) rfl rfl
    simpa [reachBytes] using this
  clear hA0 hval0
  refine (walk F0 F1 W).mono fun e W' ⟨he, bel⟩ => ?_
  subst he
  exact ⟨_, rfl, _, _, _, [], _, [], hW', trodAll_mk1 (shut_bool Try.underlying4 _), (trodAll_cons_mk (Below.trod laidOut (by kernel_rfl) (of_decide_eq_true (by kernel_rfl)) k0 bel lt0) (trodAll_cons_mk (shut_string Try.underlying9 w1) trodAll_mk0)), rfl, bel.frame _, fun h => by cases h⟩

theorem over : Rows.transRunsRow.holds Try.pinned (OpenSpec.ofChange Rows.transRunsSpec) :=
  OpenClaim.holds_of_wide 3 Try.f3 rfl rfl rfl rfl rfl rfl rfl ⟨rfl, rfl, rfl, rfl, rfl⟩ rfl rfl rfl rfl rfl (by kernel_rfl) Try.func3 (by kernel_rfl)
    (of_decide_eq_true (by kernel_rfl)) (by unfold Func.isWrapper; first | (rw [if_pos (by decide +kernel)]; kernel_rfl) | (rw [if_neg (by decide +kernel)]; exact ⟨rfl, rfl⟩))
    (fun os started H enc _ => lifted os started H enc)

theorem proved : Rows.TransRunsSaid :=
  over
#print axioms proved
end Go.Proofs.Ytafcekognhkmgaa.transRuns
