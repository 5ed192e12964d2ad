/-
  For every three sets the law SetRules of package fretsawlaw05 returns true (sets go by the rules of sets), and the arguments read as before. No condition.
-/
import Derived.Test.YtfpihoghpogblaaRows
import Derived.Test.YtfpihoghpogblaaRef
import Derived.Test.YtfpihoghpogblaaEq
import Derived.WalkKit
import Derived.ProofKit
import Derived.OpenShut
import Derived.ChangeOld
import Derived.SizedLaws
import Derived.ShutString
import Derived.Lib.QuietBelow
import Derived.BigQuiet
import Derived.Test.YtfpihoghpogblaaLex
import Derived.Below
namespace Go.Proofs.Ytfpihoghpogblaa.setRules
open Go.Sort Go.ChangeShapes Go.WideShapes Go.ChangeAt Go.RowKit
open Go.ChangeMaps (open_string shut_string)
set_option linter.unusedVariables false

theorem own : ownKnob Try.prog.godebug = none := by kernel_rfl
theorem laidOut : laidOutB Try.prog = true := by kernel_rfl

/-- the law's one statement, as three small tables of numbers: what each step writes, what it looks at, what it waits for -/
def tab : List (Nat × List Nat × List Nat) := [(11, [9], []), (12, [7], []), (13, [3], []), (14, [4], []), (15, [11, 12, 13], [1, 2, 3]), (16, [10, 14], [0, 4, 4]), (17, [8], []), (18, [9], []), (19, [3], []), (20, [17, 18], [7, 8, 5]), (21, [9], []), (22, [4], []), (23, [20, 21], [10, 11, 9]), (24, [16, 19, 22], [6, 9, 12, 12]), (25, [15, 23], [5, 13]), (26, [24], [14, 13]), (27, [7, 25], [15]), (28, [3, 25], [15]), (29, [8, 25], [15]), (30, [3, 25], [15]), (31, [4, 25], [15]), (32, [28, 29, 30, 25], [18, 19, 20, 15, 15]), (33, [26, 27, 31, 25], [16, 17, 21, 21, 15]), (34, [3, 25], [15]), (35, [32, 33, 25], [22, 23, 15]), (36, [25, 34], [15, 24]), (37, [35], [25, 22]), (38, [8, 36], [26]), (39, [3, 36], [26]), (40, [7, 36], [26]), (41, [3, 36], [26]), (42, [4, 36], [26]), (43, [39, 40, 41, 36], [29, 30, 31, 26, 26]), (44, [37, 38, 42, 36], [27, 28, 32, 32, 26]), (45, [3, 36], [26]), (46, [43, 44, 36], [33, 34, 26]), (47, [36, 45], [26, 35]), (48, [46], [36, 33]), (49, [8, 47], [37]), (50, [3, 47], [37]), (51, [7, 47], [37]), (52, [4, 47], [37]), (53, [5, 47], [37]), (54, [50, 51, 52, 47], [40, 41, 42, 37, 37]), (55, [48, 49, 53, 47], [38, 39, 43, 43, 37]), (56, [7, 47], [37]), (57, [8, 47], [37]), (58, [3, 47], [37]), (59, [4, 47], [37]), (60, [56, 57, 58, 47], [46, 47, 48, 44, 37]), (61, [8, 47], [37]), (62, [3, 47], [37]), (63, [5, 47], [37]), (64, [60, 61, 62, 47], [50, 51, 52, 49, 37]), (65, [55, 59, 63, 47], [45, 49, 53, 53, 37]), (66, [54, 64, 47], [44, 54, 37]), (67, [47, 65], [37, 55]), (68, [66], [56, 54]), (69, [9, 67], [57]), (70, [9, 67], [57]), (71, [3, 67], [57]), (72, [69, 70, 67], [59, 60, 57, 57]), (73, [68, 71, 67], [58, 61, 61, 57]), (74, [3, 67], [57]), (75, [72, 73, 67], [62, 63, 57]), (76, [67, 74], [57, 64]), (77, [75], [65, 62]), (78, [7, 76], [66]), (79, [3, 76], [66]), (80, [4, 76], [66]), (81, [77, 78, 79, 76], [67, 68, 69, 66, 66]), (82, [7, 76], [66]), (83, [4, 76], [66]), (84, [3, 76], [66]), (85, [81, 82, 83, 76], [71, 72, 73, 70, 66]), (86, [80, 84, 76], [70, 74, 66]), (87, [76, 85], [66, 75]), (88, [86], [76, 74]), (89, [3, 87], [77]), (90, [88, 87], [78, 77, 77]), (91, [89, 87], [79, 79, 77]), (92, [3, 87], [77]), (93, [90, 91, 87], [80, 81, 77]), (94, [87, 92], [77, 82]), (95, [93], [83, 80]), (96, [3, 94], [84]), (97, [95, 94], [85, 84, 84]), (98, [9, 94], [84]), (99, [3, 94], [84]), (100, [97, 98, 94], [87, 88, 86, 84]), (101, [99, 94], [89, 89, 84]), (102, [96, 100, 94], [86, 90, 84]), (103, [101, 94], [91, 84]), (104, [94, 102], [84, 92]), (105, [103], [93, 90]), (106, [7, 104], [94]), (107, [3, 104], [94]), (108, [4, 104], [94]), (109, [105, 106, 107, 104], [95, 96, 97, 94, 94]), (110, [108, 104], [98, 98, 94]), (111, [8, 104], [94]), (112, [3, 104], [94]), (113, [4, 104], [94]), (114, [110, 111, 112, 104], [100, 101, 102, 99, 94]), (115, [113, 104], [103, 103, 94]), (116, [109, 114, 104], [99, 104, 94]), (117, [3, 104], [94]), (118, [116, 104], [106, 104, 94]), (119, [4, 104], [94]), (120, [118, 104], [108, 107, 94]), (121, [117, 119, 104], [107, 109, 94]), (122, [115, 120, 104], [105, 110, 94]), (123, [104, 121], [94, 111]), (7, [122], [112, 109, 0, 1, 2, 3, 4, 5, 6, 7, 8, 9, 10, 11, 12, 13, 14, 15, 16, 17, 18, 19, 20, 21, 22, 23, 24, 25, 26, 27, 28, 29, 30, 31, 32, 33, 34, 35, 36, 37, 38, 39, 40, 41, 42, 43, 44, 45, 46, 47, 48, 49, 50, 51, 52, 53, 54, 55, 56, 57, 58, 59, 60, 61, 62, 63, 64, 65, 66, 67, 68, 69, 70, 71, 72, 73, 74, 75, 76, 77, 78, 79, 80, 81, 82, 83, 84, 85, 86, 87, 88, 89, 90, 91, 92, 93, 94, 95, 96, 97, 98, 99, 100, 101, 102, 103, 104, 105, 106, 107, 108, 109, 110, 111, 112])]

set_option maxHeartbeats 8000000 in
set_option maxRecDepth 100000 in
theorem walk (a b c : st.Q4) (ha : st.Fits a) (hb : st.Fits b) (hc : st.Fits c) (w : World) :
    Calls Try.prog 6 #[.agg #[.int .u64 a.a, .int .u64 a.b, .int .u64 a.c, .int .u64 a.d], .agg #[.int .u64 b.a, .int .u64 b.b, .int .u64 b.c, .int .u64 b.d], .agg #[.int .u64 c.a, .int .u64 c.b, .int .u64 c.c, .int .u64 c.d]] w fun e w' => e = .returned (.bool true) ∧ Below w.heap.size w w' := by
  have e23 := st.eq23
  have r1 := st.rule1 ha hb
  have r2 := st.rule2 ha hb
  have r3 := st.rule3 ha hb
  have r4 := st.rule4 ha hb hc
  have r5 := st.rule5 ha
  have r6 := st.rule6 b a hb ha
  have r7 : ((st.cnt a : Nat) : Int) + ((st.cnt (st.nt a) : Nat) : Int) = 256 := by have := st.cnt_nt ha; omega
  have r8 : ((st.cnt (st.jn a b) : Nat) : Int) + ((st.cnt (st.mt a b) : Nat) : Int) = ((st.cnt a : Nat) : Int) + ((st.cnt b : Nat) : Int) := by have := st.cnt_jn a b; omega
  have z1 := st.cnt_le a
  have z2 := st.cnt_le b
  have h12 := st.bytes_any a ha _ rfl
  have h8 := st.of_any (st.text a) (by rw [st.text_size]; omega) a (by rw [st.codes_text, st.ofl_mem ha])
  generalize st.text a = t at *
  obtain ⟨w0, hw0⟩ : ∃ w0, w0 = ((w.alloc (.cells #[.int .u64 a.a, .int .u64 a.b, .int .u64 a.c, .int .u64 a.d] 25)).alloc (.cells #[.int .u64 b.a, .int .u64 b.b, .int .u64 b.c, .int .u64 b.d] 25)).alloc (.cells #[.int .u64 c.a, .int .u64 c.b, .int .u64 c.c, .int .u64 c.d] 25) := ⟨_, rfl⟩
  have hB : Below w.heap.size w w0 := by rw [hw0]; exact (((Below.refl _ _).alloc (Nat.le_refl _) _).alloc (by simp) _).alloc (by simp; omega) _
  have ba : st.Blk w0 w.heap.size a := by rw [hw0]; exact st.heap3_old w _ _ _
  have bb : st.Blk w0 (w.heap.size + 1) b := by rw [hw0]; exact st.heap3_mid w _ _ _
  have bc : st.Blk w0 (w.heap.size + 1 + 1) c := by rw [hw0]; exact st.heap3 w _ _ _
  have ka0 := cell_regrown ba.c0
  have ka1 := cell_regrown ba.c1
  have ka2 := cell_regrown ba.c2
  have ka3 := cell_regrown ba.c3
  have kb0 := cell_regrown bb.c0
  have kb1 := cell_regrown bb.c1
  have kb2 := cell_regrown bb.c2
  have kb3 := cell_regrown bb.c3
  have kc0 := cell_regrown bc.c0
  have kc1 := cell_regrown bc.c1
  have kc2 := cell_regrown bc.c2
  have kc3 := cell_regrown bc.c3
  have hj : ∀ q r : st.Q4, st.Fits q → st.Fits r → ∀ d os, Calls Try.prog 17 #[.agg #[.int .u64 q.a, .int .u64 q.b, .int .u64 q.c, .int .u64 q.d], .agg #[.int .u64 r.a, .int .u64 r.b, .int .u64 r.c, .int .u64 r.d]] (grow (redrawn w0 d) os) fun e w'' => e = .returned (.agg #[.int .u64 (st.jn q r).a, .int .u64 (st.jn q r).b, .int .u64 (st.jn q r).c, .int .u64 (st.jn q r).d]) ∧ ∃ p : Regrown, w'' = grow (redrawn w0 p.d) p.os := fun q r hq hr d os => Calls.regrown_of (st.join_any q r _ hq hr rfl _)
  have hm : ∀ q r : st.Q4, st.Fits q → st.Fits r → ∀ d os, Calls Try.prog 19 #[.agg #[.int .u64 q.a, .int .u64 q.b, .int .u64 q.c, .int .u64 q.d], .agg #[.int .u64 r.a, .int .u64 r.b, .int .u64 r.c, .int .u64 r.d]] (grow (redrawn w0 d) os) fun e w'' => e = .returned (.agg #[.int .u64 (st.mt q r).a, .int .u64 (st.mt q r).b, .int .u64 (st.mt q r).c, .int .u64 (st.mt q r).d]) ∧ ∃ p : Regrown, w'' = grow (redrawn w0 p.d) p.os := fun q r hq hr d os => Calls.regrown_of (st.meet_any q r _ hq hr rfl _)
  have hn : ∀ q : st.Q4, st.Fits q → ∀ d os, Calls Try.prog 21 #[.agg #[.int .u64 q.a, .int .u64 q.b, .int .u64 q.c, .int .u64 q.d]] (grow (redrawn w0 d) os) fun e w'' => e = .returned (.agg #[.int .u64 (st.nt q).a, .int .u64 (st.nt q).b, .int .u64 (st.nt q).c, .int .u64 (st.nt q).d]) ∧ ∃ p : Regrown, w'' = grow (redrawn w0 p.d) p.os := fun q hq d os => Calls.regrown_of (st.not_any q _ hq rfl _)
  have h14 : ∀ q : st.Q4, st.Fits q → ∀ d os, Calls Try.prog 14 #[.agg #[.int .u64 q.a, .int .u64 q.b, .int .u64 q.c, .int .u64 q.d]] (grow (redrawn w0 d) os) fun e w'' => e = .returned (.int .i64 (st.cnt q)) ∧ ∃ p : Regrown, w'' = grow (redrawn w0 p.d) p.os := fun q hq d os => Calls.regrown_of (st.count_any q _ hq rfl _)
  have g12 : ∀ d os, Calls Try.prog 12 #[.agg #[.int .u64 a.a, .int .u64 a.b, .int .u64 a.c, .int .u64 a.d]] (grow (redrawn w0 d) os) fun e w'' => e = .returned (.string t) ∧ ∃ p : Regrown, w'' = grow (redrawn w0 p.d) p.os := fun d os => Calls.regrown_of (h12 _)
  have g8 : ∀ d os, Calls Try.prog 8 #[.string t] (grow (redrawn w0 d) os) fun e w'' => e = .returned (.agg #[.int .u64 a.a, .int .u64 a.b, .int .u64 a.c, .int .u64 a.d]) ∧ ∃ p : Regrown, w'' = grow (redrawn w0 p.d) p.os := fun d os => Calls.regrown_of (h8 _)
  clear h12 h8 ba bb bc
  go_enter Try.func6, Try.ntmps6
  go_wp2_with fail
  rw [← hw0]
  clear hw0
  refine wp_region_quiet_below (by kernel_rfl) (st.lex_of tab (by kernel_rfl) (by kernel_rfl) (by kernel_rfl)) ?_
  simp only [List.cons_append, List.nil_append, List.append_eq]
  repeat (go_big_quiet_step (first | (with_reducible exact hj _ _ (by repeat first | assumption | apply st.fits_jn | apply st.fits_mt | apply st.fits_nt) (by repeat first | assumption | apply st.fits_jn | apply st.fits_mt | apply st.fits_nt) _ _) | (with_reducible exact hm _ _ (by repeat first | assumption | apply st.fits_jn | apply st.fits_mt | apply st.fits_nt) (by repeat first | assumption | apply st.fits_jn | apply st.fits_mt | apply st.fits_nt) _ _) | (with_reducible exact hn _ (by repeat first | assumption | apply st.fits_jn | apply st.fits_mt | apply st.fits_nt) _ _) | (with_reducible exact h14 _ (by repeat first | assumption | apply st.fits_jn | apply st.fits_mt | apply st.fits_nt) _ _) | (with_reducible exact g12 _ _) | (with_reducible exact g8 _ _)))
  refine wpQuiet_nil ?_
  intro _ hw'
  obtain ⟨⟨dq, osq⟩, hw''⟩ := hw'
  subst hw''
  go_wp2
  go_ret
  exact ⟨rfl, hB.trans ((below_regrown w0 dq osq).mono hB.size)⟩

set_option maxRecDepth 100000 in
theorem lifted (os : Os) (started : os.Started) (H : Type) (enc : TypeId × Value → H) :
    ReturnsInHanded {} Try.checked os 6 .any (Rows.setRulesSpec.pre6 enc Try.prog Try.f6 Rows.setRulesRow.domain false) (Rows.setRulesSpec.post enc Try.prog Try.f6 false true false false) := by
  refine returnsInHanded_of_change_sized (C := Try.checked) own started (by kernel_rfl) Try.func6
    (ChangeSpec.witness6 (enc := enc) (C := Try.checked) false ⟨#[], #[.agg #[.int .u64 0, .int .u64 0, .int .u64 0, .int .u64 0], .agg #[.int .u64 0, .int .u64 0, .int .u64 0, .int .u64 0], .agg #[.int .u64 0, .int .u64 0, .int .u64 0, .int .u64 0]], []⟩ 8 (by kernel_rfl) (by kernel_rfl) (by kernel_rfl) (by kernel_rfl)) ?_
  intro W base args ds gs before hval0 hW hcnd hsz0 _
  have hsz : (DataW.weightsEach Try.prog (Try.f6.params.toList ++ Rows.setRulesSpec.plain.varTypes Try.prog) (ds ++ gs)).all (· ≤ reachBytes) = true := hsz0
  have hval : ∀ (j : Nat) t v, Try.f6.params[j]? = some t → args[j]? = some v → Value.okWide Try.prog W .any base t v := hval0
  have hW' := hW
  obtain ⟨p, q, hA0, hV, rfl, hfz, hnd⟩ := hW
  have hA : DataW.TrodAll enc Try.prog W 0 (fun _ => true) true Try.f6.params.toList args.toList ds p := hA0
  rw [Try.params6] at hA hval hsz
  obtain ⟨v0, vs0, d0, ds0, p0, q0, hargs, rfl, rfl, h0, r0⟩ := trodAll_cons hA
  obtain ⟨v1, vs1, d1, ds1, p1, q1, rfl, rfl, rfl, h1, r1⟩ := trodAll_cons r0
  obtain ⟨v2, vs2, d2, ds2, p2, q2, rfl, rfl, rfl, h2, r2⟩ := trodAll_cons r1
  obtain ⟨rfl, rfl, rfl⟩ := trodAll_nil r2
  obtain rfl : args = #[v0, v1, v2] := by cases args; simp_all
  obtain ⟨rfl, rfl⟩ := trodVars_none hV
  have k0 := h0
  have lt0 : ∀ x ∈ p0, x.block < W.heap.size := by obtain ⟨m, hm⟩ := k0; exact DataW.trod_lt m _ _ _ hm
  obtain ⟨a0, f0, rfl⟩ := st.open25 (hval 0 25 v0 rfl rfl) h0
  have k1 := h1
  have lt1 : ∀ x ∈ p1, x.block < W.heap.size := by obtain ⟨m, hm⟩ := k1; exact DataW.trod_lt m _ _ _ hm
  obtain ⟨a1, f1, rfl⟩ := st.open25 (hval 1 25 v1 rfl rfl) h1
  have k2 := h2
  have lt2 : ∀ x ∈ p2, x.block < W.heap.size := by obtain ⟨m, hm⟩ := k2; exact DataW.trod_lt m _ _ _ hm
  obtain ⟨a2, f2, rfl⟩ := st.open25 (hval 2 25 v2 rfl rfl) h2
  clear hA0 hval0
  refine (walk a0 a1 a2 f0 f1 f2 W).mono fun e W' ⟨he, bel⟩ => ?_
  subst he
  exact ⟨_, rfl, _, _, _, [], _, [], hW', trodAll_mk1 (shut_bool Try.underlying4 _), (trodAll_cons_mk (Below.trod laidOut (by kernel_rfl) (of_decide_eq_true (by kernel_rfl)) k0 bel lt0) (trodAll_cons_mk (Below.trod laidOut (by kernel_rfl) (of_decide_eq_true (by kernel_rfl)) k1 bel lt1) (trodAll_cons_mk (Below.trod laidOut (by kernel_rfl) (of_decide_eq_true (by kernel_rfl)) k2 bel lt2) trodAll_mk0))), rfl, bel.frame _, fun h => by cases h⟩

theorem over : Rows.setRulesRow.holds Try.pinned (OpenSpec.ofChange Rows.setRulesSpec) :=
  OpenClaim.holds_of_wide 6 Try.f6 rfl rfl rfl rfl rfl rfl rfl ⟨rfl, rfl, rfl, rfl, rfl⟩ rfl rfl rfl rfl rfl (by kernel_rfl) Try.func6 (by kernel_rfl)
    (of_decide_eq_true (by kernel_rfl)) (by unfold Func.isWrapper; first | (rw [if_pos (by decide +kernel)]; kernel_rfl) | (rw [if_neg (by decide +kernel)]; exact ⟨rfl, rfl⟩))
    (fun os started H enc _ => lifted os started H enc)

theorem proved : Rows.SetRulesSaid :=
  over
#print axioms proved
end Go.Proofs.Ytfpihoghpogblaa.setRules
