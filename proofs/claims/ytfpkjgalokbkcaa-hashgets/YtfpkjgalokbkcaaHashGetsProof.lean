/-
  For every hash, seed and key the law HashGets of package fretsawlaw15 returns true (how numbers are mixed, which hash may be, and what any one tells of any key, is as the document says), and the arguments read as before. No condition.
-/
import Derived.Test.YtfpkjgalokbkcaaIf
import Derived.ProofKit
import Derived.ShutString
import Derived.Lib.QuietBelow
namespace Go.Proofs.Ytfpkjgalokbkcaa.hashGets
open Go.ChangeShapes Go.WideShapes Go.ChangeAt Go.RowKit Go.Sort
open Go.ChangeMaps (open_string shut_string)
open hs
set_option linter.unusedVariables false

theorem own : ownKnob Try.prog.godebug = none := by kernel_rfl
theorem laidOut : laidOutB Try.prog = true := by kernel_rfl

set_option maxHeartbeats 4000000 in
set_option maxRecDepth 100000 in
theorem walk_at {h : Hh} {p : Hp} {w : World} (hM : HAt (In w) w h p) (s k m v : Nat) (r g : Bool) (c8 : ∀ w, HAt (In w) w h p → Calls Try.prog 8 #[.agg (hv h p), .int .u64 (k : Int)] w fun e w' => e = .returned (.tuple #[.int .u64 (v : Int), .bool r]) ∧ Below w.heap.size w w')
    (c9 : ∀ w, HAt (In w) w h p → Calls Try.prog 9 #[.agg (hv h p), .int .u64 (k : Int)] w fun e w' => e = .returned (.tuple #[.int .u64 (v : Int), .bool r]) ∧ Below w.heap.size w w')
    (c10 : ∀ w, Calls Try.prog 10 #[.int .u32 (s : Int), .int .u64 (k : Int)] w fun e w' => e = .returned (.int .u64 (m : Int)) ∧ w' = w)
    (c11 : ∀ w, Calls Try.prog 11 #[.int .u32 (s : Int), .int .u64 (k : Int)] w fun e w' => e = .returned (.int .u64 (m : Int)) ∧ w' = w)
    (c12 : ∀ w, HAt (In w) w h p → Calls Try.prog 12 #[.agg (hv h p)] w fun e w' => e = .returned (.bool g) ∧ Below w.heap.size w w')
    (c13 : ∀ w, HAt (In w) w h p → Calls Try.prog 13 #[.agg (hv h p)] w fun e w' => e = .returned (.bool g) ∧ Below w.heap.size w w') :
    Calls Try.prog 3 #[.agg (hv h p), .int .u32 (s : Int), .int .u64 (k : Int)] w fun e w' => e = .returned (.bool true) ∧ Below w.heap.size w w' := by
  obtain ⟨wA, HWA⟩ : ∃ wA, Hid (wA = w.alloc (.cells (hv h p) 25)) := ⟨_, rfl⟩
  have B0 : Below w.heap.size w wA := by rw [HWA.out]; exact below_alloc w _
  have hMA : HAt (In wA) wA h p := hM.later B0
  have hXA : Box wA w.heap.size h p := by rw [HWA.out]; exact box_new w h p
  have HK : Hid (∀ W, Below wA.heap.size wA W → Box W w.heap.size h p ∧ HAt (In W) W h p) := fun W b => ⟨hXA.later b, hMA.later b⟩
  have d8 := c8 wA hMA
  clear hM hMA
  go_enter Try.func3, Try.ntmps3
  go_wp2_with (fail)
  rw [← HWA.out]
  clear HWA
  go_wp2_with (refine wpList_load_row rfl 25 (.tmp 3) rfl w.heap.size rfl 25 (hv h p) (0, 0) _ hXA Try.underlying25 rfl info25 ?_)
  go_at_call 8
  refine d8.mono ?_
  rintro e w1 ⟨rfl, b1⟩
  have X1 := (HK.out w1 b1).1
  have d9 := c9 w1 (HK.out w1 b1).2
  clear hXA d8
  go_wp2_with (refine wpList_load_row rfl 25 (.tmp 3) rfl w.heap.size rfl 25 (hv h p) (0, 0) _ X1 Try.underlying25 rfl info25 ?_)
  go_at_call 9
  refine d9.mono ?_
  rintro e w2 ⟨rfl, b2⟩
  have b2' := chain b1 b2
  have X2 := (HK.out w2 b2').1
  have A2 := (HK.out w2 b2').2
  clear X1 d9
  go_wp2_with (fail)
  have z0 := cell_regrown X2.c0
  have z1 := cell_regrown X2.c1
  have z2 := cell_regrown X2.c2
  have g1 : ∀ d os, Calls Try.prog 10 #[.int .u32 (s : Int), .int .u64 (k : Int)] (grow (redrawn w2 d) os) fun e w'' => e = .returned (.int .u64 (m : Int)) ∧ ∃ p : Regrown, w'' = grow (redrawn w2 p.d) p.os := fun d os => Calls.regrown_of ((c10 _).mono (fun e w' hh => ⟨hh.1, by rw [hh.2]; exact Below.refl _ _⟩))
  have g2 : ∀ d os, Calls Try.prog 11 #[.int .u32 (s : Int), .int .u64 (k : Int)] (grow (redrawn w2 d) os) fun e w'' => e = .returned (.int .u64 (m : Int)) ∧ ∃ p : Regrown, w'' = grow (redrawn w2 p.d) p.os := fun d os => Calls.regrown_of ((c11 _).mono (fun e w' hh => ⟨hh.1, by rw [hh.2]; exact Below.refl _ _⟩))
  have g3 : ∀ d os, Calls Try.prog 12 #[.agg (hv h p)] (grow (redrawn w2 d) os) fun e w'' => e = .returned (.bool g) ∧ ∃ p : Regrown, w'' = grow (redrawn w2 p.d) p.os := fun d os => Calls.regrown_of (c12 _ (A2.later (below_regrown w2 d os)))
  have g4 : ∀ d os, Calls Try.prog 13 #[.agg (hv h p)] (grow (redrawn w2 d) os) fun e w'' => e = .returned (.bool g) ∧ ∃ p : Regrown, w'' = grow (redrawn w2 p.d) p.os := fun d os => Calls.regrown_of (c13 _ (A2.later (below_regrown w2 d os)))
  have e1 : ((m : Int) == (m : Int)) = true := by simp
  have e2 : ((v : Int) == (v : Int)) = true := by simp
  have e3 : (g == g) = true := by cases g <;> rfl
  have e4 : (r == r) = true := by cases r <;> rfl
  clear c8 c9 c10 c11 c12 c13 HK A2 X2
  refine wp_region_quiet_below (by kernel_rfl) (by kernel_rfl) ?_
  repeat (go_big_quiet_step (first | (with_reducible exact g1 _ _) | (with_reducible exact g2 _ _) | (with_reducible exact g3 _ _) | (with_reducible exact g4 _ _)))
  refine wpQuiet_nil ?_
  intro _ hw'
  obtain ⟨⟨dq, osq⟩, hw''⟩ := hw'
  subst hw''
  have b3 := below_regrown w2 dq osq
  clear g1 g2 g3 g4 z0 z1 z2
  generalize grow (redrawn w2 dq) osq = w3 at *
  go_wp2_with (fail)
  go_ret
  exact ⟨rfl, chain B0 (chain b2' b3)⟩
theorem walk {h : Hh} {p : Hp} {a1 a2 : Int} {w : World} (F0 : HAt (In w) w h p) (S0 : h.keys.length * 8 ≤ 140737488351232) (w1 : (Lit.int .u32 a1).wf = true) (w2 : (Lit.int .u64 a2).wf = true) (W : World) (hW : W = w) :
    Calls Try.prog 3 #[.agg (hv h p), .int .u32 a1, .int .u64 a2] w fun e w' => e = .returned (.bool true) ∧ Below w.heap.size w w' := by
  have r1 := u32_range w1
  have r2 := u64_range w2
  obtain ⟨s, rfl⟩ := Int.eq_ofNat_of_zero_le r1.1
  obtain ⟨k, rfl⟩ := Int.eq_ofNat_of_zero_le r2.1
  have hk : k < 18446744073709551616 := by omega
  exact walk_at F0 s k (mix s k) (getV h k) (getB h k) (good h) (get_any h k hk _ _ rfl rfl p) (rget_any h k hk (by omega) _ _ rfl rfl p) (fun w => mix_any s k (by omega) hk w) (fun w => rmix_any s k (by omega) hk w) (right_any h _ rfl p) (rright_any h _ rfl p)

set_option maxRecDepth 100000 in
theorem lifted (os : Os) (started : os.Started) (H : Type) (enc : TypeId × Value → H) :
    ReturnsInHanded {} Try.checked os 3 .any (Rows.hashGetsSpec.pre6 enc Try.prog Try.f3 Rows.hashGetsRow.domain false) (Rows.hashGetsSpec.post enc Try.prog Try.f3 false true false false) := by
  refine returnsInHanded_of_change_sized (C := Try.checked) own started (by kernel_rfl) Try.func3
    (ChangeSpec.witness6 (enc := enc) (C := Try.checked) false ⟨#[], #[.agg #[.slice none 0 0, .slice none 0 0, .slice none 0 0], .int .u32 0, .int .u64 0], []⟩ 8 (by kernel_rfl) (by kernel_rfl) (by kernel_rfl) (by kernel_rfl)) ?_
  intro W base args ds gs before hval0 hW hcnd hsz0 _
  have hsz : (DataW.weightsEach Try.prog (Try.f3.params.toList ++ Rows.hashGetsSpec.plain.varTypes Try.prog) (ds ++ gs)).all (· ≤ reachBytes) = true := hsz0
  have hval : ∀ (j : Nat) t v, Try.f3.params[j]? = some t → args[j]? = some v → Value.okWide Try.prog W .any base t v := hval0
  have hW' := hW
  obtain ⟨p, q, hA0, hV, rfl, hfz, hnd⟩ := hW
  have hA : DataW.TrodAll enc Try.prog W 0 (fun _ => true) true Try.f3.params.toList args.toList ds p := hA0
  rw [Try.params3] at hA hval hsz
  obtain ⟨v0, vs0, d0, ds0, p0, q0, hargs, rfl, rfl, h0, r0⟩ := trodAll_cons hA
  obtain ⟨v1, vs1, d1, ds1, p1, q1, rfl, rfl, rfl, h1, r1⟩ := trodAll_cons r0
  obtain ⟨v2, vs2, d2, ds2, p2, q2, rfl, rfl, rfl, h2, r2⟩ := trodAll_cons r1
  obtain ⟨rfl, rfl, rfl⟩ := trodAll_nil r2
  obtain rfl : args = #[v0, v1, v2] := by cases args; simp_all
  obtain ⟨rfl, rfl⟩ := trodVars_none hV
  have k0 := h0
  have lt0 : ∀ x ∈ p0, x.block < W.heap.size := by obtain ⟨m, hm⟩ := k0; exact DataW.trod_lt m _ _ _ hm
  obtain ⟨m0, mp0, rfl, F0, G0⟩ := hs.open25 (hval 0 25 v0 rfl rfl) h0
  have S0 : m0.keys.length * 8 ≤ 140737488351232 := G0 (by
    refine List.all_eq_true.2 fun n hn => List.all_eq_true.1 hsz _ (DataW.weights_mem_each (j := 0) (t := 25) (by rfl) (by rfl) n hn))
  obtain ⟨a1, rfl, rfl, rfl, w1⟩ := open_int Try.underlying26 (hval 1 26 v1 rfl rfl) h1
  obtain ⟨a2, rfl, rfl, rfl, w2⟩ := open_int Try.underlying27 (hval 2 27 v2 rfl rfl) h2
  clear hA0 hval0
  refine (walk F0 S0 w1 w2 W rfl).mono fun e W' ⟨he, bel⟩ => ?_
  subst he
  exact ⟨_, rfl, _, _, _, [], _, [], hW', trodAll_mk1 (shut_bool Try.underlying4 _), (trodAll_cons_mk (Below.trod laidOut (by kernel_rfl) (of_decide_eq_true (by kernel_rfl)) k0 bel lt0) (trodAll_cons_mk (shut_int Try.underlying26 w1) (trodAll_cons_mk (shut_int Try.underlying27 w2) trodAll_mk0))), rfl, bel.frame _, fun h => by cases h⟩

theorem over : Rows.hashGetsRow.holds Try.pinned (OpenSpec.ofChange Rows.hashGetsSpec) :=
  OpenClaim.holds_of_wide 3 Try.f3 rfl rfl rfl rfl rfl rfl rfl ⟨rfl, rfl, rfl, rfl, rfl⟩ rfl rfl rfl rfl rfl (by kernel_rfl) Try.func3 (by kernel_rfl)
    (of_decide_eq_true (by kernel_rfl)) (by unfold Func.isWrapper; first | (rw [if_pos (by decide +kernel)]; kernel_rfl) | (rw [if_neg (by decide +kernel)]; exact ⟨rfl, rfl⟩))
    (fun os started H enc _ => lifted os started H enc)

theorem proved : Rows.HashGetsSaid :=
  over
#print axioms proved
end Go.Proofs.Ytfpkjgalokbkcaa.hashGets
