/-
  For every tree the law RegexRights of package fretsawlaw06 returns true (whether any tree is an expression's is as the document says), and the argument reads as before. No condition.
-/
import Derived.Test.YtjfnefmolhihaaaRows
import Derived.Test.YtjfnefmolhihaaaDp
import Derived.Test.YtjfnefmolhihaaaArg
import Derived.WalkKit
import Derived.ProofKit
import Derived.OpenShut
import Derived.ChangeOld
import Derived.SizedLaws
import Derived.Below
import Derived.Deep.RegionHeld3
namespace Go.Proofs.Ytjfnefmolhihaaa.regexRights
open Go.ChangeShapes Go.WideShapes Go.ChangeAt Go.RowKit
set_option linter.unusedVariables false

theorem own : ownKnob Try.prog.godebug = none := by kernel_rfl
theorem laidOut : laidOutB Try.prog = true := by kernel_rfl

theorem all {g : Nat} {t : st.Tr} {v : Value} {W : World} (b : st.Box W g t v) (i : st.Is W (fun _ => True) t v) :
    W.cell? ⟨g, 0, none⟩ = some (.int .i64 t.kind) ∧ W.cell? ⟨g, 1, none⟩ = some (.int .u64 t.set.a) ∧ W.cell? ⟨g, 2, none⟩ = some (.int .u64 t.set.b) ∧ W.cell? ⟨g, 3, none⟩ = some (.int .u64 t.set.c) ∧
    W.cell? ⟨g, 4, none⟩ = some (.int .u64 t.set.d) ∧ W.cell? ⟨g, 5, none⟩ = some (.int .i64 t.min) ∧ W.cell? ⟨g, 6, none⟩ = some (.int .i64 t.max) ∧ W.cell? ⟨g, 7, none⟩ = some v ∧ st.Box W g t v ∧ st.Is W (fun _ => True) t v :=
  ⟨b.cells.1, b.cells.2.1, b.cells.2.2.1, b.cells.2.2.2.1, b.cells.2.2.2.2.1, b.cells.2.2.2.2.2.1, b.cells.2.2.2.2.2.2.1, b.cells.2.2.2.2.2.2.2, b, i⟩
theorem next {g : Nat} {t : st.Tr} {v : Value} {W W' : World} (h : W.cell? ⟨g, 0, none⟩ = some (.int .i64 t.kind) ∧ W.cell? ⟨g, 1, none⟩ = some (.int .u64 t.set.a) ∧ W.cell? ⟨g, 2, none⟩ = some (.int .u64 t.set.b) ∧ W.cell? ⟨g, 3, none⟩ = some (.int .u64 t.set.c) ∧
    W.cell? ⟨g, 4, none⟩ = some (.int .u64 t.set.d) ∧ W.cell? ⟨g, 5, none⟩ = some (.int .i64 t.min) ∧ W.cell? ⟨g, 6, none⟩ = some (.int .i64 t.max) ∧ W.cell? ⟨g, 7, none⟩ = some v ∧ st.Box W g t v ∧ st.Is W (fun _ => True) t v) (l : Below W.heap.size W W') :
    W'.cell? ⟨g, 0, none⟩ = some (.int .i64 t.kind) ∧ W'.cell? ⟨g, 1, none⟩ = some (.int .u64 t.set.a) ∧ W'.cell? ⟨g, 2, none⟩ = some (.int .u64 t.set.b) ∧ W'.cell? ⟨g, 3, none⟩ = some (.int .u64 t.set.c) ∧
    W'.cell? ⟨g, 4, none⟩ = some (.int .u64 t.set.d) ∧ W'.cell? ⟨g, 5, none⟩ = some (.int .i64 t.min) ∧ W'.cell? ⟨g, 6, none⟩ = some (.int .i64 t.max) ∧ W'.cell? ⟨g, 7, none⟩ = some v ∧ st.Box W' g t v ∧ st.Is W' (fun _ => True) t v :=
  all (h.2.2.2.2.2.2.2.2.1.below l) (h.2.2.2.2.2.2.2.2.2.later l)

set_option maxHeartbeats 4000000 in
set_option maxRecDepth 100000 in
theorem walk (t : st.Tr) (ht : t.sane) (v : Value) (w : World) (hi : st.Is w (fun _ => True) t v) :
    Calls Try.prog 4 #[.agg #[.int .i64 t.kind, .int .u64 t.set.a, .int .u64 t.set.b, .int .u64 t.set.c, .int .u64 t.set.d, .int .i64 t.min, .int .i64 t.max, v]] w fun e w' => e = .returned (.bool true) ∧ Below w.heap.size w w' := by
  have h9 := st.right_is t _ rfl
  have h10 := st.rright_is t _ rfl
  generalize st.rightN t = r at *
  obtain ⟨o, n, cap, hv⟩ := hi.shape
  subst hv
  obtain ⟨w0, hw0⟩ : ∃ w0, w0 = w.alloc (.cells #[.int .i64 t.kind, .int .u64 t.set.a, .int .u64 t.set.b, .int .u64 t.set.c, .int .u64 t.set.d, .int .i64 t.min, .int .i64 t.max, .slice o n cap] 28) := ⟨_, rfl⟩
  have hB : Below w.heap.size w w0 := by rw [hw0]; exact st.below_alloc _ _
  have hS : w0.cell? ⟨w.heap.size, 0, none⟩ = some (.int .i64 t.kind) ∧ _ := all (W := w0) (g := w.heap.size) (by rw [hw0]; exact st.box_new w t _) (hi.later hB)
  go_enter Try.func4, Try.ntmps4
  go_wp2_with (fail)
  rw [← hw0]
  clear hw0 hi ht
  go_region_held3 (fun W => W.cell? ⟨w.heap.size, 0, none⟩ = some (.int .i64 t.kind) ∧ W.cell? ⟨w.heap.size, 1, none⟩ = some (.int .u64 t.set.a) ∧ W.cell? ⟨w.heap.size, 2, none⟩ = some (.int .u64 t.set.b) ∧ W.cell? ⟨w.heap.size, 3, none⟩ = some (.int .u64 t.set.c) ∧
    W.cell? ⟨w.heap.size, 4, none⟩ = some (.int .u64 t.set.d) ∧ W.cell? ⟨w.heap.size, 5, none⟩ = some (.int .i64 t.min) ∧ W.cell? ⟨w.heap.size, 6, none⟩ = some (.int .i64 t.max) ∧ W.cell? ⟨w.heap.size, 7, none⟩ = some (.slice o n cap) ∧ st.Box W w.heap.size t (.slice o n cap) ∧ st.Is W (fun _ => True) t (.slice o n cap)) (first | assumption | exact hS | exact next hS (Below.drew (Below.refl _ _)) | exact next (by assumption) (by assumption)) (first | (go_at_call 9; refine (h9 _ _ (And.right (And.right (And.right (And.right (And.right (And.right (And.right (And.right (And.right (by assumption))))))))))).mono ?_; rintro e w1 ⟨rfl, b1⟩) | (go_at_call 10; refine (h10 _ _ (And.right (And.right (And.right (And.right (And.right (And.right (And.right (And.right (And.right (by assumption))))))))))).mono ?_; rintro e w2 ⟨rfl, b2⟩))
  go_wp2_with (fail)
  go_ret
  exact ⟨by simp, st.chain (st.chain hB.drew b1) b2⟩
set_option maxRecDepth 100000 in
theorem lifted (os : Os) (started : os.Started) (H : Type) (enc : TypeId × Value → H) :
    ReturnsInHanded {} Try.checked os 4 .any (Rows.regexRightsSpec.pre6 enc Try.prog Try.f4 Rows.regexRightsRow.domain false) (Rows.regexRightsSpec.post enc Try.prog Try.f4 false true false false) := by
  refine returnsInHanded_of_change_sized (C := Try.checked) own started (by kernel_rfl) Try.func4
    (ChangeSpec.witness6 (enc := enc) (C := Try.checked) false ⟨#[], #[.agg #[.int .i64 0, .int .u64 0, .int .u64 0, .int .u64 0, .int .u64 0, .int .i64 0, .int .i64 0, .slice none 0 0]], []⟩ 8 (by kernel_rfl) (by kernel_rfl) (by kernel_rfl) (by kernel_rfl)) ?_
  intro W base args ds gs before hval0 hW hcnd hsz0 _
  have hsz : (DataW.weightsEach Try.prog (Try.f4.params.toList ++ Rows.regexRightsSpec.plain.varTypes Try.prog) (ds ++ gs)).all (· ≤ reachBytes) = true := hsz0
  have hval : ∀ (j : Nat) t v, Try.f4.params[j]? = some t → args[j]? = some v → Value.okWide Try.prog W .any base t v := hval0
  have hW' := hW
  obtain ⟨p, q, hA0, hV, rfl, hfz, hnd⟩ := hW
  have hA : DataW.TrodAll enc Try.prog W 0 (fun _ => true) true Try.f4.params.toList args.toList ds p := hA0
  rw [Try.params4] at hA hval hsz
  obtain ⟨v0, vs0, d0, ds0, p0, q0, hargs, rfl, rfl, h0, r0⟩ := trodAll_cons hA
  obtain ⟨rfl, rfl, rfl⟩ := trodAll_nil r0
  obtain rfl : args = #[v0] := by cases args; simp_all
  obtain ⟨rfl, rfl⟩ := trodVars_none hV
  have k0 := h0
  have lt0 : ∀ x ∈ p0, x.block < W.heap.size := by obtain ⟨m, hm⟩ := k0; exact DataW.trod_lt m _ _ _ hm
  obtain ⟨a0, s0, f0, i0, rfl⟩ := st.open28 (hval 0 28 v0 rfl rfl) h0
  clear hA0 hval0
  refine (walk a0 f0 _ W i0).mono fun e W' ⟨he, bel⟩ => ?_
  subst he
  exact ⟨_, rfl, _, _, _, [], _, [], hW', trodAll_mk1 (shut_bool Try.underlying4 _), (trodAll_cons_mk (Below.trod laidOut (by kernel_rfl) (of_decide_eq_true (by kernel_rfl)) k0 bel lt0) trodAll_mk0), rfl, bel.frame _, fun h => by cases h⟩

theorem over : Rows.regexRightsRow.holds Try.pinned (OpenSpec.ofChange Rows.regexRightsSpec) :=
  OpenClaim.holds_of_wide 4 Try.f4 rfl rfl rfl rfl rfl rfl rfl ⟨rfl, rfl, rfl, rfl, rfl⟩ rfl rfl rfl rfl rfl (by kernel_rfl) Try.func4 (by kernel_rfl)
    (of_decide_eq_true (by kernel_rfl)) (by unfold Func.isWrapper; first | (rw [if_pos (by decide +kernel)]; kernel_rfl) | (rw [if_neg (by decide +kernel)]; exact ⟨rfl, rfl⟩))
    (fun os started H enc _ => lifted os started H enc)

theorem proved : Rows.RegexRightsSaid :=
  over
#print axioms proved
end Go.Proofs.Ytjfnefmolhihaaa.regexRights
