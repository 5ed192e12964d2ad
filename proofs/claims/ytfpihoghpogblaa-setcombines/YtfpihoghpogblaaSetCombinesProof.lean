/-
  For every two sets the law SetCombines of package fretsawlaw05 returns true (set.Join, set.Meet and set.Not make the document's sets), and the arguments read as before. No condition.
-/
import Derived.Test.YtfpihoghpogblaaRows
import Derived.Test.YtfpihoghpogblaaRef
import Derived.Test.YtfpihoghpogblaaEq
import Derived.WalkKit
import Derived.ProofKit
import Derived.OpenShut
import Derived.ChangeOld
import Derived.SizedLaws
import Derived.ShutString
import Derived.Deep.RegionHeld3
import Derived.Below
namespace Go.Proofs.Ytfpihoghpogblaa.setCombines
open Go.ChangeShapes Go.WideShapes Go.ChangeAt Go.RowKit
open Go.ChangeMaps (open_string shut_string)
set_option linter.unusedVariables false

theorem own : ownKnob Try.prog.godebug = none := by kernel_rfl
theorem laidOut : laidOutB Try.prog = true := by kernel_rfl

theorem two_all {g h : Nat} {a b : st.Q4} {W : World} (ba : st.Blk W g a) (bb : st.Blk W h b) : W.cell? ⟨g, 0, none⟩ = some (.int .u64 a.a) ∧ W.cell? ⟨g, 1, none⟩ = some (.int .u64 a.b) ∧ W.cell? ⟨g, 2, none⟩ = some (.int .u64 a.c) ∧ W.cell? ⟨g, 3, none⟩ = some (.int .u64 a.d) ∧ W.cell? ⟨h, 0, none⟩ = some (.int .u64 b.a) ∧ W.cell? ⟨h, 1, none⟩ = some (.int .u64 b.b) ∧ W.cell? ⟨h, 2, none⟩ = some (.int .u64 b.c) ∧ W.cell? ⟨h, 3, none⟩ = some (.int .u64 b.d) ∧ st.Blk W g a ∧ st.Blk W (h) b :=
  ⟨ba.c0, ba.c1, ba.c2, ba.c3, bb.c0, bb.c1, bb.c2, bb.c3, ba, bb⟩
theorem two_next {g h : Nat} {a b : st.Q4} {W W' : World} (hh : W.cell? ⟨g, 0, none⟩ = some (.int .u64 a.a) ∧ W.cell? ⟨g, 1, none⟩ = some (.int .u64 a.b) ∧ W.cell? ⟨g, 2, none⟩ = some (.int .u64 a.c) ∧ W.cell? ⟨g, 3, none⟩ = some (.int .u64 a.d) ∧ W.cell? ⟨h, 0, none⟩ = some (.int .u64 b.a) ∧ W.cell? ⟨h, 1, none⟩ = some (.int .u64 b.b) ∧ W.cell? ⟨h, 2, none⟩ = some (.int .u64 b.c) ∧ W.cell? ⟨h, 3, none⟩ = some (.int .u64 b.d) ∧ st.Blk W g a ∧ st.Blk W (h) b) (l : Below W.heap.size W W') : W'.cell? ⟨g, 0, none⟩ = some (.int .u64 a.a) ∧ W'.cell? ⟨g, 1, none⟩ = some (.int .u64 a.b) ∧ W'.cell? ⟨g, 2, none⟩ = some (.int .u64 a.c) ∧ W'.cell? ⟨g, 3, none⟩ = some (.int .u64 a.d) ∧ W'.cell? ⟨h, 0, none⟩ = some (.int .u64 b.a) ∧ W'.cell? ⟨h, 1, none⟩ = some (.int .u64 b.b) ∧ W'.cell? ⟨h, 2, none⟩ = some (.int .u64 b.c) ∧ W'.cell? ⟨h, 3, none⟩ = some (.int .u64 b.d) ∧ st.Blk W' g a ∧ st.Blk W' (h) b :=
  two_all (hh.2.2.2.2.2.2.2.2.1.later l) (hh.2.2.2.2.2.2.2.2.2.later l)

set_option maxHeartbeats 4000000 in
set_option maxRecDepth 100000 in
theorem walk (a b : st.Q4) (ha : st.Fits a) (hb : st.Fits b) (w : World) :
    Calls Try.prog 4 #[.agg #[.int .u64 a.a, .int .u64 a.b, .int .u64 a.c, .int .u64 a.d], .agg #[.int .u64 b.a, .int .u64 b.b, .int .u64 b.c, .int .u64 b.d]] w fun e w' => e = .returned (.bool true) ∧ Below w.heap.size w w' := by
  have e23 := st.eq23
  have h17 := st.join_any a b _ ha hb rfl
  have h18 := st.rjoin_any a b _ ha hb rfl
  have h19 := st.meet_any a b _ ha hb rfl
  have h20 := st.rmeet_any a b _ ha hb rfl
  have h21 := st.not_any a _ ha rfl
  have h22 := st.rnot_any a _ ha rfl
  generalize st.jn a b = j at *
  generalize st.mt a b = m at *
  generalize st.nt a = n at *
  obtain ⟨w0, hw0⟩ : ∃ w0, w0 = (w.alloc (.cells #[.int .u64 a.a, .int .u64 a.b, .int .u64 a.c, .int .u64 a.d] 25)).alloc (.cells #[.int .u64 b.a, .int .u64 b.b, .int .u64 b.c, .int .u64 b.d] 25) := ⟨_, rfl⟩
  have hB : Below w.heap.size w w0 := by rw [hw0]; exact ((Below.refl _ _).alloc (Nat.le_refl _) _).alloc (by simp) _
  have ba : st.Blk w0 w.heap.size a := by rw [hw0]; exact heap_alloc2_old w _ _
  have bb : st.Blk w0 (w.heap.size + 1) b := by rw [hw0]; exact heap_alloc2_new w _ _
  have hS := two_all ba bb
  go_enter Try.func4, Try.ntmps4
  go_wp2
  rw [← hw0]
  clear hw0 ba bb
  go_region_held3 (fun W => W.cell? ⟨w.heap.size, 0, none⟩ = some (.int .u64 a.a) ∧ W.cell? ⟨w.heap.size, 1, none⟩ = some (.int .u64 a.b) ∧ W.cell? ⟨w.heap.size, 2, none⟩ = some (.int .u64 a.c) ∧ W.cell? ⟨w.heap.size, 3, none⟩ = some (.int .u64 a.d) ∧ W.cell? ⟨w.heap.size + 1, 0, none⟩ = some (.int .u64 b.a) ∧ W.cell? ⟨w.heap.size + 1, 1, none⟩ = some (.int .u64 b.b) ∧ W.cell? ⟨w.heap.size + 1, 2, none⟩ = some (.int .u64 b.c) ∧ W.cell? ⟨w.heap.size + 1, 3, none⟩ = some (.int .u64 b.d) ∧ st.Blk W w.heap.size a ∧ st.Blk W (w.heap.size + 1) b) (first | assumption | exact hS | exact two_next (by assumption) (by assumption)) (first | (go_at_call 17; refine (h17 _).mono ?_; rintro e w1 ⟨rfl, b1⟩) | (go_at_call 18; refine (h18 _).mono ?_; rintro e w2 ⟨rfl, b2⟩) | (go_at_call 19; refine (h19 _).mono ?_; rintro e w3 ⟨rfl, b3⟩) | (go_at_call 20; refine (h20 _).mono ?_; rintro e w4 ⟨rfl, b4⟩) | (go_at_call 21; refine (h21 _).mono ?_; rintro e w5 ⟨rfl, b5⟩) | (go_at_call 22; refine (h22 _).mono ?_; rintro e w6 ⟨rfl, b6⟩))
  go_wp2
  go_ret
  exact ⟨rfl, st.chain (st.chain (st.chain (st.chain (st.chain (st.chain hB.drew b1) b2) b3) b4) b5) b6⟩

set_option maxRecDepth 100000 in
theorem lifted (os : Os) (started : os.Started) (H : Type) (enc : TypeId × Value → H) :
    ReturnsInHanded {} Try.checked os 4 .any (Rows.setCombinesSpec.pre6 enc Try.prog Try.f4 Rows.setCombinesRow.domain false) (Rows.setCombinesSpec.post enc Try.prog Try.f4 false true false false) := by
  refine returnsInHanded_of_change_sized (C := Try.checked) own started (by kernel_rfl) Try.func4
    (ChangeSpec.witness6 (enc := enc) (C := Try.checked) false ⟨#[], #[.agg #[.int .u64 0, .int .u64 0, .int .u64 0, .int .u64 0], .agg #[.int .u64 0, .int .u64 0, .int .u64 0, .int .u64 0]], []⟩ 8 (by kernel_rfl) (by kernel_rfl) (by kernel_rfl) (by kernel_rfl)) ?_
  intro W base args ds gs before hval0 hW hcnd hsz0 _
  have hsz : (DataW.weightsEach Try.prog (Try.f4.params.toList ++ Rows.setCombinesSpec.plain.varTypes Try.prog) (ds ++ gs)).all (· ≤ reachBytes) = true := hsz0
  have hval : ∀ (j : Nat) t v, Try.f4.params[j]? = some t → args[j]? = some v → Value.okWide Try.prog W .any base t v := hval0
  have hW' := hW
  obtain ⟨p, q, hA0, hV, rfl, hfz, hnd⟩ := hW
  have hA : DataW.TrodAll enc Try.prog W 0 (fun _ => true) true Try.f4.params.toList args.toList ds p := hA0
  rw [Try.params4] at hA hval hsz
  obtain ⟨v0, vs0, d0, ds0, p0, q0, hargs, rfl, rfl, h0, r0⟩ := trodAll_cons hA
  obtain ⟨v1, vs1, d1, ds1, p1, q1, rfl, rfl, rfl, h1, r1⟩ := trodAll_cons r0
  obtain ⟨rfl, rfl, rfl⟩ := trodAll_nil r1
  obtain rfl : args = #[v0, v1] := by cases args; simp_all
  obtain ⟨rfl, rfl⟩ := trodVars_none hV
  have k0 := h0
  have lt0 : ∀ x ∈ p0, x.block < W.heap.size := by obtain ⟨m, hm⟩ := k0; exact DataW.trod_lt m _ _ _ hm
  obtain ⟨a0, f0, rfl⟩ := st.open25 (hval 0 25 v0 rfl rfl) h0
  have k1 := h1
  have lt1 : ∀ x ∈ p1, x.block < W.heap.size := by obtain ⟨m, hm⟩ := k1; exact DataW.trod_lt m _ _ _ hm
  obtain ⟨a1, f1, rfl⟩ := st.open25 (hval 1 25 v1 rfl rfl) h1
  clear hA0 hval0
  refine (walk a0 a1 f0 f1 W).mono fun e W' ⟨he, bel⟩ => ?_
  subst he
  exact ⟨_, rfl, _, _, _, [], _, [], hW', trodAll_mk1 (shut_bool Try.underlying4 _), (trodAll_cons_mk (Below.trod laidOut (by kernel_rfl) (of_decide_eq_true (by kernel_rfl)) k0 bel lt0) (trodAll_cons_mk (Below.trod laidOut (by kernel_rfl) (of_decide_eq_true (by kernel_rfl)) k1 bel lt1) trodAll_mk0)), rfl, bel.frame _, fun h => by cases h⟩

theorem over : Rows.setCombinesRow.holds Try.pinned (OpenSpec.ofChange Rows.setCombinesSpec) :=
  OpenClaim.holds_of_wide 4 Try.f4 rfl rfl rfl rfl rfl rfl rfl ⟨rfl, rfl, rfl, rfl, rfl⟩ rfl rfl rfl rfl rfl (by kernel_rfl) Try.func4 (by kernel_rfl)
    (of_decide_eq_true (by kernel_rfl)) (by unfold Func.isWrapper; first | (rw [if_pos (by decide +kernel)]; kernel_rfl) | (rw [if_neg (by decide +kernel)]; exact ⟨rfl, rfl⟩))
    (fun os started H enc _ => lifted os started H enc)

theorem proved : Rows.SetCombinesSaid :=
  over
#print axioms proved
end Go.Proofs.Ytfpihoghpogblaa.setCombines
