/-
  Contracts over this program: two trees that are the same (fretsawref06's Like).
-/
import Derived.Test.YtfclidcfhadohaaDoorRk
import Derived.Test.YtfclidcfhadohaaDoorRq
namespace Go.Proofs.YtfclidcfhadohaaDoor.st
open Go.Sort Go.ChangeShapes Go.WideShapes Go.ChangeAt Go.RowKit
set_option linter.unusedVariables false

/-- a tree that lies in memory twice is like itself -/
def LikeIs (t : Tr) : Prop := ∀ va vb w P Q, Is w P t va → Is w Q t vb → Calls Tryd.prog 9 #[.agg #[.int .i64 t.kind, .int .u64 t.set.a, .int .u64 t.set.b, .int .u64 t.set.c, .int .u64 t.set.d, .int .i64 t.min, .int .i64 t.max, va], .agg #[.int .i64 t.kind, .int .u64 t.set.a, .int .u64 t.set.b, .int .u64 t.set.c, .int .u64 t.set.d, .int .i64 t.min, .int .i64 t.max, vb]] w fun e w' => e = .returned (.bool true) ∧ RowKit.Below w.heap.size w w'

theorem like_grow {t : Tr} (h : LikeIs t) {w : World} {P Q : Nat → Prop} {va vb : Value} (ha : Is w P t va) (hb : Is w Q t vb) : ∀ d os, Calls Tryd.prog 9 #[.agg #[.int .i64 t.kind, .int .u64 t.set.a, .int .u64 t.set.b, .int .u64 t.set.c, .int .u64 t.set.d, .int .i64 t.min, .int .i64 t.max, va], .agg #[.int .i64 t.kind, .int .u64 t.set.a, .int .u64 t.set.b, .int .u64 t.set.c, .int .u64 t.set.d, .int .i64 t.min, .int .i64 t.max, vb]] (grow (redrawn w d) os) fun e w'' => e = .returned (.bool true) ∧ ∃ p : Regrown, w'' = grow (redrawn w p.d) p.os :=
  fun d os => Calls.regrown_of (h va vb _ P Q (ha.later (below_regrown w d os)) (hb.later (below_regrown w d os)))

set_option maxHeartbeats 2000000 in
set_option maxRecDepth 100000 in
theorem like_any (d : Nat) : ∀ (t : Tr), t.depth ≤ d → LikeIs t := by
  induction d with
  | zero => intro t hd; have := t.depth_eq; omega
  | succ d ih =>
    intro t hd va vb w P Q ha hb
    have hDe := t.depth_eq
    have HK : Hid (∀ i, i < t.kids.length → (nthT t.kids i).depth ≤ d) := fun i hi => by have := depth_nth t.kids i hi; omega
    obtain ⟨oa, ca, ba, fa, vsa, rfl, hca, hka⟩ := ha.form
    obtain ⟨ob, cb, bb, fb, vsb, rfl, hcb, hkb⟩ := hb.form
    have heq : ∀ W, (Op.equalIn 9999 23 (.agg #[.int .u64 t.set.a, .int .u64 t.set.b, .int .u64 t.set.c, .int .u64 t.set.d]) (.agg #[.int .u64 t.set.a, .int .u64 t.set.b, .int .u64 t.set.c, .int .u64 t.set.d])).run Tryd.prog W = .ok true W := fun W => by rw [eq23]; simp
    have hll : t.kids.length ≤ 9223372036854775807 := by
      by_cases h0 : 0 < t.kids.length
      · have := (hka 0 h0).2.1; omega
      · omega
    have b0 : Box ((w.alloc (.cells #[.int .i64 t.kind, .int .u64 t.set.a, .int .u64 t.set.b, .int .u64 t.set.c, .int .u64 t.set.d, .int .i64 t.min, .int .i64 t.max, .slice oa t.kids.length ca] 28)).alloc (.cells #[.int .i64 t.kind, .int .u64 t.set.a, .int .u64 t.set.b, .int .u64 t.set.c, .int .u64 t.set.d, .int .i64 t.min, .int .i64 t.max, .slice ob t.kids.length cb] 28)) w.heap.size t (.slice oa t.kids.length ca) := (box_new w t _).below (below_alloc _ _)
    have b1 : Box ((w.alloc (.cells #[.int .i64 t.kind, .int .u64 t.set.a, .int .u64 t.set.b, .int .u64 t.set.c, .int .u64 t.set.d, .int .i64 t.min, .int .i64 t.max, .slice oa t.kids.length ca] 28)).alloc (.cells #[.int .i64 t.kind, .int .u64 t.set.a, .int .u64 t.set.b, .int .u64 t.set.c, .int .u64 t.set.d, .int .i64 t.min, .int .i64 t.max, .slice ob t.kids.length cb] 28)) (w.heap.size + 1) t (.slice ob t.kids.length cb) := heap_alloc2_new w _ _
    have hB0 := (below_alloc w (.cells #[.int .i64 t.kind, .int .u64 t.set.a, .int .u64 t.set.b, .int .u64 t.set.c, .int .u64 t.set.d, .int .i64 t.min, .int .i64 t.max, .slice oa t.kids.length ca] 28)).trans ((below_alloc _ (.cells #[.int .i64 t.kind, .int .u64 t.set.a, .int .u64 t.set.b, .int .u64 t.set.c, .int .u64 t.set.d, .int .i64 t.min, .int .i64 t.max, .slice ob t.kids.length cb] 28)).mono (below_alloc w _).size)
    clear hDe hd ha hb
    go_enter Tryd.func9, Tryd.ntmps9
    go_wp2_with (fail)
    go_loopw [44] (fun x wr => ∃ (i : Nat), x = .int .i64 i ∧ i ≤ t.kids.length ∧ Box wr w.heap.size t (.slice oa t.kids.length ca) ∧ Box wr (w.heap.size + 1) t (.slice ob t.kids.length cb) ∧ RowKit.Below w.heap.size w wr) (fun x _ => t.kids.length - (intOf x).toNat)
    case atStart => exact ⟨0, rfl, by omega, b0, b1, hB0⟩
    case round =>
      obtain ⟨i, rfl, hil, z0, z1, hB⟩ := hrel
      clear b0 b1 hB0
      by_cases hend : i < t.kids.length
      · obtain ⟨rfl, hcma, hba, _, hcella, hkida⟩ := hka i hend
        obtain ⟨rfl, hcmb, hbb, _, hcellb, hkidb⟩ := hkb i hend
        have hla := hcella.same (hB.block ba hba)
        have hlb := hcellb.same (hB.block bb hbb)
        have hka2 := hkida.later hB
        have hkb2 := hkidb.later hB
        obtain ⟨o2, n2, cap2, hv2⟩ := hkida.shape
        obtain ⟨o3, n3, cap3, hv3⟩ := hkidb.shape
        rw [hv2] at hla hka2
        rw [hv3] at hlb hkb2
        have hcall := like_grow (ih (nthT t.kids i) (HK.out i hend)) hka2 hkb2
        obtain ⟨p0, p1, p2, p3, p4, p5, p6, p7⟩ := hla
        obtain ⟨q0, q1, q2, q3, q4, q5, q6, q7⟩ := hlb
        have za := cell_regrown (b8 z0).1.2.2.2.2.2.2.2
        have zb := cell_regrown (b8 z1).1.2.2.2.2.2.2.2
        have r0 := cell_regrown p0
        have r1 := cell_regrown p1
        have r2 := cell_regrown p2
        have r3 := cell_regrown p3
        have r4 := cell_regrown p4
        have r5 := cell_regrown p5
        have r6 := cell_regrown p6
        have r7 := cell_regrown p7
        have s0 := cell_regrown q0
        have s1 := cell_regrown q1
        have s2 := cell_regrown q2
        have s3 := cell_regrown q3
        have s4 := cell_regrown q4
        have s5 := cell_regrown q5
        have s6 := cell_regrown q6
        have s7 := cell_regrown q7
        clear hcella hcellb hkida hkidb hka hkb hv2 hv3 hka2 hkb2 p0 p1 p2 p3 p4 p5 p6 p7 q0 q1 q2 q3 q4 q5 q6 q7
        generalize nthT t.kids i = x at *
        generalize t.kids.length = n at *
        go_wp2_with (fail)
        refine wp_region_quiet_below (by kernel_rfl) (by kernel_rfl) ?_
        repeat (go_big_quiet_step (with_reducible exact hcall _ _))
        refine wpQuiet_nil ?_
        intro _ hw'
        obtain ⟨⟨dq, osq⟩, hw''⟩ := hw'
        subst hw''
        have b9 := below_regrown wr dq osq
        generalize grow (redrawn wr dq) osq = w1 at *
        go_wp2_with (fail)
        go_roundw
        case rel => exact ⟨i + 1, by go_num, by omega, z0.below b9, z1.below b9, hB.trans (b9.mono hB.size)⟩
        case measure => simp [intOf]; omega
      · clear hka hkb
        go_wp2_with (fail)
        go_ret
        exact ⟨rfl, hB⟩
end Go.Proofs.YtfclidcfhadohaaDoor.st
