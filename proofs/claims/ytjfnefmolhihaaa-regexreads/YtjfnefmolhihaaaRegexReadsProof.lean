/-
  For every text the law RegexReads of package fretsawlaw06 returns true (any text is read as just that tree, or refused at just that place, as the document says), and the argument reads as before. No condition.
-/
import Derived.Test.YtjfnefmolhihaaaRows
import Derived.Test.YtjfnefmolhihaaaMd
import Derived.SizedLaws
import Derived.WalkKit
import Derived.ProofKit
import Derived.OpenShut
import Derived.ShutString
namespace Go.Proofs.Ytjfnefmolhihaaa.regexReads
open Go.ChangeShapes Go.WideShapes Go.ChangeAt Go.RowKit
open Go.ChangeMaps (open_string shut_string)
set_option linter.unusedVariables false

theorem own : ownKnob Try.prog.godebug = none := by kernel_rfl

set_option maxHeartbeats 4000000 in
set_option maxRecDepth 100000 in
theorem walk_of (s : ByteArray) (t : st.Tr) (er q : Nat) (c1 : st.ParseIs s t er q) (c2 : st.RParseIs s t er q) (lk : st.LikeIs t) (w : World) :
    Calls Try.prog 3 #[.string s] w fun e w' => e = .returned (.bool true) ∧ RowKit.Below w.heap.size w w' := by
  unfold st.ParseIs at c1
  unfold st.RParseIs at c2
  unfold st.LikeIs at lk
  go_enter Try.func3, Try.ntmps3
  go_wp2_with (first
    | (go_at_call 6; refine (c1 _).mono ?_; rintro e w1 ⟨v, rfl, i1, b1⟩; obtain ⟨va, vn, vc, rfl⟩ := i1.shape; have k1 := st.chain b1 (st.below_alloc w1 (.cells #[.int .i64 t.kind, .int .u64 t.set.a, .int .u64 t.set.b, .int .u64 t.set.c, .int .u64 t.set.d, .int .i64 t.min, .int .i64 t.max, .slice va vn vc] 28)); have x1 := st.box_new w1 t (.slice va vn vc); have j1 := i1.later (st.below_alloc w1 (.cells #[.int .i64 t.kind, .int .u64 t.set.a, .int .u64 t.set.b, .int .u64 t.set.c, .int .u64 t.set.d, .int .i64 t.min, .int .i64 t.max, .slice va vn vc] 28)))
    | (go_at_call 7; refine (c2 _).mono ?_; rintro e w2 ⟨v2, rfl, i2, b2⟩; obtain ⟨ua, un, uc, rfl⟩ := i2.shape; have k2 := st.chain (st.chain k1 b2) (st.below_alloc w2 (.cells #[.int .i64 t.kind, .int .u64 t.set.a, .int .u64 t.set.b, .int .u64 t.set.c, .int .u64 t.set.d, .int .i64 t.min, .int .i64 t.max, .slice ua un uc] 28)); have x2 := (x1.below b2).below (st.below_alloc w2 (.cells #[.int .i64 t.kind, .int .u64 t.set.a, .int .u64 t.set.b, .int .u64 t.set.c, .int .u64 t.set.d, .int .i64 t.min, .int .i64 t.max, .slice ua un uc] 28)); have y2 := st.box_new w2 t (.slice ua un uc); have j2 := (j1.later b2).later (st.below_alloc w2 (.cells #[.int .i64 t.kind, .int .u64 t.set.a, .int .u64 t.set.b, .int .u64 t.set.c, .int .u64 t.set.d, .int .i64 t.min, .int .i64 t.max, .slice ua un uc] 28)); have l2 := i2.later (st.below_alloc w2 (.cells #[.int .i64 t.kind, .int .u64 t.set.a, .int .u64 t.set.b, .int .u64 t.set.c, .int .u64 t.set.d, .int .i64 t.min, .int .i64 t.max, .slice ua un uc] 28)); obtain ⟨⟨c0, c1_, c2_, c3, c4, c5, c6, c7⟩, _⟩ := st.b8 x2; obtain ⟨⟨d0, d1, d2, d3, d4, d5, d6, d7⟩, _⟩ := st.b8 y2)
    | (go_at_call 8; refine (lk _ _ _ _ _ j2 l2).mono ?_; rintro e w3 ⟨rfl, b3⟩))
  go_ret
  exact ⟨rfl, st.chain k2 b3⟩
theorem walk (s : ByteArray) (hs : s.size ≤ 140737488351232) (w : World) :
    Calls Try.prog 3 #[.string s] w fun e w' => e = .returned (.bool true) ∧ RowKit.Below w.heap.size w w' :=
  walk_of s _ _ _ (st.parse_any s (by omega)) (st.rparse_any s (by omega)) (st.like_any _ _ (Nat.le_refl _)) w

set_option maxRecDepth 100000 in
theorem lifted (os : Os) (started : os.Started) (H : Type) (enc : TypeId × Value → H) :
    ReturnsInHanded {} Try.checked os 3 .any (Rows.regexReadsSpec.pre6 enc Try.prog Try.f3 Rows.regexReadsRow.domain false) (Rows.regexReadsSpec.post enc Try.prog Try.f3 false true false false) := by
  refine returnsInHanded_of_change_sized (C := Try.checked) own started (by kernel_rfl) Try.func3
    (ChangeSpec.witness6 (enc := enc) (C := Try.checked) false ⟨#[], #[.string ByteArray.empty], []⟩ 8 (by kernel_rfl) (by kernel_rfl) (by kernel_rfl) (by kernel_rfl)) ?_
  intro W base args ds gs before hval0 hW hcnd hsz0 _
  have hsz : (DataW.weightsEach Try.prog (Try.f3.params.toList ++ Rows.regexReadsSpec.plain.varTypes Try.prog) (ds ++ gs)).all (· ≤ reachBytes) = true := hsz0
  have hval : ∀ (j : Nat) t v, Try.f3.params[j]? = some t → args[j]? = some v → Value.okWide Try.prog W .any base t v := hval0
  have hW' := hW
  obtain ⟨p, q, hA0, hV, rfl, hfz, hnd⟩ := hW
  have hA : DataW.TrodAll enc Try.prog W 0 (fun _ => true) true Try.f3.params.toList args.toList ds p := hA0
  rw [Try.params3] at hA hval hsz
  obtain ⟨v0, vs0, d0, ds0, p0, q0, hargs, rfl, rfl, h0, r0⟩ := trodAll_cons hA
  obtain ⟨rfl, rfl, rfl⟩ := trodAll_nil r0
  obtain rfl : args = #[v0] := by cases args; simp_all
  obtain ⟨rfl, rfl⟩ := trodVars_none hV
  obtain ⟨a0, rfl, rfl, rfl, w0⟩ := open_string Try.underlying9 (hval 0 9 v0 rfl rfl) h0
  clear hA0 hval0
  have z0 : a0.size ≤ 140737488351232 := by
    have := sized_string hsz (j := 0) (t := 9) rfl rfl
    simpa [reachBytes] using this
  refine (walk a0 z0 W).mono fun e W' ⟨he, bel⟩ => ?_
  subst he
  exact ⟨_, rfl, _, _, _, [], [], [], hW', trodAll_mk1 (shut_bool Try.underlying4 _), (trodAll_cons_mk (shut_string Try.underlying9 w0) trodAll_mk0), rfl, bel.frame _, fun h => by cases h⟩

theorem over : Rows.regexReadsRow.holds Try.pinned (OpenSpec.ofChange Rows.regexReadsSpec) :=
  OpenClaim.holds_of_wide 3 Try.f3 rfl rfl rfl rfl rfl rfl rfl ⟨rfl, rfl, rfl, rfl, rfl⟩ rfl rfl rfl rfl rfl (by kernel_rfl) Try.func3 (by kernel_rfl)
    (of_decide_eq_true (by kernel_rfl)) (by unfold Func.isWrapper; first | (rw [if_pos (by decide +kernel)]; kernel_rfl) | (rw [if_neg (by decide +kernel)]; exact ⟨rfl, rfl⟩))
    (fun os started H enc _ => lifted os started H enc)

theorem proved : Rows.RegexReadsSaid :=
  over
#print axioms proved
end Go.Proofs.Ytjfnefmolhihaaa.regexReads
