/-
  For every trie, text and place the law TrieFinds of package fretsawlaw16 returns true (which trie may be, and what any one tells of any text, and at any place of one, is as the document says), and the arguments read as before. No condition.
-/
import Derived.Test.YtbappfbojehkeaaYf
import Derived.Test.YtbappfbojehkeaaYh
import Derived.ProofKit
import Derived.ShutString
import Derived.Lib.QuietBelow
namespace Go.Proofs.Ytbappfbojehkeaa.trieFinds
open Go.ChangeShapes Go.WideShapes Go.ChangeAt Go.RowKit Go.Sort
open Go.ChangeMaps (open_string shut_string)
open ti
set_option linter.unusedVariables false

theorem own : ownKnob Try.prog.godebug = none := by kernel_rfl
theorem laidOut : laidOutB Try.prog = true := by kernel_rfl

set_option maxHeartbeats 4000000 in
set_option maxRecDepth 100000 in
theorem walk_at {t : Tr} {p : Tp} {w : World} (hM : TAt (In w) w t p) (s s' : ByteArray) (at' : Int) (r : Int × Int) (n : Int) (g : Bool)
    (c6 : ∀ w, TAt (In w) w t p → Calls Try.prog 6 #[.agg (tv t p)] w fun e w' => e = .returned (.bool g) ∧ Below w.heap.size w w')
    (c7 : ∀ w, TAt (In w) w t p → Calls Try.prog 7 #[.agg (tv t p)] w fun e w' => e = .returned (.bool g) ∧ Below w.heap.size w w')
    (c8 : ∀ w, Calls Try.prog 8 #[.string s, .int .i64 ((300 : Nat) : Int)] w fun e w' => e = .returned (.string s') ∧ w' = w)
    (c9 : ∀ w, TAt (In w) w t p → Calls Try.prog 9 #[.agg (tv t p), .string s', .int .i64 at'] w fun e w' => e = .returned (.tuple #[.int .i64 r.1, .int .i64 r.2]) ∧ Below w.heap.size w w')
    (c10 : ∀ w, TAt (In w) w t p → Calls Try.prog 10 #[.agg (tv t p), .string s', .int .i64 at'] w fun e w' => e = .returned (.tuple #[.int .i64 r.1, .int .i64 r.2]) ∧ Below w.heap.size w w')
    (c11 : ∀ w, TAt (In w) w t p → Calls Try.prog 11 #[.agg (tv t p), .string s'] w fun e w' => e = .returned (.int .i64 n) ∧ Below w.heap.size w w')
    (c12 : g = true → ∀ w, TAt (In w) w t p → Calls Try.prog 12 #[.agg (tv t p), .string s'] w fun e w' => e = .returned (.int .i64 n) ∧ Below w.heap.size w w')
    (hg : g = false → n = -1) :
    Calls Try.prog 3 #[.agg (tv t p), .string s, .int .i64 at'] w fun e w' => e = .returned (.bool true) ∧ Below w.heap.size w w' := by
  obtain ⟨wA, HWA⟩ : ∃ wA, Hid (wA = w.alloc (.cells (tv t p) 24)) := ⟨_, rfl⟩
  have B0 : Below w.heap.size w wA := by rw [HWA.out]; exact below_alloc w _
  have hMA : TAt (In wA) wA t p := hM.later B0
  have hXA : Box wA w.heap.size t p := by rw [HWA.out]; exact box_new w t p
  have HK : Hid (∀ W, Below wA.heap.size wA W → Box W w.heap.size t p ∧ TAt (In W) W t p) := fun W b => ⟨hXA.later b, hMA.later b⟩
  have z0 := cell_regrown hXA.c0
  have z1 := cell_regrown hXA.c1
  have z2 := cell_regrown hXA.c2
  have g1 : ∀ d os, Calls Try.prog 6 #[.agg (tv t p)] (grow (redrawn wA d) os) fun e w'' => e = .returned (.bool g) ∧ ∃ p : Regrown, w'' = grow (redrawn wA p.d) p.os := fun d os => Calls.regrown_of (c6 _ (hMA.later (below_regrown wA d os)))
  have g2 : ∀ d os, Calls Try.prog 7 #[.agg (tv t p)] (grow (redrawn wA d) os) fun e w'' => e = .returned (.bool g) ∧ ∃ p : Regrown, w'' = grow (redrawn wA p.d) p.os := fun d os => Calls.regrown_of (c7 _ (hMA.later (below_regrown wA d os)))
  have e3 : (g == g) = true := by cases g <;> rfl
  have e4 : (g != g) = false := by cases g <;> rfl
  have HC : Hid ((∀ w, TAt (In w) w t p → Calls Try.prog 7 #[.agg (tv t p)] w fun e w' => e = .returned (.bool g) ∧ Below w.heap.size w w') ∧ (∀ w, TAt (In w) w t p → Calls Try.prog 9 #[.agg (tv t p), .string s', .int .i64 at'] w fun e w' => e = .returned (.tuple #[.int .i64 r.1, .int .i64 r.2]) ∧ Below w.heap.size w w') ∧ (∀ w, TAt (In w) w t p → Calls Try.prog 10 #[.agg (tv t p), .string s', .int .i64 at'] w fun e w' => e = .returned (.tuple #[.int .i64 r.1, .int .i64 r.2]) ∧ Below w.heap.size w w') ∧ (∀ w, TAt (In w) w t p → Calls Try.prog 11 #[.agg (tv t p), .string s'] w fun e w' => e = .returned (.int .i64 n) ∧ Below w.heap.size w w') ∧ (g = true → ∀ w, TAt (In w) w t p → Calls Try.prog 12 #[.agg (tv t p), .string s'] w fun e w' => e = .returned (.int .i64 n) ∧ Below w.heap.size w w')) := ⟨c7, c9, c10, c11, c12⟩
  have HG : Hid (g = false → n = -1) := hg
  clear hM hMA c6 c7 c9 c10 c11 c12 hg
  go_enter Try.func3, Try.ntmps3
  go_wp2_with (fail)
  rw [← HWA.out]
  clear HWA
  refine wp_region_quiet_below (by kernel_rfl) (by kernel_rfl) ?_
  repeat (go_big_quiet_step (first | (with_reducible exact g1 _ _) | (with_reducible exact g2 _ _)))
  refine wpQuiet_nil ?_
  intro _ hw'
  obtain ⟨⟨dq, osq⟩, hw''⟩ := hw'
  subst hw''
  have b1 := below_regrown wA dq osq
  clear g1 g2 z0 z1 z2 hXA
  generalize grow (redrawn wA dq) osq = w1 at *
  obtain ⟨X1, A1⟩ := HK.out w1 b1
  have x10 := X1.c0
  have x11 := X1.c1
  have x12 := X1.c2
  have d9 := HC.out.2.1 w1 A1
  clear X1 A1
  go_wp2_with (go_at_call 8; (refine (c8 _).mono ?_); rintro e w2 ⟨rfl, h⟩; obtain rfl := h.symm)
  go_at_call 9
  refine d9.mono ?_
  rintro e w2 ⟨rfl, c2⟩
  have b2 := chain b1 c2
  clear x10 x11 x12 d9 b1 c2
  obtain ⟨X2, A2⟩ := HK.out w2 b2
  have x20 := X2.c0
  have x21 := X2.c1
  have x22 := X2.c2
  have d10 := HC.out.2.2.1 w2 A2
  clear X2 A2
  go_wp2_with (fail)
  go_at_call 10
  refine d10.mono ?_
  rintro e w3 ⟨rfl, c3⟩
  have b3 := chain b2 c3
  clear x20 x21 x22 d10 b2 c3
  obtain ⟨X3, A3⟩ := HK.out w3 b3
  have x30 := X3.c0
  have x31 := X3.c1
  have x32 := X3.c2
  have d7 := HC.out.1 w3 A3
  clear X3 A3
  go_wp2_with (fail)
  go_at_call 7
  refine d7.mono ?_
  rintro e w4 ⟨rfl, c4⟩
  have b4 := chain b3 c4
  clear x30 x31 x32 d7 b3 c4
  obtain ⟨X4, A4⟩ := HK.out w4 b4
  have x40 := X4.c0
  have x41 := X4.c1
  have x42 := X4.c2
  cases g with
  | false =>
    obtain rfl := HG.out rfl
    have d11 := HC.out.2.2.2.1 w4 A4
    clear X4 A4
    go_wp2_with (go_at_call 11; (refine d11.mono ?_); rintro e w5 ⟨rfl, c5⟩)
    go_ret
    exact ⟨rfl, chain B0 (chain b4 c5)⟩
  | true =>
    have z0 := cell_regrown x40
    have z1 := cell_regrown x41
    have z2 := cell_regrown x42
    have g1 : ∀ d os, Calls Try.prog 11 #[.agg (tv t p), .string s'] (grow (redrawn w4 d) os) fun e w'' => e = .returned (.int .i64 n) ∧ ∃ p : Regrown, w'' = grow (redrawn w4 p.d) p.os := fun d os => Calls.regrown_of (HC.out.2.2.2.1 _ (A4.later (below_regrown w4 d os)))
    have g2 : ∀ d os, Calls Try.prog 12 #[.agg (tv t p), .string s'] (grow (redrawn w4 d) os) fun e w'' => e = .returned (.int .i64 n) ∧ ∃ p : Regrown, w'' = grow (redrawn w4 p.d) p.os := fun d os => Calls.regrown_of (HC.out.2.2.2.2 rfl _ (A4.later (below_regrown w4 d os)))
    clear X4 A4 x40 x41 x42
    go_wp2_with (fail)
    refine wp_region_quiet_below (by kernel_rfl) (by kernel_rfl) ?_
    repeat (go_big_quiet_step (first | (with_reducible exact g1 _ _) | (with_reducible exact g2 _ _)))
    refine wpQuiet_nil ?_
    intro _ hw'
    obtain ⟨⟨dq, osq⟩, hw''⟩ := hw'
    subst hw''
    have b5 := below_regrown w4 dq osq
    clear g1 g2 z0 z1 z2
    generalize grow (redrawn w4 dq) osq = w5 at *
    go_wp2_with (fail)
    go_ret
    exact ⟨by simp, chain B0 (chain b4 b5)⟩
theorem walk {t : Tr} {p : Tp} {s : ByteArray} {at' : Int} {w : World} (F0 : TAt (In w) w t p) (F1 : s.size ≤ 140737488351232) (w2 : (Lit.int .i64 at').wf = true) (W : World) :
    Calls Try.prog 3 #[.agg (tv t p), .string s, .int .i64 at'] w fun e w' => e = .returned (.bool true) ∧ Below w.heap.size w w' := by
  obtain ⟨s', hs', c8⟩ := short_any s 300 F1 (by omega)
  exact walk_at F0 s s' at' (lngOf t s' at') (if right t = true then num t (byte s') s'.size 0 0 else -1) (right t) (right_any t p) (rright_any t p) c8
    (fun w h => longest_any t s' (by omega) at' _ rfl p w h) (fun w h => rlongest_any t s' (by omega) at' _ rfl p w h)
    (fun w h => find_any t s' (by omega) _ rfl p w h) (fun hg w h => number_any t hg s' (by omega) _ (by rw [if_pos hg]) p w h) (fun h => by rw [if_neg (by rw [h]; decide)])

set_option maxRecDepth 100000 in
theorem lifted (os : Os) (started : os.Started) (H : Type) (enc : TypeId × Value → H) :
    ReturnsInHanded {} Try.checked os 3 .any (Rows.trieFindsSpec.pre6 enc Try.prog Try.f3 Rows.trieFindsRow.domain false) (Rows.trieFindsSpec.post enc Try.prog Try.f3 false true false false) := by
  refine returnsInHanded_of_change_sized (C := Try.checked) own started (by kernel_rfl) Try.func3
    (ChangeSpec.witness6 (enc := enc) (C := Try.checked) false ⟨#[], #[.agg #[.slice none 0 0, .slice none 0 0, .slice none 0 0], .string ByteArray.empty, .int .i64 0], []⟩ 8 (by kernel_rfl) (by kernel_rfl) (by kernel_rfl) (by kernel_rfl)) ?_
  intro W base args ds gs before hval0 hW hcnd hsz0 _
  have hsz : (DataW.weightsEach Try.prog (Try.f3.params.toList ++ Rows.trieFindsSpec.plain.varTypes Try.prog) (ds ++ gs)).all (· ≤ reachBytes) = true := hsz0
  have hval : ∀ (j : Nat) t v, Try.f3.params[j]? = some t → args[j]? = some v → Value.okWide Try.prog W .any base t v := hval0
  have hW' := hW
  obtain ⟨p, q, hA0, hV, rfl, hfz, hnd⟩ := hW
  have hA : DataW.TrodAll enc Try.prog W 0 (fun _ => true) true Try.f3.params.toList args.toList ds p := hA0
  rw [Try.params3] at hA hval hsz
  obtain ⟨v0, vs0, d0, ds0, p0, q0, hargs, rfl, rfl, h0, r0⟩ := trodAll_cons hA
  obtain ⟨v1, vs1, d1, ds1, p1, q1, rfl, rfl, rfl, h1, r1⟩ := trodAll_cons r0
  obtain ⟨v2, vs2, d2, ds2, p2, q2, rfl, rfl, rfl, h2, r2⟩ := trodAll_cons r1
  obtain ⟨rfl, rfl, rfl⟩ := trodAll_nil r2
  obtain rfl : args = #[v0, v1, v2] := by cases args; simp_all
  obtain ⟨rfl, rfl⟩ := trodVars_none hV
  have k0 := h0
  have lt0 : ∀ x ∈ p0, x.block < W.heap.size := by obtain ⟨m, hm⟩ := k0; exact DataW.trod_lt m _ _ _ hm
  obtain ⟨m0, mp0, rfl, F0⟩ := ti.open24 (hval 0 24 v0 rfl rfl) h0
  obtain ⟨a1, rfl, rfl, rfl, w1⟩ := open_string Try.underlying9 (hval 1 9 v1 rfl rfl) h1
  have F1 : a1.size ≤ 140737488351232 := by
    have := sized_string hsz (j := 1) (t := 9) rfl rfl
    simpa [reachBytes] using this
  obtain ⟨a2, rfl, rfl, rfl, w2⟩ := open_int Try.underlying3 (hval 2 3 v2 rfl rfl) h2
  clear hA0 hval0
  refine (walk F0 F1 w2 W).mono fun e W' ⟨he, bel⟩ => ?_
  subst he
  exact ⟨_, rfl, _, _, _, [], _, [], hW', trodAll_mk1 (shut_bool Try.underlying4 _), (trodAll_cons_mk (Below.trod laidOut (by kernel_rfl) (of_decide_eq_true (by kernel_rfl)) k0 bel lt0) (trodAll_cons_mk (shut_string Try.underlying9 w1) (trodAll_cons_mk (shut_int Try.underlying3 w2) trodAll_mk0))), rfl, bel.frame _, fun h => by cases h⟩

theorem over : Rows.trieFindsRow.holds Try.pinned (OpenSpec.ofChange Rows.trieFindsSpec) :=
  OpenClaim.holds_of_wide 3 Try.f3 rfl rfl rfl rfl rfl rfl rfl ⟨rfl, rfl, rfl, rfl, rfl⟩ rfl rfl rfl rfl rfl (by kernel_rfl) Try.func3 (by kernel_rfl)
    (of_decide_eq_true (by kernel_rfl)) (by unfold Func.isWrapper; first | (rw [if_pos (by decide +kernel)]; kernel_rfl) | (rw [if_neg (by decide +kernel)]; exact ⟨rfl, rfl⟩))
    (fun os started H enc _ => lifted os started H enc)

theorem proved : Rows.TrieFindsSaid :=
  over
#print axioms proved
end Go.Proofs.Ytbappfbojehkeaa.trieFinds
