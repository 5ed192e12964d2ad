/-
  For every nfa the law NfaEmpty of package fretsawlaw07 returns true (the empty text is taken just if the end is reached from the beginning over nothing), and the argument reads as before. No condition.
-/
import Derived.Test.YthknhbmibmndoaaNv
import Derived.Test.YthknhbmibmndoaaNo
import Derived.Test.YthknhbmibmndoaaDk
import Derived.WalkKit
import Derived.ProofKit
import Derived.OpenShut
import Derived.ChangeOld
import Derived.SizedLaws
import Derived.Below
namespace Go.Proofs.Ythknhbmibmndoaa.nfaEmpty
open Go.ChangeShapes Go.WideShapes Go.ChangeAt Go.RowKit
open Go.ChangeMaps (open_string shut_string)
open nf (Nfa Ed Eds nfaV Box IsFree)
open df (Row iv In IntsV Owns)
set_option linter.unusedVariables false

theorem own : ownKnob Try.prog.godebug = none := by kernel_rfl
theorem laidOut : laidOutB Try.prog = true := by kernel_rfl

theorem one_row (W : World) (y : Int) : Row (In (W.alloc (.cells #[.int .i64 y] 3))) (W.alloc (.cells #[.int .i64 y] 3)) iv (some ⟨W.heap.size, 0, none⟩) 1 [y] :=
  ⟨Nat.le_refl _, by omega, fun i hi => by
    have h0 : i = 0 := by simp at hi; omega
    subst h0
    exact ⟨W.heap.size, 0, rfl, by show _ < _; simp, nf.tmp_cell W _ _ rfl⟩⟩
theorem took (F : List Int) (i : Nat) (h : i < F.length) (y : Int) : decide (y ∈ F.take (i + 1)) = (decide (y ∈ F.take i) || (F[i] == y)) := by
  rw [Bool.eq_iff_iff, Bool.or_eq_true, decide_eq_true_eq, decide_eq_true_eq, beq_iff_eq, List.take_succ_eq_append_getElem h, List.mem_append, List.mem_singleton]
  exact ⟨fun r => r.imp id Eq.symm, fun r => r.imp id Eq.symm⟩
set_option maxHeartbeats 4000000 in
set_option maxRecDepth 100000 in
theorem walk_no {x : Nfa} {o : Option Addr} {cap : Nat} {w : World} (hE : Eds w o cap x.edges ∧ ∀ e ∈ x.edges, nf.Fits e) (hr : nf.right x = false) :
    Calls Try.prog 3 #[nfaV x.n x.s x.e o x.edges.length cap] w fun e w' => e = .returned (.bool true) ∧ Below w.heap.size w w' := by
  have B1 := nf.below_alloc w (.cells #[.int .i64 x.n, .int .i64 x.s, .int .i64 x.e, .slice o x.edges.length cap] 24)
  have b0 := nf.box_new w x.n x.s x.e o x.edges.length cap
  obtain ⟨w1, hw1⟩ : ∃ w1, w1 = w.alloc (.cells #[.int .i64 x.n, .int .i64 x.s, .int .i64 x.e, .slice o x.edges.length cap] 24) := ⟨_, rfl⟩
  rw [← hw1] at B1 b0
  have E1 := hE.1.later B1
  have h9 := nf.ends_no x ⟨#[]⟩ 0 (by decide) (fun h => by rw [hr] at h; cases h.1) o cap w1 E1
  have h10 := fun W => nf.rright_any x false hr.symm o cap W
  have h11 := fun W => nf.right_any x false hr.symm o cap W
  go_enter Try.func3, Try.ntmps3
  go_wp2_with (first | (go_at_call 9; rw [← hw1]; refine h9.mono ?_; rintro e w2 ⟨v, rfl, ⟨vo, vc, rfl, hv⟩, b2⟩; have hvf := hv.fit; have hvt := hv.top; have x2 := b0.later b2; have d0 := x2.c0; have d1 := x2.c1; have d2 := x2.c2; have d3 := x2.c3) | (go_at_call 10; refine (h10 _ (E1.later b2)).mono ?_; rintro e w3 ⟨rfl, b3⟩; have x3 := x2.later b3; have g0 := x3.c0; have g1 := x3.c1; have g2 := x3.c2; have g3 := x3.c3) | (go_at_call 11; refine (h11 _ ((E1.later b2).later b3)).mono ?_; rintro e w4 ⟨rfl, b4⟩))
  go_ret
  exact ⟨rfl, nf.chain (nf.chain (nf.chain B1 b2) b3) b4⟩
set_option maxHeartbeats 4000000 in
set_option maxRecDepth 100000 in
theorem walk_yes {x : Nfa} {o : Option Addr} {cap : Nat} {w : World} (hE : Eds w o cap x.edges ∧ ∀ e ∈ x.edges, nf.Fits e) (hr : nf.right x = true) :
    Calls Try.prog 3 #[nfaV x.n x.s x.e o x.edges.length cap] w fun e w' => e = .returned (.bool true) ∧ Below w.heap.size w w' := by
  obtain ⟨n, R⟩ := nf.rt_of x hr
  have hn2 := R.n2
  have B1 := nf.below_alloc w (.cells #[.int .i64 x.n, .int .i64 x.s, .int .i64 x.e, .slice o x.edges.length cap] 24)
  have b0 := nf.box_new w x.n x.s x.e o x.edges.length cap
  obtain ⟨w1, hw1⟩ : ∃ w1, w1 = w.alloc (.cells #[.int .i64 x.n, .int .i64 x.s, .int .i64 x.e, .slice o x.edges.length cap] 24) := ⟨_, rfl⟩
  rw [← hw1] at B1 b0
  have E1 := hE.1.later B1
  obtain ⟨L, hL, hLl⟩ := nf.runs_ex x (nf.dOf ⟨#[]⟩) 0 0 (Nat.le_refl _)
  obtain ⟨F, hF, hFl⟩ := nf.free_ex x n R [x.s]
  have h9 : Calls Try.prog 9 #[nfaV x.n x.s x.e o x.edges.length cap, .string ⟨#[]⟩, .int .i64 0] w1 fun e w' => ∃ v, e = .returned v ∧ IntsV w' v L ∧ Below w1.heap.size w1 w' := nf.ends_yes x n R hE.2 ⟨#[]⟩ 0 (by decide) (Nat.zero_le _) hr L hL o cap w1 E1
  have h10 := fun W => nf.rright_any x true hr.symm o cap W
  have h11 := fun W => nf.right_any x true hr.symm o cap W
  have h12 := fun lo lcap W => nf.free_yes x n R [x.s] hr F hF o cap lo lcap W
  have hcase := nf.empty_eq x n R (nf.dOf ⟨#[]⟩) L F hL hF
  clear hF hL
  go_enter Try.func3, Try.ntmps3
  go_wp2_with (first | (go_at_call 9; rw [← hw1]; refine h9.mono ?_; rintro e w2 ⟨v, rfl, ⟨vo, vc, rfl, hv⟩, b2⟩; have hvf := hv.fit; have hvt := hv.top; have x2 := b0.later b2; have d0 := x2.c0; have d1 := x2.c1; have d2 := x2.c2; have d3 := x2.c3) | (go_at_call 10; refine (h10 _ (E1.later b2)).mono ?_; rintro e w3 ⟨rfl, b3⟩; have x3 := x2.later b3; have g0 := x3.c0; have g1 := x3.c1; have g2 := x3.c2; have g3 := x3.c3) | (go_at_call 12; refine (h12 _ _ _ (((E1.later b2).later b3).later (nf.below_alloc _ _)) (one_row w3 x.s)).mono ?_; rintro e w4 ⟨v4, rfl, ⟨fo, fc, rfl, hv4⟩, b4⟩; have hff := hv4.fit; have hft := hv4.top))
  have B4 : Below w3.heap.size w3 w4 := nf.chain (nf.below_alloc _ _) b4
  have x4 := x3.later B4
  clear d0 d1 d2 d3 g0 g1 g2 g3
  go_loopw [4, 26] (fun v y wr => ∃ i : Nat, y = .int .i64 i ∧ i ≤ F.length ∧ v = .bool (decide (x.e ∈ F.take i)) ∧ wr = w4) (fun _ y _ => F.length - (intOf y).toNat)
  case atStart => exact ⟨0, rfl, by omega, by simp, rfl⟩
  case round =>
    obtain ⟨i, rfl, hi, rfl, rfl⟩ := hrel
    have d2 := x4.c2
    by_cases hend : i < F.length
    · obtain ⟨b, off, rfl, hb, hc⟩ := hv4.lie i hend
      have HT : Hid (decide (x.e ∈ F.take (i + 1)) = (decide (x.e ∈ F.take i) || (F[i] == x.e))) := took F i hend x.e
      generalize F[i] = u at *
      cases hg : decide (x.e ∈ F.take i) with
      | true =>
        rw [hg] at HT
        clear hg
        go_wp2_with (fail)
        go_roundw
        case rel => exact ⟨i + 1, by go_num, by omega, by rw [HT.out]; simp, trivial⟩
        case measure => simp [intOf]; omega
      | false =>
        rw [hg] at HT
        clear hg
        go_wp2_with (fail)
        go_roundw
        case rel => exact ⟨i + 1, by go_num, by omega, by rw [HT.out]; simp, trivial⟩
        case measure => simp [intOf]; omega
    · have ei : F.take i = F := List.take_of_length_le (by omega)
      rw [ei]
      clear ei
      have d0 := x4.c0
      have d1 := x4.c1
      have d3 := x4.c3
      have E4 := ((E1.later b2).later b3).later B4
      rcases hcase with ⟨h1, h2⟩ | ⟨h1, h2⟩
      · have e1 : decide (x.e ∈ F) = true := decide_eq_true h1
        have e2 : L.length = 1 := by rw [h2]; rfl
        rw [e1, e2]
        rw [e2] at hvf
        go_wp2_with (go_at_call 11; refine (h11 _ E4).mono ?_; rintro e w5 ⟨rfl, b5⟩)
        go_ret
        exact ⟨rfl, nf.chain (nf.chain (nf.chain (nf.chain B1 b2) b3) B4) b5⟩
      · have e1 : decide (x.e ∈ F) = false := decide_eq_false h1
        have e2 : L.length = 0 := by rw [h2]; rfl
        rw [e1, e2]
        rw [e2] at hvf
        go_wp2_with (go_at_call 11; refine (h11 _ E4).mono ?_; rintro e w5 ⟨rfl, b5⟩)
        go_ret
        exact ⟨rfl, nf.chain (nf.chain (nf.chain (nf.chain B1 b2) b3) B4) b5⟩
theorem walk {x : Nfa} {o : Option Addr} {cap : Nat} {w : World} (hE : Eds w o cap x.edges ∧ ∀ e ∈ x.edges, nf.Fits e) (w0 : World) (hw0 : w0 = w := by rfl) :
    Calls Try.prog 3 #[nfaV x.n x.s x.e o x.edges.length cap] w0 fun e w' => e = .returned (.bool true) ∧ Below w0.heap.size w0 w' := by
  subst hw0
  cases hr : nf.right x with
  | false => exact walk_no hE hr
  | true => exact walk_yes hE hr

set_option maxRecDepth 100000 in
theorem lifted (os : Os) (started : os.Started) (H : Type) (enc : TypeId × Value → H) :
    ReturnsInHanded {} Try.checked os 3 .any (Rows.nfaEmptySpec.pre6 enc Try.prog Try.f3 Rows.nfaEmptyRow.domain false) (Rows.nfaEmptySpec.post enc Try.prog Try.f3 false true false false) := by
  refine returnsInHanded_of_change_sized (C := Try.checked) own started (by kernel_rfl) Try.func3
    (ChangeSpec.witness6 (enc := enc) (C := Try.checked) false ⟨#[], #[.agg #[.int .i64 0, .int .i64 0, .int .i64 0, .slice none 0 0]], []⟩ 8 (by kernel_rfl) (by kernel_rfl) (by kernel_rfl) (by kernel_rfl)) ?_
  intro W base args ds gs before hval0 hW hcnd hsz0 _
  have hsz : (DataW.weightsEach Try.prog (Try.f3.params.toList ++ Rows.nfaEmptySpec.plain.varTypes Try.prog) (ds ++ gs)).all (· ≤ reachBytes) = true := hsz0
  have hval : ∀ (j : Nat) t v, Try.f3.params[j]? = some t → args[j]? = some v → Value.okWide Try.prog W .any base t v := hval0
  have hW' := hW
  obtain ⟨p, q, hA0, hV, rfl, hfz, hnd⟩ := hW
  have hA : DataW.TrodAll enc Try.prog W 0 (fun _ => true) true Try.f3.params.toList args.toList ds p := hA0
  rw [Try.params3] at hA hval hsz
  obtain ⟨v0, vs0, d0, ds0, p0, q0, hargs, rfl, rfl, h0, r0⟩ := trodAll_cons hA
  obtain ⟨rfl, rfl, rfl⟩ := trodAll_nil r0
  obtain rfl : args = #[v0] := by cases args; simp_all
  obtain ⟨rfl, rfl⟩ := trodVars_none hV
  have k0 := h0
  have lt0 : ∀ x ∈ p0, x.block < W.heap.size := by obtain ⟨m, hm⟩ := k0; exact DataW.trod_lt m _ _ _ hm
  obtain ⟨e0, o0, cap0, rfl, F0⟩ := nf.open24 (hval 0 24 v0 rfl rfl) h0
  clear hA0 hval0
  refine (walk F0 W).mono fun e W' ⟨he, bel⟩ => ?_
  subst he
  exact ⟨_, rfl, _, _, _, [], _, [], hW', trodAll_mk1 (shut_bool Try.underlying4 _), (trodAll_cons_mk (Below.trod laidOut (by kernel_rfl) (of_decide_eq_true (by kernel_rfl)) k0 bel lt0) trodAll_mk0), rfl, bel.frame _, fun h => by cases h⟩

theorem over : Rows.nfaEmptyRow.holds Try.pinned (OpenSpec.ofChange Rows.nfaEmptySpec) :=
  OpenClaim.holds_of_wide 3 Try.f3 rfl rfl rfl rfl rfl rfl rfl ⟨rfl, rfl, rfl, rfl, rfl⟩ rfl rfl rfl rfl rfl (by kernel_rfl) Try.func3 (by kernel_rfl)
    (of_decide_eq_true (by kernel_rfl)) (by unfold Func.isWrapper; first | (rw [if_pos (by decide +kernel)]; kernel_rfl) | (rw [if_neg (by decide +kernel)]; exact ⟨rfl, rfl⟩))
    (fun os started H enc _ => lifted os started H enc)

theorem proved : Rows.NfaEmptySaid :=
  over
#print axioms proved
end Go.Proofs.Ythknhbmibmndoaa.nfaEmpty
