/-
  For every machine and every text the law TransGrows of package fretsawlaw12 returns true (how much any machine puts at a byte, and at the end, is as the document says; what it puts of a text is no longer than that), and the arguments read as before. No condition.
-/
import Derived.Test.YtafcekognhkmgaaTm
import Derived.ProofKit
import Derived.ShutString
namespace Go.Proofs.Ytafcekognhkmgaa.transGrows
open Go.ChangeShapes Go.WideShapes Go.ChangeAt Go.RowKit
open Go.ChangeMaps (open_string shut_string)
open tr
set_option linter.unusedVariables false

theorem own : ownKnob Try.prog.godebug = none := by kernel_rfl
theorem laidOut : laidOutB Try.prog = true := by kernel_rfl

def cut (s : ByteArray) : ByteArray := if s.size ≤ 300 then s else s.extract 0 300
theorem cut_size (s : ByteArray) : (cut s).size ≤ 300 := by
  unfold cut
  split
  · assumption
  · simp; omega
set_option maxHeartbeats 2000000 in
set_option maxRecDepth 100000 in
theorem walk {m : Mc} {p : Mp} {w : World} (hM : MAt (In w) w m p) {s : ByteArray} (hs : s.size ≤ 140737488351232) (w0 : World) (hw0 : w0 = w := by rfl) :
    Calls Try.prog 8 #[.agg (mv m p), .string s] w0 fun e w' => e = .returned (.bool true) ∧ Below w0.heap.size w0 w' := by
  subst hw0
  obtain ⟨wA, HWA⟩ : ∃ wA, Hid (wA = w0.alloc (.cells (mv m p) 26)) := ⟨_, rfl⟩
  have B0 : Below w0.heap.size w0 wA := by rw [HWA.out]; exact below_alloc w0 _
  have hMA : MAt (In wA) wA m p := hM.later B0
  have hXA : Box wA w0.heap.size m p := by rw [HWA.out]; exact box_new w0 m p
  have HK : Hid (∀ W, Below wA.heap.size wA W → Box W w0.heap.size m p ∧ MAt (In W) W m p) := fun W b => ⟨hXA.later b, hMA.later b⟩
  have c10 := rright_any m _ rfl p
  have c15 := short_any s 300 (by omega) (by omega)
  have c11 := run_any m (cut s) (by have := cut_size s; omega) _ _ rfl rfl p
  have hcs := cut_size s
  rw [show (if s.size ≤ 300 then s else s.extract 0 300) = cut s from rfl] at c15
  have hb0 := hXA
  unfold Box at hb0
  obtain ⟨N, hN⟩ : ∃ N : Nat, N = 256 := ⟨_, rfl⟩
  have c24 := grow_any N hN m _ _ rfl rfl p wA hMA
  cases hr : right m with
  | false =>
    rw [hr] at c10
    rw [show gN N m = 0 by unfold gN; rw [if_neg (by simp [hr])], show gL m = 0 by unfold gL; rw [if_neg (by simp [hr])]] at c24
    rw [HWA.out] at hb0 c24
    clear hr hM hMA hXA hN
    go_enter Try.func8, Try.ntmps8
    go_wp2_with (first | (refine wpList_load_row rfl 26 (.tmp 2) rfl w0.heap.size rfl 26 (mv m p) (0, 0) _ hb0 Try.underlying26 rfl info26 ?_) | (go_at_call 24; refine c24.mono ?_; rintro e w1 ⟨rfl, b1⟩; rw [← HWA.out] at b1; have X1 := (HK.out w1 b1).1; have d10 := c10 w1 (HK.out w1 b1).2; clear hb0) | (refine wpList_load_row rfl 26 (.tmp 2) rfl w0.heap.size rfl 26 (mv m p) (0, 0) _ X1 Try.underlying26 rfl info26 ?_) | (go_at_call 10; refine d10.mono ?_; rintro e w2 ⟨rfl, b2⟩; have b2' := chain b1 b2))
    go_ret
    exact ⟨rfl, chain B0 b2'⟩
  | true =>
    have hR := right_iff.1 hr
    have c25 := rgrow_any N hN m hR _ _ rfl rfl p
    rw [hr] at c10
    rw [show gN N m = most N m m.next.length by unfold gN; rw [if_pos hr], show gL m = last m m.next.length by unfold gL; rw [if_pos hr]] at c24
    have hm1 := most_le N hR m.next.length
    have hl1 := last_le hR m.next.length
    have hmul : most N m m.next.length * (cut s).size ≤ 4097 * 300 := Nat.mul_le_mul hm1 hcs
    have hm2 : (most N m m.next.length : Int) * ((cut s).size : Int) ≤ 1229100 := by rw [← Int.natCast_mul]; omega
    have hm0 : 0 ≤ (most N m m.next.length : Int) * ((cut s).size : Int) := by rw [← Int.natCast_mul]; omega
    by_cases h6 : (total m 0 (cut s).data.toList).length ≤ 262144
    · have HLE : Hid (((bs (total m 0 (cut s).data.toList)).size : Int) ≤ (most N m m.next.length : Int) * ((cut s).size : Int) + (last m m.next.length : Int)) := by
        have := total_most N hN hR (cut s).data.toList
        rw [list_len] at this
        show _ ≤ _
        rw [← Int.natCast_mul, bs_size]
        omega
      rw [show tr.runT m (cut s) = bs (total m 0 (cut s).data.toList) by unfold tr.runT; rw [if_pos ⟨hr, by omega, h6⟩], show runE m (cut s) = 0 by unfold runE; rw [if_pos hr, if_pos ⟨by omega, h6⟩]] at c11
      rw [HWA.out] at hb0 c24
      clear hr hM hMA hXA hN h6 hmul hR
      generalize bs (total m 0 (cut s).data.toList) = t at *
      generalize most N m m.next.length = n at *
      generalize last m m.next.length = l at *
      generalize cut s = u at *
      go_enter Try.func8, Try.ntmps8
      go_wp2_with (first | (refine wpList_load_row rfl 26 (.tmp 2) rfl w0.heap.size rfl 26 (mv m p) (0, 0) _ hb0 Try.underlying26 rfl info26 ?_) | (go_at_call 24; refine c24.mono ?_; rintro e w1 ⟨rfl, b1⟩; rw [← HWA.out] at b1; have X1 := (HK.out w1 b1).1; have d10 := c10 w1 (HK.out w1 b1).2; clear hb0) | (refine wpList_load_row rfl 26 (.tmp 2) rfl w0.heap.size rfl 26 (mv m p) (0, 0) _ X1 Try.underlying26 rfl info26 ?_) | (go_at_call 10; refine d10.mono ?_; rintro e w2 ⟨rfl, b2⟩; have b2' := chain b1 b2; have X2 := (HK.out w2 b2').1; have d25 := c25 w2 (HK.out w2 b2').2; clear X1) | (refine wpList_load_row rfl 26 (.tmp 2) rfl w0.heap.size rfl 26 (mv m p) (0, 0) _ X2 Try.underlying26 rfl info26 ?_) | (go_at_call 25; refine d25.mono ?_; rintro e w3 ⟨rfl, b3⟩; have b3' := chain b2' b3; have X3 := (HK.out w3 b3').1; have d11 := c11 w3 (HK.out w3 b3').2; clear X2) | (go_at_call 15; refine (c15 _).mono ?_; rintro e w4 ⟨rfl, h4⟩; obtain rfl := h4.symm) | (refine wpList_load_row rfl 26 (.tmp 2) rfl w0.heap.size rfl 26 (mv m p) (0, 0) _ X3 Try.underlying26 rfl info26 ?_) | (go_at_call 11; refine d11.mono ?_; rintro e w5 ⟨rfl, b5⟩; have b5' := chain b3' b5))
      go_ret
      refine ⟨?_, chain B0 b5'⟩
      show Ending.returned (.bool (decide ((t.size : Int) ≤ (n : Int) * (u.size : Int) + (l : Int)))) = _
      rw [decide_eq_true HLE.out]
    · rw [show runE m (cut s) = 2 by unfold runE; rw [if_pos hr, if_neg (fun h => h6 h.2)]] at c11
      rw [HWA.out] at hb0 c24
      clear hr hM hMA hXA hN h6 hmul hR
      generalize tr.runT m (cut s) = t at *
      generalize most N m m.next.length = n at *
      generalize last m m.next.length = l at *
      generalize cut s = u at *
      go_enter Try.func8, Try.ntmps8
      go_wp2_with (first | (refine wpList_load_row rfl 26 (.tmp 2) rfl w0.heap.size rfl 26 (mv m p) (0, 0) _ hb0 Try.underlying26 rfl info26 ?_) | (go_at_call 24; refine c24.mono ?_; rintro e w1 ⟨rfl, b1⟩; rw [← HWA.out] at b1; have X1 := (HK.out w1 b1).1; have d10 := c10 w1 (HK.out w1 b1).2; clear hb0) | (refine wpList_load_row rfl 26 (.tmp 2) rfl w0.heap.size rfl 26 (mv m p) (0, 0) _ X1 Try.underlying26 rfl info26 ?_) | (go_at_call 10; refine d10.mono ?_; rintro e w2 ⟨rfl, b2⟩; have b2' := chain b1 b2; have X2 := (HK.out w2 b2').1; have d25 := c25 w2 (HK.out w2 b2').2; clear X1) | (refine wpList_load_row rfl 26 (.tmp 2) rfl w0.heap.size rfl 26 (mv m p) (0, 0) _ X2 Try.underlying26 rfl info26 ?_) | (go_at_call 25; refine d25.mono ?_; rintro e w3 ⟨rfl, b3⟩; have b3' := chain b2' b3; have X3 := (HK.out w3 b3').1; have d11 := c11 w3 (HK.out w3 b3').2; clear X2) | (go_at_call 15; refine (c15 _).mono ?_; rintro e w4 ⟨rfl, h4⟩; obtain rfl := h4.symm) | (refine wpList_load_row rfl 26 (.tmp 2) rfl w0.heap.size rfl 26 (mv m p) (0, 0) _ X3 Try.underlying26 rfl info26 ?_) | (go_at_call 11; refine d11.mono ?_; rintro e w5 ⟨rfl, b5⟩; have b5' := chain b3' b5))
      go_ret
      exact ⟨rfl, chain B0 b5'⟩
set_option maxRecDepth 100000 in
theorem lifted (os : Os) (started : os.Started) (H : Type) (enc : TypeId × Value → H) :
    ReturnsInHanded {} Try.checked os 8 .any (Rows.transGrowsSpec.pre6 enc Try.prog Try.f8 Rows.transGrowsRow.domain false) (Rows.transGrowsSpec.post enc Try.prog Try.f8 false true false false) := by
  refine returnsInHanded_of_change_sized (C := Try.checked) own started (by kernel_rfl) Try.func8
    (ChangeSpec.witness6 (enc := enc) (C := Try.checked) false ⟨#[], #[.agg #[.slice none 0 0, .slice none 0 0, .slice none 0 0, .slice none 0 0], .string ByteArray.empty], []⟩ 8 (by kernel_rfl) (by kernel_rfl) (by kernel_rfl) (by kernel_rfl)) ?_
  intro W base args ds gs before hval0 hW hcnd hsz0 _
  have hsz : (DataW.weightsEach Try.prog (Try.f8.params.toList ++ Rows.transGrowsSpec.plain.varTypes Try.prog) (ds ++ gs)).all (· ≤ reachBytes) = true := hsz0
  have hval : ∀ (j : Nat) t v, Try.f8.params[j]? = some t → args[j]? = some v → Value.okWide Try.prog W .any base t v := hval0
  have hW' := hW
  obtain ⟨p, q, hA0, hV, rfl, hfz, hnd⟩ := hW
  have hA : DataW.TrodAll enc Try.prog W 0 (fun _ => true) true Try.f8.params.toList args.toList ds p := hA0
  rw [Try.params8] at hA hval hsz
  obtain ⟨v0, vs0, d0, ds0, p0, q0, hargs, rfl, rfl, h0, r0⟩ := trodAll_cons hA
  obtain ⟨v1, vs1, d1, ds1, p1, q1, rfl, rfl, rfl, h1, r1⟩ := trodAll_cons r0
  obtain ⟨rfl, rfl, rfl⟩ := trodAll_nil r1
  obtain rfl : args = #[v0, v1] := by cases args; simp_all
  obtain ⟨rfl, rfl⟩ := trodVars_none hV
  have k0 := h0
  have lt0 : ∀ x ∈ p0, x.block < W.heap.size := by obtain ⟨m, hm⟩ := k0; exact DataW.trod_lt m _ _ _ hm
  obtain ⟨m0, mp0, rfl, F0⟩ := tr.open26 (hval 0 26 v0 rfl rfl) h0
  obtain ⟨a1, rfl, rfl, rfl, w1⟩ := open_string Try.underlying9 (hval 1 9 v1 rfl rfl) h1
  have F1 : a1.size ≤ 140737488351232 := by
    have := sized_string hsz (j := 1) (t := 9) rfl rfl
    simpa [reachBytes] using this
  clear hA0 hval0
  refine (walk F0 F1 W).mono fun e W' ⟨he, bel⟩ => ?_
  subst he
  exact ⟨_, rfl, _, _, _, [], _, [], hW', trodAll_mk1 (shut_bool Try.underlying4 _), (trodAll_cons_mk (Below.trod laidOut (by kernel_rfl) (of_decide_eq_true (by kernel_rfl)) k0 bel lt0) (trodAll_cons_mk (shut_string Try.underlying9 w1) trodAll_mk0)), rfl, bel.frame _, fun h => by cases h⟩

theorem over : Rows.transGrowsRow.holds Try.pinned (OpenSpec.ofChange Rows.transGrowsSpec) :=
  OpenClaim.holds_of_wide 8 Try.f8 rfl rfl rfl rfl rfl rfl rfl ⟨rfl, rfl, rfl, rfl, rfl⟩ rfl rfl rfl rfl rfl (by kernel_rfl) Try.func8 (by kernel_rfl)
    (of_decide_eq_true (by kernel_rfl)) (by unfold Func.isWrapper; first | (rw [if_pos (by decide +kernel)]; kernel_rfl) | (rw [if_neg (by decide +kernel)]; exact ⟨rfl, rfl⟩))
    (fun os started H enc _ => lifted os started H enc)

theorem proved : Rows.TransGrowsSaid :=
  over
#print axioms proved
end Go.Proofs.Ytafcekognhkmgaa.transGrows
