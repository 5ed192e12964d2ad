/-
  For every configuration and every list of ids the law TokWrites of package fretsawlaw18 returns true (what the ids write, as it is and made well-formed, is as the document says, or refused), and the arguments read as before. No condition.
-/
import Derived.Test.YthmecbonjkcnmaaKWd
import Derived.Test.YthmecbonjkcnmaaKCi
import Derived.Test.YthmecbonjkcnmaaKCj
import Derived.Test.YthmecbonjkcnmaaKMg
import Derived.ProofKit
import Derived.ShutString
import Derived.Lib.QuietBelow
namespace Go.Proofs.Ythmecbonjkcnmaa.tokWrites
open Go.ChangeShapes Go.WideShapes Go.ChangeAt Go.RowKit Go.Sort
open Go.ChangeMaps (open_string shut_string)
open cf (Cf Cp cv CfAt CBox cfE cbox_new)
open mg (Row RowV IntsV StrsV In chain below_alloc)
open tw
set_option linter.unusedVariables false

theorem own : ownKnob Try.prog.godebug = none := by kernel_rfl
theorem laidOut : laidOutB Try.prog = true := by kernel_rfl

set_option maxHeartbeats 4000000 in
set_option maxRecDepth 100000 in
theorem walk_at {c : Cf} {p : Cp} {ids : List Int} {v : Value} {w : World} (hM : CfAt w c p) (hv : IntsV w v ids) :
    Calls Try.prog 3 #[.agg (cv c p), v] w fun e w' => e = .returned (.bool true) ∧ Below w.heap.size w w' := by
  obtain ⟨wA, hwA⟩ : ∃ wA, wA = w.alloc (.cells (cv c p) 34) := ⟨_, rfl⟩
  have B0 : Below w.heap.size w wA := by rw [hwA]; exact below_alloc w _
  have HM := (show Hid (CfAt wA c p) from hM.later B0)
  have hX0 : (w.alloc (.cells (cv c p) 34)).heap[w.heap.size]? = some (.cells (cv c p) 34 (0, 0)) := cbox_new w c p
  have HX := (show Hid (CBox wA w.heap.size c p) from by rw [hwA]; exact cbox_new w c p)
  have hi34 := info34 c p
  have hvA := hv.later B0
  obtain ⟨o, cap, rfl, hrow⟩ := hv
  have f1 := hrow.fit
  have f2 := hrow.top
  clear hM hrow
  by_cases hcut : 3000 < ids.length ∧ ids.length ≤ 262144
  · obtain ⟨hc1, hc2⟩ := hcut
    have HV := (show Hid (IntsV wA (.slice o 3000 cap) (ids.take 3000)) from (hvA.take 3000 (by omega)).2)
    have hl3 : (ids.take 3000).length = 3000 := by rw [List.length_take]; omega
    obtain ⟨is, his⟩ : ∃ is, is = ids.take 3000 := ⟨_, rfl⟩
    rw [← his] at HV hl3
    have HL3 := (show Hid (is.length = 3000) from hl3)
    clear his hl3 hvA
    have c4 := text_any c p is _ wA HM.out HV.out
    obtain ⟨w0, hw0⟩ : ∃ w0, w0 = wA := ⟨_, rfl⟩
    go_enter Try.func3, Try.ntmps3
    go_wp2_with (first | (refine wpList_load_row rfl 34 (.tmp 2) rfl w.heap.size rfl 34 (cv c p) (0, 0) _ hX0 Try.underlying34 rfl hi34 ?_))
    rw [← hwA]
    clear hwA hX0 hw0
    go_at_call 4
    refine c4.mono ?_
    rintro e w1 ⟨r, t, rfl, hT, b1⟩
    clear c4
    have hX1 : w1.heap[w.heap.size]? = some (.cells (cv c p) 34 (0, 0)) := HX.out.later b1
    have c5 := show_any c p is _ w1 (HM.out.later b1) (HV.out.later b1)
    go_wp2_with (first | (refine wpList_load_row rfl 34 (.tmp 2) rfl w.heap.size rfl 34 (cv c p) (0, 0) _ hX1 Try.underlying34 rfl hi34 ?_))
    go_at_call 5
    refine c5.mono ?_
    rintro e w2 ⟨r2, t2, s2, rfl, hT2, HS2, b2⟩
    obtain ⟨rfl, rfl⟩ := hT.one hT2
    clear c5 hT2
    have b12 := chain b1 b2
    have hX2 : w2.heap[w.heap.size]? = some (.cells (cv c p) 34 (0, 0)) := HX.out.later b12
    have c6 := cf.rright_any c p w2 (HM.out.later b12) _ rfl
    go_wp2_with (first | (refine wpList_load_row rfl 34 (.tmp 2) rfl w.heap.size rfl 34 (cv c p) (0, 0) _ hX2 Try.underlying34 rfl hi34 ?_))
    go_at_call 6
    refine c6.mono ?_
    rintro e w3 ⟨rfl, b3⟩
    clear c6
    have b13 := chain b12 b3
    have HB := (show Hid (Below w.heap.size w w3) from chain B0 b13)
    rcases hT with ⟨h0, rfl, rfl⟩ | ⟨h0, hlong, rfl, rfl⟩ | ⟨h0, hle, hok, rfl, rfl⟩ | ⟨h0, hle, hok, rfl, rfl⟩
    · have hs2 : s2 = e0 := by rw [HS2.out, if_neg h0]
      clear HS2
      subst hs2
      have hb1 : (((cfE c : Nat) : Int) == 0) = false := by rw [beq_eq_false_iff_ne]; omega
      have hb2 : (((cfE c : Nat) : Int) != 0) = true := by rw [bne_iff_ne]; omega
      generalize cfE c = r at *
      unfold e0
      clear hX1 hX2
      go_wp2_with (fail)
      go_ret
      exact ⟨by simp, HB.out⟩
    · exact absurd HL3.out (by omega)
    · have c7 := rtext_any c p is _ w3 (HM.out.later b13) h0 (HV.out.later b13) hle
      have hX3 : w3.heap[w.heap.size]? = some (.cells (cv c p) 34 (0, 0)) := HX.out.later b13
      have hs2 : s2 = e0 := by rw [HS2.out, if_neg (by omega)]
      clear HS2
      subst hs2
      rw [h0]
      clear hX1 hX2 h0
      go_wp2_with (first | (refine wpList_load_row rfl 34 (.tmp 2) rfl w.heap.size rfl 34 (cv c p) (0, 0) _ hX3 Try.underlying34 rfl hi34 ?_))
      go_at_call 7
      refine c7.mono ?_
      rintro e w4 ⟨b, t, rfl, rfl, rfl, b4⟩
      rw [hok, if_neg (by simp)]
      have HB4 := (show Hid (Below w.heap.size w w4) from chain HB.out b4)
      unfold e0
      clear c7 hX3
      go_wp2_with (fail)
      go_ret
      exact ⟨by simp, HB4.out⟩
    · have c7 := rtext_any c p is _ w3 (HM.out.later b13) h0 (HV.out.later b13) hle
      have hX3 : w3.heap[w.heap.size]? = some (.cells (cv c p) 34 (0, 0)) := HX.out.later b13
      have c8 := chars.rfix_any (outB c is) (by have := (Txt.small (c := c) (ids := is) (r := 0) (t := outB c is) (.inr (.inr (.inr ⟨h0, hle, hok, rfl, rfl⟩)))); omega)
      have hs2 : s2 = fixB (outB c is) := by rw [HS2.out, if_pos rfl]
      clear HS2
      subst hs2
      rw [h0]
      clear hX1 hX2 h0
      go_wp2_with (first | (refine wpList_load_row rfl 34 (.tmp 2) rfl w.heap.size rfl 34 (cv c p) (0, 0) _ hX3 Try.underlying34 rfl hi34 ?_))
      go_at_call 7
      refine c7.mono ?_
      rintro e w4 ⟨b, t, rfl, rfl, rfl, b4⟩
      rw [hok, if_pos rfl]
      have HB4 := (show Hid (Below w.heap.size w w4) from chain HB.out b4)
      unfold fixB
      generalize outB c is = t at *
      generalize (⟨(chars.fix t.data.toList).toArray⟩ : ByteArray) = t2 at *
      clear c7 hX3
      go_wp2_with (fail)
      go_at_call 8
      refine (c8 _).mono ?_
      rintro e w5 ⟨rfl, b5⟩
      have HB5 := (show Hid (Below w.heap.size w w5) from chain HB4.out b5)
      go_wp2_with (fail)
      go_ret
      exact ⟨by simp, HB5.out⟩
  · have HV := (show Hid (IntsV wA (.slice o ids.length cap) ids) from hvA)
    have c4 := text_any c p ids _ wA HM.out HV.out
    have HCUT := (show Hid (¬ (3000 < ids.length ∧ ids.length ≤ 262144)) from hcut)
    clear hvA hcut
    by_cases h3 : 3000 < ids.length
    · have h4 : 262144 < ids.length := by have := HCUT.out; omega
      obtain ⟨w0, hw0⟩ : ∃ w0, w0 = wA := ⟨_, rfl⟩
      go_enter Try.func3, Try.ntmps3
      go_wp2_with (first | (refine wpList_load_row rfl 34 (.tmp 2) rfl w.heap.size rfl 34 (cv c p) (0, 0) _ hX0 Try.underlying34 rfl hi34 ?_))
      rw [← hwA]
      clear hwA hX0 hw0
      go_at_call 4
      refine c4.mono ?_
      rintro e w1 ⟨r, t, rfl, hT, b1⟩
      clear c4
      have hX1 : w1.heap[w.heap.size]? = some (.cells (cv c p) 34 (0, 0)) := HX.out.later b1
      have c5 := show_any c p ids _ w1 (HM.out.later b1) (HV.out.later b1)
      go_wp2_with (first | (refine wpList_load_row rfl 34 (.tmp 2) rfl w.heap.size rfl 34 (cv c p) (0, 0) _ hX1 Try.underlying34 rfl hi34 ?_))
      go_at_call 5
      refine c5.mono ?_
      rintro e w2 ⟨r2, t2, s2, rfl, hT2, HS2, b2⟩
      obtain ⟨rfl, rfl⟩ := hT.one hT2
      clear c5 hT2
      have b12 := chain b1 b2
      have hX2 : w2.heap[w.heap.size]? = some (.cells (cv c p) 34 (0, 0)) := HX.out.later b12
      have c6 := cf.rright_any c p w2 (HM.out.later b12) _ rfl
      go_wp2_with (first | (refine wpList_load_row rfl 34 (.tmp 2) rfl w.heap.size rfl 34 (cv c p) (0, 0) _ hX2 Try.underlying34 rfl hi34 ?_))
      go_at_call 6
      refine c6.mono ?_
      rintro e w3 ⟨rfl, b3⟩
      clear c6
      have b13 := chain b12 b3
      have HB := (show Hid (Below w.heap.size w w3) from chain B0 b13)
      rcases hT with ⟨h0, rfl, rfl⟩ | ⟨h0, hlong, rfl, rfl⟩ | ⟨h0, hle, hok, rfl, rfl⟩ | ⟨h0, hle, hok, rfl, rfl⟩
      · have hs2 : s2 = e0 := by rw [HS2.out, if_neg h0]
        clear HS2
        subst hs2
        have hb1 : (((cfE c : Nat) : Int) == 0) = false := by rw [beq_eq_false_iff_ne]; omega
        have hb2 : (((cfE c : Nat) : Int) != 0) = true := by rw [bne_iff_ne]; omega
        generalize cfE c = r at *
        unfold e0
        clear hX1 hX2
        go_wp2_with (fail)
        go_ret
        exact ⟨by simp, HB.out⟩
      · have hs2 : s2 = e0 := by rw [HS2.out, if_neg (by omega)]
        clear HS2
        subst hs2
        rw [h0]
        unfold e0
        clear hX1 hX2 h0
        go_wp2_with (fail)
        go_ret
        exact ⟨by simp, HB.out⟩
      · exact absurd hle (by omega)
      · exact absurd hle (by omega)
    · have h4 : ids.length ≤ 262144 := by omega
      obtain ⟨w0, hw0⟩ : ∃ w0, w0 = wA := ⟨_, rfl⟩
      go_enter Try.func3, Try.ntmps3
      go_wp2_with (first | (refine wpList_load_row rfl 34 (.tmp 2) rfl w.heap.size rfl 34 (cv c p) (0, 0) _ hX0 Try.underlying34 rfl hi34 ?_))
      rw [← hwA]
      clear hwA hX0 hw0
      go_at_call 4
      refine c4.mono ?_
      rintro e w1 ⟨r, t, rfl, hT, b1⟩
      clear c4
      have hX1 : w1.heap[w.heap.size]? = some (.cells (cv c p) 34 (0, 0)) := HX.out.later b1
      have c5 := show_any c p ids _ w1 (HM.out.later b1) (HV.out.later b1)
      go_wp2_with (first | (refine wpList_load_row rfl 34 (.tmp 2) rfl w.heap.size rfl 34 (cv c p) (0, 0) _ hX1 Try.underlying34 rfl hi34 ?_))
      go_at_call 5
      refine c5.mono ?_
      rintro e w2 ⟨r2, t2, s2, rfl, hT2, HS2, b2⟩
      obtain ⟨rfl, rfl⟩ := hT.one hT2
      clear c5 hT2
      have b12 := chain b1 b2
      have hX2 : w2.heap[w.heap.size]? = some (.cells (cv c p) 34 (0, 0)) := HX.out.later b12
      have c6 := cf.rright_any c p w2 (HM.out.later b12) _ rfl
      go_wp2_with (first | (refine wpList_load_row rfl 34 (.tmp 2) rfl w.heap.size rfl 34 (cv c p) (0, 0) _ hX2 Try.underlying34 rfl hi34 ?_))
      go_at_call 6
      refine c6.mono ?_
      rintro e w3 ⟨rfl, b3⟩
      clear c6
      have b13 := chain b12 b3
      have HB := (show Hid (Below w.heap.size w w3) from chain B0 b13)
      rcases hT with ⟨h0, rfl, rfl⟩ | ⟨h0, hlong, rfl, rfl⟩ | ⟨h0, hle, hok, rfl, rfl⟩ | ⟨h0, hle, hok, rfl, rfl⟩
      · have hs2 : s2 = e0 := by rw [HS2.out, if_neg h0]
        clear HS2
        subst hs2
        have hb1 : (((cfE c : Nat) : Int) == 0) = false := by rw [beq_eq_false_iff_ne]; omega
        have hb2 : (((cfE c : Nat) : Int) != 0) = true := by rw [bne_iff_ne]; omega
        generalize cfE c = r at *
        unfold e0
        clear hX1 hX2
        go_wp2_with (fail)
        go_ret
        exact ⟨by simp, HB.out⟩
      · exact absurd hlong (by omega)
      · have c7 := rtext_any c p ids _ w3 (HM.out.later b13) h0 (HV.out.later b13) hle
        have hX3 : w3.heap[w.heap.size]? = some (.cells (cv c p) 34 (0, 0)) := HX.out.later b13
        have hs2 : s2 = e0 := by rw [HS2.out, if_neg (by omega)]
        clear HS2
        subst hs2
        rw [h0]
        clear hX1 hX2 h0
        go_wp2_with (first | (refine wpList_load_row rfl 34 (.tmp 2) rfl w.heap.size rfl 34 (cv c p) (0, 0) _ hX3 Try.underlying34 rfl hi34 ?_))
        go_at_call 7
        refine c7.mono ?_
        rintro e w4 ⟨b, t, rfl, rfl, rfl, b4⟩
        rw [hok, if_neg (by simp)]
        have HB4 := (show Hid (Below w.heap.size w w4) from chain HB.out b4)
        unfold e0
        clear c7 hX3
        go_wp2_with (fail)
        go_ret
        exact ⟨by simp, HB4.out⟩
      · have c7 := rtext_any c p ids _ w3 (HM.out.later b13) h0 (HV.out.later b13) hle
        have hX3 : w3.heap[w.heap.size]? = some (.cells (cv c p) 34 (0, 0)) := HX.out.later b13
        have c8 := chars.rfix_any (outB c ids) (by have := (Txt.small (c := c) (ids := ids) (r := 0) (t := outB c ids) (.inr (.inr (.inr ⟨h0, hle, hok, rfl, rfl⟩)))); omega)
        have hs2 : s2 = fixB (outB c ids) := by rw [HS2.out, if_pos rfl]
        clear HS2
        subst hs2
        rw [h0]
        clear hX1 hX2 h0
        go_wp2_with (first | (refine wpList_load_row rfl 34 (.tmp 2) rfl w.heap.size rfl 34 (cv c p) (0, 0) _ hX3 Try.underlying34 rfl hi34 ?_))
        go_at_call 7
        refine c7.mono ?_
        rintro e w4 ⟨b, t, rfl, rfl, rfl, b4⟩
        rw [hok, if_pos rfl]
        have HB4 := (show Hid (Below w.heap.size w w4) from chain HB.out b4)
        unfold fixB
        generalize outB c ids = t at *
        generalize (⟨(chars.fix t.data.toList).toArray⟩ : ByteArray) = t2 at *
        clear c7 hX3
        go_wp2_with (fail)
        go_at_call 8
        refine (c8 _).mono ?_
        rintro e w5 ⟨rfl, b5⟩
        have HB5 := (show Hid (Below w.heap.size w w5) from chain HB4.out b5)
        go_wp2_with (fail)
        go_ret
        exact ⟨by simp, HB5.out⟩
theorem walk {c : Cf} {p : Cp} {ids : List Int} {v : Value} {W : World} (hM : CfAt W c p) (hv : IntsV W v ids) (w : World) : Calls Try.prog 3 #[.agg (cv c p), v] W fun e w' => e = .returned (.bool true) ∧ Below W.heap.size W w' := walk_at hM hv

set_option maxRecDepth 100000 in
theorem lifted (os : Os) (started : os.Started) (H : Type) (enc : TypeId × Value → H) :
    ReturnsInHanded {} Try.checked os 3 .any (Rows.tokWritesSpec.pre6 enc Try.prog Try.f3 Rows.tokWritesRow.domain false) (Rows.tokWritesSpec.post enc Try.prog Try.f3 false true false false) := by
  refine returnsInHanded_of_change_sized (C := Try.checked) own started (by kernel_rfl) Try.func3
    (ChangeSpec.witness6 (enc := enc) (C := Try.checked) false ⟨#[], #[.agg #[.slice none 0 0, .int .i64 0, .int .u64 0, .int .u64 0, .int .u64 0, .int .u64 0, .int .i64 0, .int .i64 0, .slice none 0 0, .slice none 0 0, .slice none 0 0, .slice none 0 0, .slice none 0 0], .slice none 0 0], []⟩ 8 (by kernel_rfl) (by kernel_rfl) (by kernel_rfl) (by kernel_rfl)) ?_
  intro W base args ds gs before hval0 hW hcnd hsz0 _
  have hsz : (DataW.weightsEach Try.prog (Try.f3.params.toList ++ Rows.tokWritesSpec.plain.varTypes Try.prog) (ds ++ gs)).all (· ≤ reachBytes) = true := hsz0
  have hval : ∀ (j : Nat) t v, Try.f3.params[j]? = some t → args[j]? = some v → Value.okWide Try.prog W .any base t v := hval0
  have hW' := hW
  obtain ⟨p, q, hA0, hV, rfl, hfz, hnd⟩ := hW
  have hA : DataW.TrodAll enc Try.prog W 0 (fun _ => true) true Try.f3.params.toList args.toList ds p := hA0
  rw [Try.params3] at hA hval hsz
  obtain ⟨v0, vs0, d0, ds0, p0, q0, hargs, rfl, rfl, h0, r0⟩ := trodAll_cons hA
  obtain ⟨v1, vs1, d1, ds1, p1, q1, rfl, rfl, rfl, h1, r1⟩ := trodAll_cons r0
  obtain ⟨rfl, rfl, rfl⟩ := trodAll_nil r1
  obtain rfl : args = #[v0, v1] := by cases args; simp_all
  obtain ⟨rfl, rfl⟩ := trodVars_none hV
  have k0 := h0
  have lt0 : ∀ x ∈ p0, x.block < W.heap.size := by obtain ⟨m, hm⟩ := k0; exact DataW.trod_lt m _ _ _ hm
  obtain ⟨m0, mp0, rfl, F0⟩ := cf.open34 (hval 0 34 v0 rfl rfl) h0
  have k1 := h1
  have lt1 : ∀ x ∈ p1, x.block < W.heap.size := by obtain ⟨m, hm⟩ := k1; exact DataW.trod_lt m _ _ _ hm
  obtain ⟨l1, F1⟩ := mg.open32 (hval 1 32 v1 rfl rfl) h1
  clear hA0 hval0
  refine (walk F0 F1 W).mono fun e W' ⟨he, bel⟩ => ?_
  subst he
  exact ⟨_, rfl, _, _, _, [], _, [], hW', trodAll_mk1 (shut_bool Try.underlying4 _), (trodAll_cons_mk (Below.trod laidOut (by kernel_rfl) (of_decide_eq_true (by kernel_rfl)) k0 bel lt0) (trodAll_cons_mk (Below.trod laidOut (by kernel_rfl) (of_decide_eq_true (by kernel_rfl)) k1 bel lt1) trodAll_mk0)), rfl, bel.frame _, fun h => by cases h⟩

theorem over : Rows.tokWritesRow.holds Try.pinned (OpenSpec.ofChange Rows.tokWritesSpec) :=
  OpenClaim.holds_of_wide 3 Try.f3 rfl rfl rfl rfl rfl rfl rfl ⟨rfl, rfl, rfl, rfl, rfl⟩ rfl rfl rfl rfl rfl (by kernel_rfl) Try.func3 (by kernel_rfl)
    (of_decide_eq_true (by kernel_rfl)) (by unfold Func.isWrapper; first | (rw [if_pos (by decide +kernel)]; kernel_rfl) | (rw [if_neg (by decide +kernel)]; exact ⟨rfl, rfl⟩))
    (fun os started H enc _ => lifted os started H enc)

theorem proved : Rows.TokWritesSaid :=
  over
#print axioms proved
end Go.Proofs.Ythmecbonjkcnmaa.tokWrites
