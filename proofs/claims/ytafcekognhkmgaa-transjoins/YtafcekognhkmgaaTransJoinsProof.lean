/-
  For all lists of rules and every text the law TransJoins of package fretsawlaw12 returns true (the machines of two lists of rules, one behind the other, put what rewriting by the one, and then by the other one makes), and the arguments read as before. No condition.
-/
import Derived.Test.YtafcekognhkmgaaKSp
import Derived.Test.YtafcekognhkmgaaKAl
import Derived.Test.YtafcekognhkmgaaM17
import Derived.Test.YtafcekognhkmgaaM02
import Derived.Test.YtafcekognhkmgaaKArg
import Derived.ProofKit
import Derived.ShutString
namespace Go.Proofs.Ytafcekognhkmgaa.transJoins
open Go.ChangeShapes Go.WideShapes Go.ChangeAt Go.RowKit
open Go.ChangeMaps (open_string shut_string)
open tr
open ru (Ru Rus)
open ms (BOut nil4)
set_option linter.unusedVariables false

theorem own : ownKnob Try.prog.godebug = none := by kernel_rfl
theorem laidOut : laidOutB Try.prog = true := by kernel_rfl

def cut (s : ByteArray) : ByteArray := if s.size ≤ 100 then s else s.extract 0 100
theorem cut_size (s : ByteArray) : (cut s).size ≤ 100 := by
  unfold cut
  split
  · assumption
  · simp; omega
theorem good_of {l : List Ru} (h : ru.rightE l = 0) : ru.Good l := by
  by_cases hg : ru.Good l
  · exact hg
  · unfold ru.rightE at h
    by_cases h64 : 64 < l.length
    · rw [if_pos h64] at h; cases h
    · rw [if_neg h64, if_neg hg] at h; cases h
/-- what Build answers, in the law's own terms: a machine, or none with an error -/
theorem two {l : List Ru} {w : World} {e : Ending} {w' : World} (h : BOut l w e w') : (∃ m p, e = .returned (.tuple #[.agg (mv m p), .int .i64 0]) ∧ ru.Good l ∧ MAt (In w') w' m p ∧ Right m ∧ (∀ x, tr.total m 0 x = ru.ap l x) ∧ Below w.heap.size w w') ∨ (∃ n : Nat, e = .returned (.tuple #[.agg nil4, .int .i64 (n : Int)]) ∧ n ≠ 0 ∧ Below w.heap.size w w') := by
  rcases h with ⟨m, p, rfl, h0, h1, h2, h3, h4⟩ | ⟨n, rfl, h1, h2⟩
  · exact .inl ⟨m, p, rfl, good_of h0, h1, h2, h3, h4⟩
  · refine .inr ⟨n, rfl, ?_, h2⟩
    rcases h1 with ⟨h3, h4⟩ | ⟨_, h4, _⟩
    · rw [h4]; exact h3
    · omega
set_option maxHeartbeats 8000000 in
set_option maxRecDepth 100000 in
theorem walk {k l : List Ru} {vk v : Value} {w0 : World} (hK : Rus w0 vk k) (hS : Rus w0 v l) {s : ByteArray} (hs : s.size ≤ 140737488351232) (w : World) (hw0 : w = w0 := by rfl) :
    Calls Try.prog 6 #[vk, v, .string s] w fun e w' => e = .returned (.bool true) ∧ Below w.heap.size w w' := by
  subst hw0
  have c20 := al.alive_any w
  have HK := (show Hid (∀ W, Below w.heap.size w W → Rus W vk k) from fun W b => hK.below b)
  have HS := (show Hid (∀ W, Below w.heap.size w W → Rus W v l) from fun W b => hS.below b)
  clear hK hS
  go_enter Try.func6, Try.ntmps6
  go_wp2_with (fail)
  go_at_call 20
  refine c20.mono ?_
  rintro e w1 ⟨rfl, b1⟩
  have c13 := ms.build_any k vk w1 (HK.out w1 b1)
  clear c20
  go_wp2_with (fail)
  go_at_call 13
  refine c13.mono ?_
  intro e w2 hB
  clear c13
  rcases two hB with ⟨a, pa, rfl, hga, hMa, hRa, hTa, b2⟩ | ⟨n, rfl, hn, b2⟩
  · clear hB
    obtain ⟨w3, HW3⟩ : ∃ w3, Hid (w3 = w2.alloc (.cells (mv a pa) 26)) := ⟨_, rfl⟩
    have b3 : Below w2.heap.size w2 w3 := by rw [HW3.out]; exact below_alloc w2 _
    have X3 : Box w3 w2.heap.size a pa := by rw [HW3.out]; exact box_new w2 a pa
    have B3 : Below w.heap.size w w3 := chain (chain b1 b2) b3
    have d13 := ms.build_any l v w3 (HS.out w3 B3)
    have HA := (show Hid (∀ W, Below w3.heap.size w3 W → Box W w2.heap.size a pa ∧ MAt (In W) W a pa) from fun W b => ⟨X3.later b, (hMa.later b3).later b⟩)
    have HRA := (show Hid (Right a ∧ ru.Good k ∧ ∀ x, tr.total a 0 x = ru.ap k x) from ⟨hRa, hga, hTa⟩)
    obtain ⟨ab, HAB⟩ : ∃ ab, Hid (ab = w2.heap.size) := ⟨_, rfl⟩
    rw [← HAB.out] at HA
    clear hMa hRa hga hTa X3
    go_wp2_with (fail)
    rw [← HW3.out, ← HAB.out]
    clear HW3
    go_at_call 13
    refine d13.mono ?_
    intro e w4 hB
    clear d13
    rcases two hB with ⟨b, pb, rfl, hgb, hMb, hRb, hTb, b4⟩ | ⟨n, rfl, hn, b4⟩
    · clear hB
      obtain ⟨w5, HW5⟩ : ∃ w5, Hid (w5 = w4.alloc (.cells (mv b pb) 26)) := ⟨_, rfl⟩
      have b5 : Below w4.heap.size w4 w5 := by rw [HW5.out]; exact below_alloc w4 _
      have X5 : Box w5 w4.heap.size b pb := by rw [HW5.out]; exact box_new w4 b pb
      have K5 : Below w3.heap.size w3 w5 := chain b4 b5
      have B5 : Below w.heap.size w w5 := B3.trans (K5.mono B3.size)
      have HB := (show Hid (∀ W, Below w5.heap.size w5 W → Box W w4.heap.size b pb ∧ MAt (In W) W b pb) from fun W b => ⟨X5.later b, (hMb.later b5).later b⟩)
      have HA5 := (show Hid (∀ W, Below w5.heap.size w5 W → Box W ab a pa ∧ MAt (In W) W a pa) from fun W b => HA.out W (chain K5 b))
      have HRB := (show Hid (Right b ∧ ru.Good l ∧ ∀ x, tr.total b 0 x = ru.ap l x) from ⟨hRb, hgb, hTb⟩)
      obtain ⟨bb, HBB⟩ : ∃ bb, Hid (bb = w4.heap.size) := ⟨_, rfl⟩
      rw [← HBB.out] at HB
      have a0 := (HA5.out w5 (Below.refl _ _)).1.c0
      have e0 := (HB.out w5 (Below.refl _ _)).1.c0
      have hal := HRA.out.1
      clear hMb hRb hgb hTb X5 b4 b5 K5 b3 b2 b1 HA hal
      rw [HW5.out] at a0 e0
      rw [HBB.out] at e0
      by_cases ha : 60 < a.next.length
      · have da : decide ((60 : Int) < (a.next.length : Int)) = true := by rw [decide_eq_true_iff]; omega
        go_wp2_with (fail)
        rw [← HW5.out]
        go_ret
        exact ⟨rfl, B5⟩
      · have da : decide ((60 : Int) < (a.next.length : Int)) = false := by rw [decide_eq_false_iff_not]; omega
        by_cases hb : 60 < b.next.length
        · have db : decide ((60 : Int) < (b.next.length : Int)) = true := by rw [decide_eq_true_iff]; omega
          go_wp2_with (fail)
          rw [← HW5.out]
          go_ret
          exact ⟨rfl, B5⟩
        · have db : decide ((60 : Int) < (b.next.length : Int)) = false := by rw [decide_eq_false_iff_not]; omega
          have hz := cut_size s
          have c15 : ∀ w, Calls Try.prog 15 #[.string s, .int .i64 100] w fun e w' => e = .returned (.string (cut s)) ∧ w' = w := fun w => short_any s 100 (by omega) (by omega) w
          have hg1 := HRA.out.2.1
          have hg2 := HRB.out.2.1
          have l1 : (ru.ap k (cut s).data.toList).length ≤ 3200 := by
            have := ru.rw.end_len hg1 (cut s).data.toList
            have h2 := list_len (cut s)
            omega
          have l2 : (ru.ap l (ru.ap k (cut s).data.toList)).length ≤ 102400 := by
            have := ru.rw.end_len hg2 (ru.ap k (cut s).data.toList)
            omega
          have hts : (ru.txt (ru.ap k (cut s).data.toList)).size ≤ 3200 := by
            have e : (ru.txt (ru.ap k (cut s).data.toList)).size = (ru.ap k (cut s).data.toList).length := by rw [← list_len]; rfl
            omega
          have HC1 : Hid (∀ W, Below w.heap.size w W → Calls Try.prog 21 #[vk, .string (cut s)] W fun e w' => e = .returned (.tuple #[.string (ru.txt (ru.ap k (cut s).data.toList)), .int .i64 0]) ∧ Below W.heap.size W w') := fun W hb => by
            have := ru.ap_any k (cut s) (by omega) _ _ rfl rfl vk W (HK.out W hb)
            rw [show ru.apT k (cut s) = ru.txt (ru.ap k (cut s).data.toList) by unfold ru.apT; rw [if_pos ⟨hg1, by omega⟩], show ru.apE k (cut s) = 0 by unfold ru.apE; rw [if_pos hg1, if_pos (by omega)]] at this
            exact this
          have HC2 : Hid (∀ W, Below w.heap.size w W → Calls Try.prog 21 #[v, .string (ru.txt (ru.ap k (cut s).data.toList))] W fun e w' => e = .returned (.tuple #[.string (ru.txt (ru.ap l (ru.ap k (cut s).data.toList))), .int .i64 0]) ∧ Below W.heap.size W w') := fun W hb => by
            have := ru.ap_any l (ru.txt (ru.ap k (cut s).data.toList)) (by omega) _ _ rfl rfl v W (HS.out W hb)
            rw [show ru.apT l (ru.txt (ru.ap k (cut s).data.toList)) = ru.txt (ru.ap l (ru.ap k (cut s).data.toList)) by unfold ru.apT; rw [if_pos ⟨hg2, by omega⟩]; rfl, show ru.apE l (ru.txt (ru.ap k (cut s).data.toList)) = 0 by unfold ru.apE; rw [if_pos hg2, if_pos (by omega)]] at this
            exact this
          have HRN : Hid (∀ (m : Mc) p W, Right m → (tr.total m 0 (cut s).data.toList = ru.ap l (ru.ap k (cut s).data.toList)) → MAt (In W) W m p → Calls Try.prog 11 #[.agg (mv m p), .string (cut s)] W fun e w' => e = .returned (.tuple #[.string (ru.txt (ru.ap l (ru.ap k (cut s).data.toList))), .int .i64 0]) ∧ Below W.heap.size W w') := fun m p W hR hT h => by
            refine run_any m (cut s) (by omega) _ 0 ?_ ?_ p W h
            · unfold tr.runT
              rw [if_pos ⟨right_iff.2 hR, by omega, by rw [hT]; omega⟩, hT]
              rfl
            · unfold tr.runE
              rw [if_pos (right_iff.2 hR), if_pos ⟨by omega, by rw [hT]; omega⟩]
          have HTT : Hid (∀ d : mk.Kq, mk.Pl a b d d.sts.length → (∀ t ∈ d.txs, t.size ≤ 4096) → tr.total (mk.mcOf d) 0 (cut s).data.toList = ru.ap l (ru.ap k (cut s).data.toList)) := fun d hp h3 => by
            rw [hp.total h3, HRA.out.2.2, HRB.out.2.2]
          clear hg1 hg2 l1 l2 hts
          generalize ru.txt (ru.ap l (ru.ap k (cut s).data.toList)) = t2 at *
          generalize ru.ap l (ru.ap k (cut s).data.toList) = L2 at *
          generalize ru.txt (ru.ap k (cut s).data.toList) = t1 at *
          obtain ⟨cs, HCS⟩ : ∃ cs, Hid (cs = cut s) := ⟨_, rfl⟩
          rw [← HCS.out] at c15 HC1 HRN HTT hz
          have hte : (t2.toList == t2.toList) = true := by simp
          have c18 := mk.then_good HRA.out.1 HRB.out.1 (HA5.out w5 (Below.refl _ _)).2 (HB.out w5 (Below.refl _ _)).2
          have XA := (HA5.out w5 (Below.refl _ _)).1
          have XB := (HB.out w5 (Below.refl _ _)).1
          clear HCS
          go_wp2_with (fail)
          rw [← HW5.out, ← HBB.out]
          clear HW5
          go_at_call 15
          refine (c15 _).mono ?_
          rintro e w5' ⟨rfl, h⟩
          obtain rfl := h.symm
          go_wp2_with (first | (refine wpList_load_row rfl 26 (.tmp 7) rfl ab rfl 26 (mv a pa) (0, 0) _ XA Try.underlying26 rfl info26 ?_) | (refine wpList_load_row rfl 26 (.tmp 9) rfl bb rfl 26 (mv b pb) (0, 0) _ XB Try.underlying26 rfl info26 ?_))
          go_at_call 18
          refine c18.mono ?_
          intro e w6 hM
          clear c18 XA XB a0 e0 c15
          rcases hM with ⟨d, p, rfl, hmat, hpl, h1, h2, h3, b6⟩ | ⟨d, i, rfl, hpl, hle, hfull, b6⟩
          · obtain ⟨w7, HW7⟩ : ∃ w7, Hid (w7 = w6.alloc (.cells (mv (mk.mcOf d) p) 26)) := ⟨_, rfl⟩
            have b7 : Below w6.heap.size w6 w7 := by rw [HW7.out]; exact below_alloc w6 _
            have X7 : Box w7 w6.heap.size (mk.mcOf d) p := by rw [HW7.out]; exact box_new w6 _ p
            have B7 : Below w.heap.size w w7 := B5.trans ((chain b6 b7).mono B5.size)
            have HM := (show Hid (∀ W, Below w7.heap.size w7 W → Box W w6.heap.size (mk.mcOf d) p ∧ MAt (In W) W (mk.mcOf d) p) from fun W b => ⟨X7.later b, ((hmat.carry (Q := In w6) (fun _ _ => rfl) (fun g hg => hg.2)).later b7).later b⟩)
            have HRM := (show Hid (Right (mk.mcOf d) ∧ tr.total (mk.mcOf d) 0 cs.data.toList = L2) from ⟨hpl.right h1 h2 h3, HTT.out d hpl h3⟩)
            obtain ⟨mb, HMB⟩ : ∃ mb, Hid (mb = w6.heap.size) := ⟨_, rfl⟩
            rw [← HMB.out] at HM
            clear hmat hpl h1 h2 h3 X7 HTT
            generalize mk.mcOf d = m at *
            have c21 := HC1.out w7 B7
            go_wp2_with (fail)
            rw [← HW7.out, ← HMB.out]
            clear HW7
            go_at_call 21
            refine c21.mono ?_
            rintro e w8 ⟨rfl, b8⟩
            have B8 : Below w.heap.size w w8 := B7.trans (b8.mono B7.size)
            have d21 := HC2.out w8 B8
            clear c21
            go_wp2_with (fail)
            go_at_call 21
            refine d21.mono ?_
            rintro e w9 ⟨rfl, b9⟩
            have K9 := chain b8 b9
            have X9 := (HM.out w9 K9).1
            have c11 := HRN.out m p w9 HRM.out.1 HRM.out.2 (HM.out w9 K9).2
            clear d21
            go_wp2_with (refine wpList_load_row rfl 26 (.tmp 11) rfl mb rfl 26 (mv m p) (0, 0) _ X9 Try.underlying26 rfl info26 ?_)
            go_at_call 11
            refine c11.mono ?_
            rintro e wa ⟨rfl, ba⟩
            clear c11 X9
            go_wp2_with (fail)
            go_ret
            exact ⟨rfl, B7.trans ((chain K9 ba).mono B7.size)⟩
          · clear hpl hle hfull HTT HRN HC1 HC2
            go_wp2_with (fail)
            go_ret
            exact ⟨rfl, B5.trans ((chain b6 (below_alloc w6 _)).mono B5.size)⟩
    · clear hB
      have dn : ((n : Int) != 0) = true := by rw [bne_iff_ne]; omega
      go_wp2_with (fail)
      go_ret
      exact ⟨rfl, B3.trans ((chain b4 (below_alloc w4 _)).mono B3.size)⟩
  · clear hB
    have dn : ((n : Int) != 0) = true := by rw [bne_iff_ne]; omega
    have B3 : Below w.heap.size w (w2.alloc (.cells nil4 26)) := chain (chain b1 b2) (below_alloc w2 _)
    have d13 := ms.build_any l v _ (HS.out _ B3)
    go_wp2_with (fail)
    go_at_call 13
    refine d13.mono ?_
    intro e w4 hB
    clear d13
    rcases two hB with ⟨b, pb, rfl, hgb, hMb, hRb, hTb, b4⟩ | ⟨n, rfl, hn, b4⟩
    · clear hB hgb hMb hRb hTb
      go_wp2_with (fail)
      go_ret
      exact ⟨rfl, B3.trans ((chain b4 (below_alloc w4 _)).mono B3.size)⟩
    · clear hB
      go_wp2_with (fail)
      go_ret
      exact ⟨rfl, B3.trans ((chain b4 (below_alloc w4 _)).mono B3.size)⟩

set_option maxRecDepth 100000 in
theorem lifted (os : Os) (started : os.Started) (H : Type) (enc : TypeId × Value → H) :
    ReturnsInHanded {} Try.checked os 6 .any (Rows.transJoinsSpec.pre6 enc Try.prog Try.f6 Rows.transJoinsRow.domain false) (Rows.transJoinsSpec.post enc Try.prog Try.f6 false true false false) := by
  refine returnsInHanded_of_change_sized (C := Try.checked) own started (by kernel_rfl) Try.func6
    (ChangeSpec.witness6 (enc := enc) (C := Try.checked) false ⟨#[], #[.slice none 0 0, .slice none 0 0, .string ByteArray.empty], []⟩ 8 (by kernel_rfl) (by kernel_rfl) (by kernel_rfl) (by kernel_rfl)) ?_
  intro W base args ds gs before hval0 hW hcnd hsz0 _
  have hsz : (DataW.weightsEach Try.prog (Try.f6.params.toList ++ Rows.transJoinsSpec.plain.varTypes Try.prog) (ds ++ gs)).all (· ≤ reachBytes) = true := hsz0
  have hval : ∀ (j : Nat) t v, Try.f6.params[j]? = some t → args[j]? = some v → Value.okWide Try.prog W .any base t v := hval0
  have hW' := hW
  obtain ⟨p, q, hA0, hV, rfl, hfz, hnd⟩ := hW
  have hA : DataW.TrodAll enc Try.prog W 0 (fun _ => true) true Try.f6.params.toList args.toList ds p := hA0
  rw [Try.params6] at hA hval hsz
  obtain ⟨v0, vs0, d0, ds0, p0, q0, hargs, rfl, rfl, h0, r0⟩ := trodAll_cons hA
  obtain ⟨v1, vs1, d1, ds1, p1, q1, rfl, rfl, rfl, h1, r1⟩ := trodAll_cons r0
  obtain ⟨v2, vs2, d2, ds2, p2, q2, rfl, rfl, rfl, h2, r2⟩ := trodAll_cons r1
  obtain ⟨rfl, rfl, rfl⟩ := trodAll_nil r2
  obtain rfl : args = #[v0, v1, v2] := by cases args; simp_all
  obtain ⟨rfl, rfl⟩ := trodVars_none hV
  have k0 := h0
  have lt0 : ∀ x ∈ p0, x.block < W.heap.size := by obtain ⟨m, hm⟩ := k0; exact DataW.trod_lt m _ _ _ hm
  obtain ⟨l0, F0⟩ := ru.open34 (hval 0 34 v0 rfl rfl) h0
  have k1 := h1
  have lt1 : ∀ x ∈ p1, x.block < W.heap.size := by obtain ⟨m, hm⟩ := k1; exact DataW.trod_lt m _ _ _ hm
  obtain ⟨l1, F1⟩ := ru.open34 (hval 1 34 v1 rfl rfl) h1
  obtain ⟨a2, rfl, rfl, rfl, w2⟩ := open_string Try.underlying9 (hval 2 9 v2 rfl rfl) h2
  have F2 : a2.size ≤ 140737488351232 := by
    have := sized_string hsz (j := 2) (t := 9) rfl rfl
    simpa [reachBytes] using this
  clear hA0 hval0
  refine (walk F0 F1 F2 W).mono fun e W' ⟨he, bel⟩ => ?_
  subst he
  exact ⟨_, rfl, _, _, _, [], _, [], hW', trodAll_mk1 (shut_bool Try.underlying4 _), (trodAll_cons_mk (Below.trod laidOut (by kernel_rfl) (of_decide_eq_true (by kernel_rfl)) k0 bel lt0) (trodAll_cons_mk (Below.trod laidOut (by kernel_rfl) (of_decide_eq_true (by kernel_rfl)) k1 bel lt1) (trodAll_cons_mk (shut_string Try.underlying9 w2) trodAll_mk0))), rfl, bel.frame _, fun h => by cases h⟩

theorem over : Rows.transJoinsRow.holds Try.pinned (OpenSpec.ofChange Rows.transJoinsSpec) :=
  OpenClaim.holds_of_wide 6 Try.f6 rfl rfl rfl rfl rfl rfl rfl ⟨rfl, rfl, rfl, rfl, rfl⟩ rfl rfl rfl rfl rfl (by kernel_rfl) Try.func6 (by kernel_rfl)
    (of_decide_eq_true (by kernel_rfl)) (by unfold Func.isWrapper; first | (rw [if_pos (by decide +kernel)]; kernel_rfl) | (rw [if_neg (by decide +kernel)]; exact ⟨rfl, rfl⟩))
    (fun os started H enc _ => lifted os started H enc)

theorem proved : Rows.TransJoinsSaid :=
  over
#print axioms proved
end Go.Proofs.Ytafcekognhkmgaa.transJoins
