/-
  For all rules and every text the law TransRules of package fretsawlaw12 returns true (the machine of any rules puts of any text what it is rewritten to by them; it is made, if the rules are not too many), and the arguments read as before. No condition.
-/
import Derived.Test.YtafcekognhkmgaaKSp
import Derived.Test.YtafcekognhkmgaaKUl
import Derived.Test.YtafcekognhkmgaaKUn
import Derived.Test.YtafcekognhkmgaaM02
import Derived.Test.YtafcekognhkmgaaKArg
import Derived.ProofKit
import Derived.ShutString
namespace Go.Proofs.Ytafcekognhkmgaa.transRules
open Go.ChangeShapes Go.WideShapes Go.ChangeAt Go.RowKit
open Go.ChangeMaps (open_string shut_string)
open tr
open ru (Ru Rus)
open ms (BOut nil4)
set_option linter.unusedVariables false

theorem own : ownKnob Try.prog.godebug = none := by kernel_rfl
theorem laidOut : laidOutB Try.prog = true := by kernel_rfl

def cut (s : ByteArray) : ByteArray := if s.size ≤ 300 then s else s.extract 0 300
theorem cut_size (s : ByteArray) : (cut s).size ≤ 300 := by
  unfold cut
  split
  · assumption
  · simp; omega
theorem good_of {l : List Ru} (h : ru.rightE l = 0) : ru.Good l := by
  by_cases hg : ru.Good l
  · exact hg
  · unfold ru.rightE at h
    by_cases h64 : 64 < l.length
    · rw [if_pos h64] at h; cases h
    · rw [if_neg h64, if_neg hg] at h; cases h
theorem sum_take (l : List Ru) (i : Nat) (h : i < l.length) : ru.rw.total (l.take (i + 1)) = ru.rw.total (l.take i) + (ru.nth l i).fr.size := by
  rw [ru.take_nth l i h]
  unfold ru.rw.total
  rw [List.map_append, List.sum_append]
  simp [Ru.f_len]
theorem total_le {l : List Ru} (hg : ru.Good l) (i : Nat) : ru.rw.total (l.take i) ≤ 1024 := by
  have h1 : ∀ k : List Ru, (∀ r ∈ k, r.f.length ≤ 16) → ru.rw.total k ≤ 16 * k.length := by
    intro k
    induction k with
    | nil => intro _; simp [ru.rw.total]
    | cons r k ih =>
      intro h
      have := ih (fun x hx => h x (List.mem_cons_of_mem _ hx))
      have h2 := h r List.mem_cons_self
      unfold ru.rw.total at this ⊢
      simp only [List.map_cons, List.sum_cons, List.length_cons]
      omega
  have h2 := h1 (l.take i) (fun r hr => (hg.pos (List.mem_of_mem_take hr)).2.1)
  have h3 := hg.1
  rw [List.length_take] at h2
  omega
set_option maxHeartbeats 8000000 in
set_option maxRecDepth 100000 in
theorem walk {l : List Ru} {v : Value} {w0 : World} (hS : Rus w0 v l) {s : ByteArray} (hs : s.size ≤ 140737488351232) (w : World) (hw0 : w = w0 := by rfl) :
    Calls Try.prog 4 #[v, .string s] w fun e w' => e = .returned (.bool true) ∧ Below w.heap.size w w' := by
  subst hw0
  have c13 := ms.build_any l v w hS
  have HS := (show Hid (∀ W, Below w.heap.size w W → Rus W v l) from fun W b => hS.below b)
  obtain ⟨o, cap, rfl⟩ := wr.rus_form hS
  clear hS
  go_enter Try.func4, Try.ntmps4
  go_wp2_with (fail)
  go_at_call 13
  refine c13.mono ?_
  intro e w1 hB
  clear c13
  rcases hB with ⟨m, p, rfl, h0, hM, hR, hT, b1⟩ | ⟨n, rfl, hn, b1⟩
  · have hg : ru.Good l := good_of h0
    obtain ⟨w2, HW2⟩ : ∃ w2, Hid (w2 = w1.alloc (.cells (mv m p) 26)) := ⟨_, rfl⟩
    have b2 : Below w1.heap.size w1 w2 := by rw [HW2.out]; exact below_alloc w1 _
    have X2 : Box w2 w1.heap.size m p := by rw [HW2.out]; exact box_new w1 m p
    have HX := (show Hid (∀ W, Below w2.heap.size w2 W → Box W w1.heap.size m p ∧ MAt (In W) W m p) from fun W b => ⟨X2.later b, (hM.later b2).later b⟩)
    have B2 := chain b1 b2
    have c14 : Calls Try.prog 14 #[.slice o l.length cap] w2 fun e w' => e = .returned (.int .i64 0) ∧ Below w2.heap.size w2 w' := ru.rright_any l 0 h0.symm _ w2 (HS.out w2 B2)
    have hz := cut_size s
    have c15 : ∀ w, Calls Try.prog 15 #[.string s, .int .i64 300] w fun e w' => e = .returned (.string (cut s)) ∧ w' = w := fun w => short_any s 300 (by omega) (by omega) w
    have hal : (ru.ap l (cut s).data.toList).length ≤ 9600 := by
      have := ru.rw.end_len hg (cut s).data.toList
      have h2 := list_len (cut s)
      omega
    have e1 : tr.runT m (cut s) = ru.txt (ru.ap l (cut s).data.toList) := by
      unfold tr.runT
      rw [if_pos ⟨right_iff.2 hR, by omega, by rw [hT]; omega⟩, hT]
      rfl
    have e2 : tr.runE m (cut s) = 0 := by
      unfold tr.runE
      rw [if_pos (right_iff.2 hR), if_pos ⟨by omega, by rw [hT]; omega⟩]
    have HRun : Hid (∀ W, MAt (In W) W m p → Calls Try.prog 11 #[.agg (mv m p), .string (cut s)] W fun e w' => e = .returned (.tuple #[.string (ru.txt (ru.ap l (cut s).data.toList)), .int .i64 0]) ∧ Below W.heap.size W w') := fun W h => run_any m (cut s) (by omega) _ 0 e1.symm e2.symm p W h
    have HRR : Hid (∀ W, MAt (In W) W m p → Calls Try.prog 10 #[.agg (mv m p)] W fun e w' => e = .returned (.bool true) ∧ Below W.heap.size W w') := fun W h => tr.rright_any m true (right_iff.2 hR).symm p W h
    have HAp : Hid (∀ W, Below w.heap.size w W → Calls Try.prog 16 #[.slice o l.length cap, .string (cut s)] W fun e w' => e = .returned (.string (ru.txt (ru.ap l (cut s).data.toList))) ∧ Below W.heap.size W w') := fun W b => ru.rap_any l hg (cut s) (by omega) _ W (HS.out W b)
    clear hM hR hT hg h0 e1 e2 hal HS
    generalize ru.txt (ru.ap l (cut s).data.toList) = t at *
    generalize cut s = cs at *
    have hte : (t.toList == t.toList) = true := by simp
    go_wp2_with (fail)
    rw [← HW2.out]
    clear HW2
    go_at_call 14
    refine c14.mono ?_
    rintro e w3 ⟨rfl, b3⟩
    go_wp2_with (fail)
    go_at_call 15
    refine (c15 _).mono ?_
    rintro e w3' ⟨rfl, h⟩
    obtain rfl := h.symm
    have X3 := (HX.out _ b3).1
    have c11 := HRun.out _ (HX.out _ b3).2
    clear c14 X2
    go_wp2_with (refine wpList_load_row rfl 26 (.tmp 5) rfl w1.heap.size rfl 26 (mv m p) (0, 0) _ X3 Try.underlying26 rfl info26 ?_)
    go_at_call 11
    refine c11.mono ?_
    rintro e w4 ⟨rfl, b4⟩
    have K4 := chain b3 b4
    have X4 := (HX.out w4 K4).1
    have c10 := HRR.out w4 (HX.out w4 K4).2
    clear c11 X3
    go_wp2_with (refine wpList_load_row rfl 26 (.tmp 5) rfl w1.heap.size rfl 26 (mv m p) (0, 0) _ X4 Try.underlying26 rfl info26 ?_)
    go_at_call 10
    refine c10.mono ?_
    rintro e w5 ⟨rfl, b5⟩
    have c16 := HAp.out w5 (B2.trans ((chain K4 b5).mono B2.size))
    clear c10 X4
    go_wp2_with (fail)
    go_at_call 16
    refine c16.mono ?_
    rintro e w6 ⟨rfl, b6⟩
    go_wp2_with (fail)
    go_ret
    exact ⟨rfl, B2.trans ((chain (chain K4 b5) b6).mono B2.size)⟩
  · obtain ⟨w2, HW2⟩ : ∃ w2, Hid (w2 = w1.alloc (.cells nil4 26)) := ⟨_, rfl⟩
    have b2 : Below w1.heap.size w1 w2 := by rw [HW2.out]; exact below_alloc w1 _
    have X2 : w2.heap[w1.heap.size]? = some (.cells nil4 26 (0, 0)) := by rw [HW2.out]; exact World.alloc_heap_new w1 _
    have B2 := chain b1 b2
    have HX := (show Hid (∀ W, Below w2.heap.size w2 W → W.cell? ⟨w1.heap.size, 0, none⟩ = some (.slice none 0 0)) from fun W b => by rw [Lib.cell_of_heap ((b.block _ (Array.getElem?_eq_some_iff.1 X2).1).trans X2)]; rfl)
    rcases hn with ⟨hr, hn⟩ | ⟨hr, hn, h100⟩
    · have c14 : Calls Try.prog 14 #[.slice o l.length cap] w2 fun e w' => e = .returned (.int .i64 (n : Int)) ∧ Below w2.heap.size w2 w' := ru.rright_any l n hn _ w2 (HS.out w2 B2)
      have d0 : ((n : Int) != 0) = true := by rw [bne_iff_ne]; omega
      have d1 : ((n : Int) == (n : Int)) = true := by simp
      clear hr hn X2 HS
      go_wp2_with (fail)
      rw [← HW2.out]
      clear HW2
      go_at_call 14
      refine c14.mono ?_
      rintro e w3 ⟨rfl, b3⟩
      have x3 := HX.out w3 b3
      clear c14
      go_wp2_with (fail)
      go_ret
      exact ⟨rfl, chain B2 b3⟩
    · subst hn
      have hg : ru.Good l := good_of hr
      have c14 : Calls Try.prog 14 #[.slice o l.length cap] w2 fun e w' => e = .returned (.int .i64 0) ∧ Below w2.heap.size w2 w' := ru.rright_any l 0 hr.symm _ w2 (HS.out w2 B2)
      have HG := (show Hid (ru.Good l) from hg)
      have H100 := (show Hid (100 < ru.rw.total l) from h100)
      have hl64 := hg.1
      clear hr X2 hg h100
      go_wp2_with (fail)
      rw [← HW2.out]
      clear HW2
      go_at_call 14
      refine c14.mono ?_
      rintro e w3 ⟨rfl, b3⟩
      clear c14
      go_wp2_with (fail)
      go_loopw [8, 35] (fun x y wr => ∃ i : Nat, x = .int .i64 ((ru.rw.total (l.take i) : Nat) : Int) ∧ y = .int .i64 (i : Int) ∧ i ≤ l.length ∧ Below w2.heap.size w2 wr) (fun _ y _ => l.length - (intOf y).toNat)
      case atStart => exact ⟨0, rfl, rfl, by omega, b3⟩
      case round =>
        obtain ⟨i, rfl, rfl, hil, hB⟩ := hrel
        by_cases hlt : i < l.length
        · obtain ⟨b, off, ho, hbl, q0, q1⟩ := Go.Proofs.Ytafcekognhkmgaa.wr.rus_at (HS.out wr (chain B2 hB)) hlt
          have hsum := (show Hid (ru.rw.total (l.take (i + 1)) = ru.rw.total (l.take i) + (ru.nth l i).fr.size) from sum_take l i hlt)
          have ht := total_le HG.out i
          have hf : (ru.nth l i).fr.size ≤ 16 := by rw [← Ru.f_len]; exact (HG.out.pos (ru.nth_mem l i hlt)).2.1
          generalize (ru.nth l i).fr = fr at *
          generalize (ru.nth l i).to = to at *
          generalize ru.rw.total (l.take i) = t at *
          have e1 : Hid (((ru.rw.total (l.take (i + 1)) : Nat) : Int) = (t : Int) + (fr.size : Int)) := show _ = _ from by rw [hsum.out]; omega
          have b9 : Below w2.heap.size w2 (wr.alloc (.cells #[.string fr, .string to] 39)) := chain hB (below_alloc wr _)
          clear hsum
          rw [ho]
          go_wp2_with (fail)
          go_roundw
          case rel => exact ⟨i + 1, by rw [e1.out], by go_num, by omega, b9⟩
          case measure => simp [intOf]; omega
        · have ei : i = l.length := by omega
          have h5 : 100 < ru.rw.total (l.take i) := by rw [ei, List.take_length]; exact H100.out
          have ht := total_le HG.out i
          have x3 := HX.out wr hB
          generalize ru.rw.total (l.take i) = t at *
          have d5 : decide ((100 : Int) < (t : Int)) = true := by rw [decide_eq_true_iff]; omega
          clear ei
          go_wp2_with (fail)
          go_ret
          exact ⟨rfl, chain B2 hB⟩

set_option maxRecDepth 100000 in
theorem lifted (os : Os) (started : os.Started) (H : Type) (enc : TypeId × Value → H) :
    ReturnsInHanded {} Try.checked os 4 .any (Rows.transRulesSpec.pre6 enc Try.prog Try.f4 Rows.transRulesRow.domain false) (Rows.transRulesSpec.post enc Try.prog Try.f4 false true false false) := by
  refine returnsInHanded_of_change_sized (C := Try.checked) own started (by kernel_rfl) Try.func4
    (ChangeSpec.witness6 (enc := enc) (C := Try.checked) false ⟨#[], #[.slice none 0 0, .string ByteArray.empty], []⟩ 8 (by kernel_rfl) (by kernel_rfl) (by kernel_rfl) (by kernel_rfl)) ?_
  intro W base args ds gs before hval0 hW hcnd hsz0 _
  have hsz : (DataW.weightsEach Try.prog (Try.f4.params.toList ++ Rows.transRulesSpec.plain.varTypes Try.prog) (ds ++ gs)).all (· ≤ reachBytes) = true := hsz0
  have hval : ∀ (j : Nat) t v, Try.f4.params[j]? = some t → args[j]? = some v → Value.okWide Try.prog W .any base t v := hval0
  have hW' := hW
  obtain ⟨p, q, hA0, hV, rfl, hfz, hnd⟩ := hW
  have hA : DataW.TrodAll enc Try.prog W 0 (fun _ => true) true Try.f4.params.toList args.toList ds p := hA0
  rw [Try.params4] at hA hval hsz
  obtain ⟨v0, vs0, d0, ds0, p0, q0, hargs, rfl, rfl, h0, r0⟩ := trodAll_cons hA
  obtain ⟨v1, vs1, d1, ds1, p1, q1, rfl, rfl, rfl, h1, r1⟩ := trodAll_cons r0
  obtain ⟨rfl, rfl, rfl⟩ := trodAll_nil r1
  obtain rfl : args = #[v0, v1] := by cases args; simp_all
  obtain ⟨rfl, rfl⟩ := trodVars_none hV
  have k0 := h0
  have lt0 : ∀ x ∈ p0, x.block < W.heap.size := by obtain ⟨m, hm⟩ := k0; exact DataW.trod_lt m _ _ _ hm
  obtain ⟨l0, F0⟩ := ru.open34 (hval 0 34 v0 rfl rfl) h0
  obtain ⟨a1, rfl, rfl, rfl, w1⟩ := open_string Try.underlying9 (hval 1 9 v1 rfl rfl) h1
  have F1 : a1.size ≤ 140737488351232 := by
    have := sized_string hsz (j := 1) (t := 9) rfl rfl
    simpa [reachBytes] using this
  clear hA0 hval0
  refine (walk F0 F1 W).mono fun e W' ⟨he, bel⟩ => ?_
  subst he
  exact ⟨_, rfl, _, _, _, [], _, [], hW', trodAll_mk1 (shut_bool Try.underlying4 _), (trodAll_cons_mk (Below.trod laidOut (by kernel_rfl) (of_decide_eq_true (by kernel_rfl)) k0 bel lt0) (trodAll_cons_mk (shut_string Try.underlying9 w1) trodAll_mk0)), rfl, bel.frame _, fun h => by cases h⟩

theorem over : Rows.transRulesRow.holds Try.pinned (OpenSpec.ofChange Rows.transRulesSpec) :=
  OpenClaim.holds_of_wide 4 Try.f4 rfl rfl rfl rfl rfl rfl rfl ⟨rfl, rfl, rfl, rfl, rfl⟩ rfl rfl rfl rfl rfl (by kernel_rfl) Try.func4 (by kernel_rfl)
    (of_decide_eq_true (by kernel_rfl)) (by unfold Func.isWrapper; first | (rw [if_pos (by decide +kernel)]; kernel_rfl) | (rw [if_neg (by decide +kernel)]; exact ⟨rfl, rfl⟩))
    (fun os started H enc _ => lifted os started H enc)

theorem proved : Rows.TransRulesSaid :=
  over
#print axioms proved
end Go.Proofs.Ytafcekognhkmgaa.transRules
