/-
  For every list of numbers the law HeapSorts of package fretsawlaw14 returns true (numbers are sorted: rising, and each as often as it stood there), and the argument reads as before
-/
import Derived.Test.YthcekfmodmnekaaHf
import Derived.Test.YthcekfmodmnekaaMg
import Derived.ProofKit
import Derived.ShutString
namespace Go.Proofs.Ythcekfmodmnekaa.heapSorts
open Go.ChangeShapes Go.WideShapes Go.ChangeAt Go.RowKit
open Go.ChangeMaps (open_string shut_string)
open mg (IntsV RowV Row In iv below_alloc chain)
open hp
set_option linter.unusedVariables false

theorem own : ownKnob Try.prog.godebug = none := by kernel_rfl
theorem laidOut : laidOutB Try.prog = true := by kernel_rfl

theorem count_eq {o l : List Int} (h : o.Perm l) (x : Int) : o.count x = l.count x := h.count_eq x

set_option maxHeartbeats 2000000 in
set_option maxRecDepth 100000 in
theorem walk_small {q : List Int} {o : Option Addr} {n n0 cap : Nat} {w : World} (hn : n ≤ 300) (hI : IntsV w (.slice o n cap) q) (hc0 : n0 ≤ cap) :
    Calls Try.prog 7 #[.slice o n cap] w fun e w' => e = .returned (.bool true) ∧ Below w.heap.size w w' := by
  obtain ⟨o', cap', e, hr⟩ := id hI
  simp only [Value.slice.injEq] at e
  obtain ⟨e1, e2, e3⟩ := e
  subst e1 e3
  have hql : q.length = n := e2.symm
  have f1 := hr.fit
  have f2 := hr.top
  clear e2 hr
  rw [hql] at f1
  have hq3 : q.length ≤ 300 := by rw [hql]; omega
  have HQL := (show Hid (q.length = n) from hql)
  clear hql
  have c18 := sorted_any q (by omega) _ w hI
  have HI : Hid (∀ W, Below w.heap.size w W → IntsV W (.slice o n cap) q) := fun W b => hI.later b
  clear hI
  go_enter Try.func7, Try.ntmps7
  go_wp2_with (go_at_call 18; refine c18.mono ?_; rintro e w1 ⟨v1, g, rfl, s1, s2, s3, b1⟩; have c19 := rising_yes g v1 w1 s1 s2; have HS1 : Hid (∀ W, Below w1.heap.size w1 W → IntsV W v1 g) := (fun W b => s1.later b); obtain ⟨o1, cap1, e1, hr1⟩ := id s1; have hg1 : g.length = n := s3.length_eq.trans HQL.out; have hf1 := hr1.fit; have hf2 := hr1.top; rw [hg1] at e1 hf1; subst e1; have HG1 := (show Hid (g.length = n) from hg1); have HS3 := (show Hid (g.Perm q) from s3); clear hr1 hg1 s1 s2 s3 c18)
  go_at_call 19
  refine c19.mono ?_
  rintro e w2 ⟨rfl, b2⟩
  clear c19
  have B2 := (show Hid (Below w1.heap.size w1 w2) from b2)
  have B02 := (show Hid (Below w.heap.size w w2) from chain b1 b2)
  clear b1 b2
  go_wp2_with (fail)
  go_loopw [25] (fun y wr => ∃ (i : Nat), y = .int .i64 i ∧ i ≤ n ∧ Hid (Below w2.heap.size w2 wr)) (fun y _ => n - (intOf y).toNat)
  case atStart => exact ⟨0, rfl, by omega, Below.refl _ _⟩
  case round =>
    obtain ⟨i, rfl, hil, HB⟩ := hrel
    have HX : Hid (IntsV wr (.slice o1 n cap1) g) := HS1.out wr (chain B2.out HB.out)
    have HY : Hid (IntsV wr (.slice o n cap) q) := HI.out wr (chain B02.out HB.out)
    by_cases hend : i < n
    · obtain ⟨o', cap', e, hr⟩ := HY.out
      obtain ⟨b, off, eo, hb, hc⟩ := hr.lie i (by rw [HQL.out]; exact hend)
      simp only [Value.slice.injEq] at e
      obtain ⟨e1, e2, e3⟩ := e
      subst e1 e3
      subst eo
      clear e2
      generalize q[i]'(by rw [HQL.out]; exact hend) = x at *
      have c1 : ∀ W, Below wr.heap.size wr W → Calls Try.prog 20 #[.slice o1 n cap1, iv x] W fun e w' => e = .returned (iv (q.count x : Nat)) ∧ Below W.heap.size W w' := fun W bb => by
        rw [← count_eq HS3.out x]
        exact often_any g x _ W (HX.out.later bb) (by rw [HG1.out]; omega)
      have c2 : ∀ W, Below wr.heap.size wr W → Calls Try.prog 20 #[.slice (some ⟨b, off, none⟩) n cap, iv x] W fun e w' => e = .returned (iv (q.count x : Nat)) ∧ Below W.heap.size W w' := fun W bb => often_any q x _ W (HY.out.later bb) (by omega)
      have C1 := (show Hid _ from c1)
      have C2 := (show Hid _ from c2)
      generalize q.count x = cn at *
      clear hr c1 c2
      have he : ((cn : Int) == (cn : Int)) = true := beq_self_eq_true _
      go_wp2_with (fail)
      go_at_call 20
      refine (C1.out _ (Below.refl _ _)).mono ?_
      rintro e w3 ⟨rfl, b3⟩
      go_wp2_with (fail)
      go_at_call 20
      refine (C2.out _ b3).mono ?_
      rintro e w4 ⟨rfl, b4⟩
      go_wp2_with (fail)
      go_roundw
      case rel => exact ⟨i + 1, by go_num, by omega, chain HB.out (chain b3 b4)⟩
      case measure => simp [intOf]; omega
    · go_wp2_with (fail)
      go_ret
      exact ⟨rfl, chain B02.out HB.out⟩

set_option maxHeartbeats 2000000 in
set_option maxRecDepth 100000 in
theorem walk_great {q : List Int} {o : Option Addr} {n n0 cap : Nat} {w : World} (hn : 300 < n0) (hI : IntsV w (.slice o 300 cap) q) (hc0 : n0 ≤ cap) :
    Calls Try.prog 7 #[.slice o n0 cap] w fun e w' => e = .returned (.bool true) ∧ Below w.heap.size w w' := by
  obtain ⟨o', cap', e, hr⟩ := id hI
  simp only [Value.slice.injEq] at e
  obtain ⟨e1, e2, e3⟩ := e
  subst e1 e3
  have hql : q.length = 300 := e2.symm
  have f1 := hr.fit
  have f2 := hr.top
  clear e2 hr
  rw [hql] at f1
  have hq3 : q.length ≤ 300 := by rw [hql]; omega
  have HQL := (show Hid (q.length = 300) from hql)
  clear hql
  have c18 := sorted_any q (by omega) _ w hI
  have HI : Hid (∀ W, Below w.heap.size w W → IntsV W (.slice o 300 cap) q) := fun W b => hI.later b
  clear hI
  go_enter Try.func7, Try.ntmps7
  go_wp2_with (go_at_call 18; refine c18.mono ?_; rintro e w1 ⟨v1, g, rfl, s1, s2, s3, b1⟩; have c19 := rising_yes g v1 w1 s1 s2; have HS1 : Hid (∀ W, Below w1.heap.size w1 W → IntsV W v1 g) := (fun W b => s1.later b); obtain ⟨o1, cap1, e1, hr1⟩ := id s1; have hg1 : g.length = 300 := s3.length_eq.trans HQL.out; have hf1 := hr1.fit; have hf2 := hr1.top; rw [hg1] at e1 hf1; subst e1; have HG1 := (show Hid (g.length = 300) from hg1); have HS3 := (show Hid (g.Perm q) from s3); clear hr1 hg1 s1 s2 s3 c18)
  go_at_call 19
  refine c19.mono ?_
  rintro e w2 ⟨rfl, b2⟩
  clear c19
  have B2 := (show Hid (Below w1.heap.size w1 w2) from b2)
  have B02 := (show Hid (Below w.heap.size w w2) from chain b1 b2)
  clear b1 b2
  go_wp2_with (fail)
  go_loopw [25] (fun y wr => ∃ (i : Nat), y = .int .i64 i ∧ i ≤ 300 ∧ Hid (Below w2.heap.size w2 wr)) (fun y _ => 300 - (intOf y).toNat)
  case atStart => exact ⟨0, rfl, by omega, Below.refl _ _⟩
  case round =>
    obtain ⟨i, rfl, hil, HB⟩ := hrel
    have HX : Hid (IntsV wr (.slice o1 300 cap1) g) := HS1.out wr (chain B2.out HB.out)
    have HY : Hid (IntsV wr (.slice o 300 cap) q) := HI.out wr (chain B02.out HB.out)
    by_cases hend : i < 300
    · obtain ⟨o', cap', e, hr⟩ := HY.out
      obtain ⟨b, off, eo, hb, hc⟩ := hr.lie i (by rw [HQL.out]; exact hend)
      simp only [Value.slice.injEq] at e
      obtain ⟨e1, e2, e3⟩ := e
      subst e1 e3
      subst eo
      clear e2
      generalize q[i]'(by rw [HQL.out]; exact hend) = x at *
      have c1 : ∀ W, Below wr.heap.size wr W → Calls Try.prog 20 #[.slice o1 300 cap1, iv x] W fun e w' => e = .returned (iv (q.count x : Nat)) ∧ Below W.heap.size W w' := fun W bb => by
        rw [← count_eq HS3.out x]
        exact often_any g x _ W (HX.out.later bb) (by rw [HG1.out]; omega)
      have c2 : ∀ W, Below wr.heap.size wr W → Calls Try.prog 20 #[.slice (some ⟨b, off, none⟩) 300 cap, iv x] W fun e w' => e = .returned (iv (q.count x : Nat)) ∧ Below W.heap.size W w' := fun W bb => often_any q x _ W (HY.out.later bb) (by omega)
      have C1 := (show Hid _ from c1)
      have C2 := (show Hid _ from c2)
      generalize q.count x = cn at *
      clear hr c1 c2
      have he : ((cn : Int) == (cn : Int)) = true := beq_self_eq_true _
      go_wp2_with (fail)
      go_at_call 20
      refine (C1.out _ (Below.refl _ _)).mono ?_
      rintro e w3 ⟨rfl, b3⟩
      go_wp2_with (fail)
      go_at_call 20
      refine (C2.out _ b3).mono ?_
      rintro e w4 ⟨rfl, b4⟩
      go_wp2_with (fail)
      go_roundw
      case rel => exact ⟨i + 1, by go_num, by omega, chain HB.out (chain b3 b4)⟩
      case measure => simp [intOf]; omega
    · go_wp2_with (fail)
      go_ret
      exact ⟨rfl, chain B02.out HB.out⟩

theorem walk {l : List Int} {v : Value} {w : World} (hI : IntsV w v l) (w0 : World) (hw0 : w0 = w := by rfl) :
    Calls Try.prog 7 #[v] w0 fun e w' => e = .returned (.bool true) ∧ Below w0.heap.size w0 w' := by
  subst hw0
  obtain ⟨o, cap, rfl, hr⟩ := id hI
  by_cases hl : 300 < l.length
  · exact walk_great (n := 0) hl (hI.take 300 (by omega)).2 hr.fit
  · exact walk_small (n0 := 0) (by omega) hI (by omega)

set_option maxRecDepth 100000 in
theorem lifted (os : Os) (started : os.Started) (H : Type) (enc : TypeId × Value → H) :
    ReturnsInHanded {} Try.checked os 7 .any (Rows.heapSortsSpec.pre6 enc Try.prog Try.f7 Rows.heapSortsRow.domain false) (Rows.heapSortsSpec.post enc Try.prog Try.f7 false true false false) := by
  refine returnsInHanded_of_change_sized (C := Try.checked) own started (by kernel_rfl) Try.func7
    (ChangeSpec.witness6 (enc := enc) (C := Try.checked) false ⟨#[], #[.slice none 0 0], []⟩ 8 (by kernel_rfl) (by kernel_rfl) (by kernel_rfl) (by kernel_rfl)) ?_
  intro W base args ds gs before hval0 hW hcnd hsz0 _
  have hsz : (DataW.weightsEach Try.prog (Try.f7.params.toList ++ Rows.heapSortsSpec.plain.varTypes Try.prog) (ds ++ gs)).all (· ≤ reachBytes) = true := hsz0
  have hval : ∀ (j : Nat) t v, Try.f7.params[j]? = some t → args[j]? = some v → Value.okWide Try.prog W .any base t v := hval0
  have hW' := hW
  obtain ⟨p, q, hA0, hV, rfl, hfz, hnd⟩ := hW
  have hA : DataW.TrodAll enc Try.prog W 0 (fun _ => true) true Try.f7.params.toList args.toList ds p := hA0
  rw [Try.params7] at hA hval hsz
  obtain ⟨v0, vs0, d0, ds0, p0, q0, hargs, rfl, rfl, h0, r0⟩ := trodAll_cons hA
  obtain ⟨rfl, rfl, rfl⟩ := trodAll_nil r0
  obtain rfl : args = #[v0] := by cases args; simp_all
  obtain ⟨rfl, rfl⟩ := trodVars_none hV
  have k0 := h0
  have lt0 : ∀ x ∈ p0, x.block < W.heap.size := by obtain ⟨m, hm⟩ := k0; exact DataW.trod_lt m _ _ _ hm
  obtain ⟨l0, F0⟩ := mg.open23 (hval 0 23 v0 rfl rfl) h0
  clear hA0 hval0
  refine (walk F0 W).mono fun e W' ⟨he, bel⟩ => ?_
  subst he
  exact ⟨_, rfl, _, _, _, [], _, [], hW', trodAll_mk1 (shut_bool Try.underlying4 _), (trodAll_cons_mk (Below.trod laidOut (by kernel_rfl) (of_decide_eq_true (by kernel_rfl)) k0 bel lt0) trodAll_mk0), rfl, bel.frame _, fun h => by cases h⟩

theorem over : Rows.heapSortsRow.holds Try.pinned (OpenSpec.ofChange Rows.heapSortsSpec) :=
  OpenClaim.holds_of_wide 7 Try.f7 rfl rfl rfl rfl rfl rfl rfl ⟨rfl, rfl, rfl, rfl, rfl⟩ rfl rfl rfl rfl rfl (by kernel_rfl) Try.func7 (by kernel_rfl)
    (of_decide_eq_true (by kernel_rfl)) (by unfold Func.isWrapper; first | (rw [if_pos (by decide +kernel)]; kernel_rfl) | (rw [if_neg (by decide +kernel)]; exact ⟨rfl, rfl⟩))
    (fun os started H enc _ => lifted os started H enc)

theorem proved : Rows.HeapSortsSaid :=
  over
#print axioms proved
end Go.Proofs.Ythcekfmodmnekaa.heapSorts
