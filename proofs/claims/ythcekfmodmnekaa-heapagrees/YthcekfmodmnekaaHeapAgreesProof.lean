/-
  For every list of merges and text the law HeapAgrees of package fretsawlaw14 returns true (with no merge left out an engine tells what merging by definition tells), and the arguments read as before
-/
import Derived.Test.YthcekfmodmnekaaEl
import Derived.Test.YthcekfmodmnekaaMg
import Derived.ProofKit
import Derived.ShutString
namespace Go.Proofs.Ythcekfmodmnekaa.heapAgrees
open Go.ChangeShapes Go.WideShapes Go.ChangeAt Go.RowKit
open Go.ChangeMaps (open_string shut_string)
open mg (IntsV RowV Row In iv below_alloc chain Mgs Mg app idsOf idsOf_len)
open hp (new_any newE NewOut keptL kept_nil)
open en
set_option linter.unusedVariables false

theorem own : ownKnob Try.prog.godebug = none := by kernel_rfl
theorem laidOut : laidOutB Try.prog = true := by kernel_rfl

theorem apply_bad {l : List Mg} {t : ByteArray} (h : mg.errOf l ≠ 0) : mg.applyE l (idsOf t) = mg.errOf l := mg.applyE_err rfl h
theorem apply_ok {l : List Mg} {t : ByteArray} (h : mg.errOf l = 0) (ht : t.size ≤ 4096) : mg.applyE l (idsOf t) = 0 := mg.applyE_ok h (by rw [idsOf_len]; omega) (mg.idsOf_in t _ (by omega))
set_option maxHeartbeats 2000000 in
set_option maxRecDepth 100000 in
theorem walk {l : List Mg} {v : Value} {w : World} (hM : Mgs w v l) {s : ByteArray} (hs : s.size ≤ 140737488351232) (w0 : World) (hw0 : w0 = w := by rfl) :
    Calls Try.prog 4 #[v, .string s] w0 fun e w' => e = .returned (.bool true) ∧ Below w0.heap.size w0 w' := by
  subst hw0
  have HM : Hid (∀ W, Below w0.heap.size w0 W → Mgs W v l) := fun W b => hM.later b
  obtain ⟨o, cap, rfl, -⟩ := hM.form
  have hcut := cutN_size s 400
  have c11 := fun W => short_any s 400 (by omega) (by omega) W
  generalize cutN s 400 = t at *
  have C16 := (show Hid (∀ W, Below w0.heap.size w0 W → Calls Try.prog 16 #[.slice o l.length cap, .string t] W (mg.ApplyOut l (idsOf t) W)) from fun W b => by
    have := mg.tokens_any l t (by omega) _ W (HM.out W b)
    unfold mg.TokOut at this
    rw [mg.cutS_id t (by omega)] at this
    exact this)
  have C8 := (show Hid (∀ W, Below w0.heap.size w0 W → Calls Try.prog 8 #[.slice o l.length cap, .slice none 0 0] W (NewOut l [] W)) from fun W b => new_any l [] _ _ W (HM.out W b) (RowV.nil W))
  have c15 := alive_any w0
  clear hM hs
  by_cases hE : mg.errOf l = 0
  · have hA := apply_ok (l := l) (t := t) hE (by omega)
    have hNE : newE l [] = 0 := by rw [newE_nil]; exact hE
    have hl4 : l.length ≤ 1024 := (mg.ok_run hE).1
    have HAE := (show Hid (mg.applyE l (idsOf t) = 0) from hA)
    have HNE := (show Hid (newE l [] = 0) from hNE)
    clear hE hA hNE
    go_enter Try.func4, Try.ntmps4
    go_wp2_with (fail)
    go_at_call 15
    refine c15.mono ?_
    rintro e w1 ⟨rfl, b1⟩
    have c8 := C8.out w1 b1
    clear c15
    go_wp2_with (fail)
    go_at_call 8
    refine c8.mono ?_
    rintro e w2 ⟨v2, rfl, b2, hh⟩
    obtain ⟨-, eb, mb, rfl, he2, hm2, le2, lm2⟩ := hh.resolve_left (fun q => q.1 HNE.out)
    rw [HNE.out]
    have b12 := chain b1 b2
    have c16 := C16.out w2 b12
    rw [kept_nil] at hm2
    have HE2 := (show Hid _ from he2)
    have HM2 := (show Hid (hp.RMap w2 mb l) from hm2)
    have HL2 := (show Hid (w0.heap.size ≤ eb) from Nat.le_trans b1.size le2)
    clear c8 hh he2 hm2 le2 lm2 b1 b2
    go_wp2_with (first | (go_at_call 11; refine (c11 _).mono ?_; rintro e w' ⟨rfl, h⟩; obtain rfl := h.symm))
    go_at_call 16
    refine c16.mono ?_
    rintro e w3 ⟨v3, rfl, i3, b3⟩
    rw [HAE.out]
    have i3 : IntsV w3 v3 (app l (idsOf t)) := by
      unfold mg.applyL at i3
      rw [if_pos HAE.out] at i3
      exact i3
    have heb2 := (Array.getElem?_eq_some_iff.1 HE2.out).1
    have e3 := (b3.block eb heb2).trans HE2.out
    have E3 : Eng w3 w3.heap.size eb mb l := ⟨_, e3, hp.RMap.keep HM2.out (b3.block mb (hp.RMap.lt HM2.out)), .inl rfl⟩
    have c12 := tokens_any E3 (Nat.le_refl _) hl4 t (by omega)
    have HI3 := (show Hid (IntsV w3 v3 (app l (idsOf t))) from i3)
    have HE3 := (show Hid _ from e3)
    have B3 := (show Hid (Below w0.heap.size w0 w3) from chain b12 b3)
    clear c16 i3 e3 E3 b3 b12
    go_wp2_with (fail)
    go_at_call 12
    refine c12.mono ?_
    rintro e w4 ⟨v4, rfl, o4, -, eb4, -⟩
    have i4 : IntsV w4 v3 (app l (idsOf t)) := ints_keep HI3.out HE3.out (fun x e => by cases e) eb4.size (fun k hk hne => eb4.oth k hk hne)
    have c13 := mg.ints_same (app l (idsOf t)) v4 v3 w4 (RowV.own (g := iv) o4) i4
    have B4 := (show Hid (Below w0.heap.size w0 w4) from B3.out.trans (eb4.below B3.out.size HL2.out))
    clear c12 o4 eb4 i4
    go_wp2_with (fail)
    go_at_call 13
    refine c13.mono ?_
    rintro e w5 ⟨rfl, b5⟩
    go_wp2_with (fail)
    go_ret
    exact ⟨rfl, chain B4.out b5⟩
  · have hA := apply_bad (l := l) (t := t) hE
    have hNE : newE l [] = mg.errOf l := newE_nil l
    have HAE := (show Hid (mg.applyE l (idsOf t) = mg.errOf l) from hA)
    have HNE := (show Hid (newE l [] = mg.errOf l) from hNE)
    have HEE := (show Hid (mg.errOf l ≠ 0) from hE)
    clear hE hA hNE
    go_enter Try.func4, Try.ntmps4
    go_wp2_with (fail)
    go_at_call 15
    refine c15.mono ?_
    rintro e w1 ⟨rfl, b1⟩
    have c8 := C8.out w1 b1
    clear c15
    go_wp2_with (fail)
    go_at_call 8
    refine c8.mono ?_
    rintro e w2 ⟨v2, rfl, b2, hh⟩
    obtain ⟨-, rfl⟩ := hh.resolve_right (fun q => HEE.out (by rw [← HNE.out]; exact q.1))
    rw [HNE.out]
    have b12 := chain b1 b2
    have c16 := C16.out w2 b12
    have hne : ((mg.errOf l : Int) != 0) = true := bne_iff_ne.2 (by have := HEE.out; omega)
    have heq : ((mg.errOf l : Int) == (mg.errOf l : Int)) = true := beq_self_eq_true _
    clear c8 hh b1 b2
    go_wp2_with (first | (go_at_call 11; refine (c11 _).mono ?_; rintro e w' ⟨rfl, h⟩; obtain rfl := h.symm))
    go_at_call 16
    refine c16.mono ?_
    rintro e w3 ⟨v3, rfl, i3, b3⟩
    rw [HAE.out]
    clear c16 i3
    go_wp2_with (fail)
    go_ret
    exact ⟨rfl, chain b12 b3⟩

set_option maxRecDepth 100000 in
theorem lifted (os : Os) (started : os.Started) (H : Type) (enc : TypeId × Value → H) :
    ReturnsInHanded {} Try.checked os 4 .any (Rows.heapAgreesSpec.pre6 enc Try.prog Try.f4 Rows.heapAgreesRow.domain false) (Rows.heapAgreesSpec.post enc Try.prog Try.f4 false true false false) := by
  refine returnsInHanded_of_change_sized (C := Try.checked) own started (by kernel_rfl) Try.func4
    (ChangeSpec.witness6 (enc := enc) (C := Try.checked) false ⟨#[], #[.slice none 0 0, .string ByteArray.empty], []⟩ 8 (by kernel_rfl) (by kernel_rfl) (by kernel_rfl) (by kernel_rfl)) ?_
  intro W base args ds gs before hval0 hW hcnd hsz0 _
  have hsz : (DataW.weightsEach Try.prog (Try.f4.params.toList ++ Rows.heapAgreesSpec.plain.varTypes Try.prog) (ds ++ gs)).all (· ≤ reachBytes) = true := hsz0
  have hval : ∀ (j : Nat) t v, Try.f4.params[j]? = some t → args[j]? = some v → Value.okWide Try.prog W .any base t v := hval0
  have hW' := hW
  obtain ⟨p, q, hA0, hV, rfl, hfz, hnd⟩ := hW
  have hA : DataW.TrodAll enc Try.prog W 0 (fun _ => true) true Try.f4.params.toList args.toList ds p := hA0
  rw [Try.params4] at hA hval hsz
  obtain ⟨v0, vs0, d0, ds0, p0, q0, hargs, rfl, rfl, h0, r0⟩ := trodAll_cons hA
  obtain ⟨v1, vs1, d1, ds1, p1, q1, rfl, rfl, rfl, h1, r1⟩ := trodAll_cons r0
  obtain ⟨rfl, rfl, rfl⟩ := trodAll_nil r1
  obtain rfl : args = #[v0, v1] := by cases args; simp_all
  obtain ⟨rfl, rfl⟩ := trodVars_none hV
  have k0 := h0
  have lt0 : ∀ x ∈ p0, x.block < W.heap.size := by obtain ⟨m, hm⟩ := k0; exact DataW.trod_lt m _ _ _ hm
  obtain ⟨l0, F0⟩ := mg.open22 (hval 0 22 v0 rfl rfl) h0
  obtain ⟨a1, rfl, rfl, rfl, w1⟩ := open_string Try.underlying9 (hval 1 9 v1 rfl rfl) h1
  have F1 : a1.size ≤ 140737488351232 := by
    have := sized_string hsz (j := 1) (t := 9) rfl rfl
    simpa [reachBytes] using this
  clear hA0 hval0
  refine (walk F0 F1 W).mono fun e W' ⟨he, bel⟩ => ?_
  subst he
  exact ⟨_, rfl, _, _, _, [], _, [], hW', trodAll_mk1 (shut_bool Try.underlying4 _), (trodAll_cons_mk (Below.trod laidOut (by kernel_rfl) (of_decide_eq_true (by kernel_rfl)) k0 bel lt0) (trodAll_cons_mk (shut_string Try.underlying9 w1) trodAll_mk0)), rfl, bel.frame _, fun h => by cases h⟩

theorem over : Rows.heapAgreesRow.holds Try.pinned (OpenSpec.ofChange Rows.heapAgreesSpec) :=
  OpenClaim.holds_of_wide 4 Try.f4 rfl rfl rfl rfl rfl rfl rfl ⟨rfl, rfl, rfl, rfl, rfl⟩ rfl rfl rfl rfl rfl (by kernel_rfl) Try.func4 (by kernel_rfl)
    (of_decide_eq_true (by kernel_rfl)) (by unfold Func.isWrapper; first | (rw [if_pos (by decide +kernel)]; kernel_rfl) | (rw [if_neg (by decide +kernel)]; exact ⟨rfl, rfl⟩))
    (fun os started H enc _ => lifted os started H enc)

theorem proved : Rows.HeapAgreesSaid :=
  over
#print axioms proved
end Go.Proofs.Ythcekfmodmnekaa.heapAgrees
