/-
  For every list of merges, list of numbers and text the law HeapTokens of package fretsawlaw14 returns true (an engine of any merges, any of them left out, tells of any text just the tokens that the document says, or is refused), and the arguments read as before
-/
import Derived.Test.YthcekfmodmnekaaEn
import Derived.Test.YthcekfmodmnekaaMg
import Derived.ProofKit
import Derived.ShutString
namespace Go.Proofs.Ythcekfmodmnekaa.heapTokens
open Go.ChangeShapes Go.WideShapes Go.ChangeAt Go.RowKit
open Go.ChangeMaps (open_string shut_string)
open mg (IntsV RowV Row In iv below_alloc chain Mgs Mg app idsOf idsOf_len)
open hp (new_any newE NewOut keptL kept_nil kept_len numB drop_any rtokens_any)
open en
set_option linter.unusedVariables false

theorem own : ownKnob Try.prog.godebug = none := by kernel_rfl
theorem laidOut : laidOutB Try.prog = true := by kernel_rfl

set_option maxHeartbeats 4000000 in
set_option maxRecDepth 100000 in
theorem walk {l : List Mg} {v : Value} {w : World} (hM : Mgs w v l) {d : List Int} {vd : Value} (hD : IntsV w vd d) {s : ByteArray} (hs : s.size ≤ 140737488351232) (w0 : World) (hw0 : w0 = w := by rfl) :
    Calls Try.prog 3 #[v, vd, .string s] w0 fun e w' => e = .returned (.bool true) ∧ Below w0.heap.size w0 w' := by
  subst hw0
  have HM : Hid (∀ W, Below w0.heap.size w0 W → Mgs W v l) := fun W b => hM.later b
  have HD : Hid (∀ W, Below w0.heap.size w0 W → IntsV W vd d) := fun W b => hD.later b
  have c8 := new_any l d v vd w0 hM hD
  obtain ⟨o, cap, rfl, -⟩ := hM.form
  obtain ⟨od, capd, rfl, -⟩ := id hD
  have hcut := cutN_size s 60
  have c11 := fun W => short_any s 60 (by omega) (by omega) W
  generalize cutN s 60 = t at *
  have C9 := (show Hid (∀ W, Below w0.heap.size w0 W → Calls Try.prog 9 #[.slice o l.length cap] W (mg.TextsOut l W)) from fun W b => mg.rtexts_any l _ W (HM.out W b))
  clear hM hD hs
  by_cases hE : mg.errOf l = 0
  · have hl4 : l.length ≤ 1024 := (mg.ok_run hE).1
    have HE0 := (show Hid (mg.errOf l = 0) from hE)
    have C10 := (show Hid (∀ W, Below w0.heap.size w0 W → Calls Try.prog 10 #[.slice od d.length capd, iv l.length] W fun e w' => e = .returned (.bool (numB 0 l.length d)) ∧ Below W.heap.size W w') from fun W b => drop_any d l.length hl4 _ W (HD.out W b))
    cases hN : numB 0 l.length d with
    | true =>
      have HNE := (show Hid (newE l d = 0) from by show _ = _; unfold newE; rw [if_neg (by rw [hE]; simp), if_pos hN])
      have HNN := (show Hid (numB 0 l.length d = true) from hN)
      clear hN hE
      go_enter Try.func3, Try.ntmps3
      go_wp2_with (fail)
      go_at_call 8
      refine c8.mono ?_
      rintro e w1 ⟨v1, rfl, b1, hh⟩
      obtain ⟨-, eb, mb, rfl, he1, hm1, le1, lm1⟩ := hh.resolve_left (fun q => q.1 HNE.out)
      rw [HNE.out]
      have c9 := C9.out w1 b1
      have HE1 := (show Hid _ from he1)
      have HM1 := (show Hid (hp.RMap w1 mb (keptL l d)) from hm1)
      clear c8 hh he1 hm1 lm1
      go_wp2_with (fail)
      go_at_call 9
      refine c9.mono ?_
      rintro e w2 ⟨v2, rfl, -, b2⟩
      rw [HE0.out]
      have b12 := chain b1 b2
      have c10 := C10.out w2 b12
      rw [HNN.out] at c10
      have BB1 := (show Hid (Below w1.heap.size w1 w2) from b2)
      clear c9 b1 b2
      go_wp2_with (fail)
      go_at_call 10
      refine c10.mono ?_
      rintro e w3 ⟨rfl, b3⟩
      have b13 := (show Hid (Below w1.heap.size w1 w3) from chain BB1.out b3)
      have B3 := (show Hid (Below w0.heap.size w0 w3) from chain b12 b3)
      have heb1 := (Array.getElem?_eq_some_iff.1 HE1.out).1
      have E3 : Eng w3 w3.heap.size eb mb (keptL l d) := ⟨_, (b13.out.block eb heb1).trans HE1.out, hp.RMap.keep HM1.out (b13.out.block mb (hp.RMap.lt HM1.out)), .inl rfl⟩
      have c12 := tokens_any E3 (Nat.le_refl _) (by rw [kept_len]; exact hl4) t (by omega)
      clear c10 b3 b12 E3
      go_wp2_with (first | (go_at_call 11; refine (c11 _).mono ?_; rintro e w' ⟨rfl, h⟩; obtain rfl := h.symm))
      go_at_call 12
      refine c12.mono ?_
      rintro e w4 ⟨v4, rfl, o4, -, eb4, -⟩
      have B4 := (show Hid (Below w0.heap.size w0 w4) from B3.out.trans (eb4.below B3.out.size le1))
      have c14 := rtokens_any l hl4 d t (by omega) _ _ w4 (HM.out w4 B4.out) (HD.out w4 B4.out)
      have O4 := (show Hid (w4.ownsRow w3.heap.size 3 1 v4 (app (keptL l d) (idsOf t)).length ((app (keptL l d) (idsOf t)).map iv)) from o4)
      clear c12 o4 eb4
      go_wp2_with (fail)
      go_at_call 14
      refine c14.mono ?_
      rintro e w5 ⟨v5, rfl, i5, b5⟩
      have c13 := mg.ints_same (app (keptL l d) (idsOf t)) v4 v5 w5 (RowV.own (g := iv) (ow.later O4.out b5)) i5
      clear c14 i5
      go_wp2_with (fail)
      go_at_call 13
      refine c13.mono ?_
      rintro e w6 ⟨rfl, b6⟩
      go_wp2_with (fail)
      go_ret
      exact ⟨rfl, chain (chain B4.out b5) b6⟩
    | false =>
      have HNE := (show Hid (newE l d = 1) from by show _ = _; unfold newE; rw [if_neg (by rw [hE]; simp), if_neg (by rw [hN]; simp)])
      have HNN := (show Hid (numB 0 l.length d = false) from hN)
      clear hN hE
      go_enter Try.func3, Try.ntmps3
      go_wp2_with (fail)
      go_at_call 8
      refine c8.mono ?_
      rintro e w1 ⟨v1, rfl, b1, hh⟩
      obtain ⟨-, rfl⟩ := hh.resolve_right (fun q => by have h1 := q.1; have h2 := HNE.out; omega)
      rw [HNE.out]
      have c9 := C9.out w1 b1
      clear c8 hh
      go_wp2_with (fail)
      go_at_call 9
      refine c9.mono ?_
      rintro e w2 ⟨v2, rfl, -, b2⟩
      rw [HE0.out]
      have b12 := chain b1 b2
      have c10 := C10.out w2 b12
      rw [HNN.out] at c10
      clear c9 b1 b2
      go_wp2_with (fail)
      go_at_call 10
      refine c10.mono ?_
      rintro e w3 ⟨rfl, b3⟩
      clear c10
      go_wp2_with (fail)
      go_ret
      exact ⟨rfl, chain b12 b3⟩
  · have HNE := (show Hid (newE l d = mg.errOf l) from by show _ = _; unfold newE; rw [if_pos hE])
    have HEE := (show Hid (mg.errOf l ≠ 0) from hE)
    have hne : ((mg.errOf l : Int) != 0) = true := bne_iff_ne.2 (by omega)
    have heq : ((mg.errOf l : Int) == (mg.errOf l : Int)) = true := beq_self_eq_true _
    clear hE
    go_enter Try.func3, Try.ntmps3
    go_wp2_with (fail)
    go_at_call 8
    refine c8.mono ?_
    rintro e w1 ⟨v1, rfl, b1, hh⟩
    obtain ⟨-, rfl⟩ := hh.resolve_right (fun q => HEE.out (by rw [← HNE.out]; exact q.1))
    rw [HNE.out]
    have c9 := C9.out w1 b1
    clear c8 hh
    go_wp2_with (fail)
    go_at_call 9
    refine c9.mono ?_
    rintro e w2 ⟨v2, rfl, -, b2⟩
    clear c9
    go_wp2_with (fail)
    go_ret
    exact ⟨rfl, chain b1 b2⟩

set_option maxRecDepth 100000 in
theorem lifted (os : Os) (started : os.Started) (H : Type) (enc : TypeId × Value → H) :
    ReturnsInHanded {} Try.checked os 3 .any (Rows.heapTokensSpec.pre6 enc Try.prog Try.f3 Rows.heapTokensRow.domain false) (Rows.heapTokensSpec.post enc Try.prog Try.f3 false true false false) := by
  refine returnsInHanded_of_change_sized (C := Try.checked) own started (by kernel_rfl) Try.func3
    (ChangeSpec.witness6 (enc := enc) (C := Try.checked) false ⟨#[], #[.slice none 0 0, .slice none 0 0, .string ByteArray.empty], []⟩ 8 (by kernel_rfl) (by kernel_rfl) (by kernel_rfl) (by kernel_rfl)) ?_
  intro W base args ds gs before hval0 hW hcnd hsz0 _
  have hsz : (DataW.weightsEach Try.prog (Try.f3.params.toList ++ Rows.heapTokensSpec.plain.varTypes Try.prog) (ds ++ gs)).all (· ≤ reachBytes) = true := hsz0
  have hval : ∀ (j : Nat) t v, Try.f3.params[j]? = some t → args[j]? = some v → Value.okWide Try.prog W .any base t v := hval0
  have hW' := hW
  obtain ⟨p, q, hA0, hV, rfl, hfz, hnd⟩ := hW
  have hA : DataW.TrodAll enc Try.prog W 0 (fun _ => true) true Try.f3.params.toList args.toList ds p := hA0
  rw [Try.params3] at hA hval hsz
  obtain ⟨v0, vs0, d0, ds0, p0, q0, hargs, rfl, rfl, h0, r0⟩ := trodAll_cons hA
  obtain ⟨v1, vs1, d1, ds1, p1, q1, rfl, rfl, rfl, h1, r1⟩ := trodAll_cons r0
  obtain ⟨v2, vs2, d2, ds2, p2, q2, rfl, rfl, rfl, h2, r2⟩ := trodAll_cons r1
  obtain ⟨rfl, rfl, rfl⟩ := trodAll_nil r2
  obtain rfl : args = #[v0, v1, v2] := by cases args; simp_all
  obtain ⟨rfl, rfl⟩ := trodVars_none hV
  have k0 := h0
  have lt0 : ∀ x ∈ p0, x.block < W.heap.size := by obtain ⟨m, hm⟩ := k0; exact DataW.trod_lt m _ _ _ hm
  obtain ⟨l0, F0⟩ := mg.open22 (hval 0 22 v0 rfl rfl) h0
  have k1 := h1
  have lt1 : ∀ x ∈ p1, x.block < W.heap.size := by obtain ⟨m, hm⟩ := k1; exact DataW.trod_lt m _ _ _ hm
  obtain ⟨l1, F1⟩ := mg.open23 (hval 1 23 v1 rfl rfl) h1
  obtain ⟨a2, rfl, rfl, rfl, w2⟩ := open_string Try.underlying9 (hval 2 9 v2 rfl rfl) h2
  have F2 : a2.size ≤ 140737488351232 := by
    have := sized_string hsz (j := 2) (t := 9) rfl rfl
    simpa [reachBytes] using this
  clear hA0 hval0
  refine (walk F0 F1 F2 W).mono fun e W' ⟨he, bel⟩ => ?_
  subst he
  exact ⟨_, rfl, _, _, _, [], _, [], hW', trodAll_mk1 (shut_bool Try.underlying4 _), (trodAll_cons_mk (Below.trod laidOut (by kernel_rfl) (of_decide_eq_true (by kernel_rfl)) k0 bel lt0) (trodAll_cons_mk (Below.trod laidOut (by kernel_rfl) (of_decide_eq_true (by kernel_rfl)) k1 bel lt1) (trodAll_cons_mk (shut_string Try.underlying9 w2) trodAll_mk0))), rfl, bel.frame _, fun h => by cases h⟩

theorem over : Rows.heapTokensRow.holds Try.pinned (OpenSpec.ofChange Rows.heapTokensSpec) :=
  OpenClaim.holds_of_wide 3 Try.f3 rfl rfl rfl rfl rfl rfl rfl ⟨rfl, rfl, rfl, rfl, rfl⟩ rfl rfl rfl rfl rfl (by kernel_rfl) Try.func3 (by kernel_rfl)
    (of_decide_eq_true (by kernel_rfl)) (by unfold Func.isWrapper; first | (rw [if_pos (by decide +kernel)]; kernel_rfl) | (rw [if_neg (by decide +kernel)]; exact ⟨rfl, rfl⟩))
    (fun os started H enc _ => lifted os started H enc)

theorem proved : Rows.HeapTokensSaid :=
  over
#print axioms proved
end Go.Proofs.Ythcekfmodmnekaa.heapTokens
