/-
  For every list of merges and two texts the law HeapAgain of package fretsawlaw14 returns true (an engine can be asked again, of one text and of another one in turn: each is told the same), and the arguments read as before
-/
import Derived.Test.YthcekfmodmnekaaEl
import Derived.Test.YthcekfmodmnekaaMg
import Derived.ProofKit
import Derived.ShutString
namespace Go.Proofs.Ythcekfmodmnekaa.heapAgain
open Go.ChangeShapes Go.WideShapes Go.ChangeAt Go.RowKit
open Go.ChangeMaps (open_string shut_string)
open mg (IntsV RowV Row In iv below_alloc chain Mgs Mg app idsOf idsOf_len)
open hp (new_any newE NewOut keptL kept_nil own_keep)
open en
set_option linter.unusedVariables false

theorem own : ownKnob Try.prog.godebug = none := by kernel_rfl
theorem laidOut : laidOutB Try.prog = true := by kernel_rfl

theorem own_three {W W' : World} {B n : Nat} {v : Value} {xs : List Value} (h : W.ownsRow B 3 1 v n xs) (hk : ∀ (k : Nat) (cs : Array Value) (fr : Nat × Nat), W.heap[k]? = some (Obj.cells cs 3 fr) → W'.heap[k]? = some (Obj.cells cs 3 fr)) : W'.ownsRow B 3 1 v n xs := by
  refine ⟨h.1, ?_⟩
  rcases h.2 with h0 | ⟨g, cap, cur, rfl, hb, hg, hr⟩
  · exact .inl h0
  · exact .inr ⟨g, cap, cur, rfl, hb, hk g cur (0, 0) hg, hr⟩
abbrev Owns (W : World) (B : Nat) (v : Value) (l : List Int) : Prop := W.ownsRow B 3 1 v l.length (l.map iv)
set_option maxHeartbeats 4000000 in
set_option maxRecDepth 100000 in
theorem walk {l : List Mg} {v : Value} {w : World} (hM : Mgs w v l) {sa : ByteArray} (hsa : sa.size ≤ 140737488351232) {sb : ByteArray} (hsb : sb.size ≤ 140737488351232) (w0 : World) (hw0 : w0 = w := by rfl) :
    Calls Try.prog 5 #[v, .string sa, .string sb] w0 fun e w' => e = .returned (.bool true) ∧ Below w0.heap.size w0 w' := by
  subst hw0
  have HM : Hid (∀ W, Below w0.heap.size w0 W → Mgs W v l) := fun W b => hM.later b
  obtain ⟨o, cap, rfl, -⟩ := hM.form
  have ha := cutN_size sa 200
  have hb := cutN_size sb 200
  have c11a := fun W => short_any sa 200 (by omega) (by omega) W
  have c11b := fun W => short_any sb 200 (by omega) (by omega) W
  generalize cutN sa 200 = ta at *
  generalize cutN sb 200 = tb at *
  have C8 := (show Hid (∀ W, Below w0.heap.size w0 W → Calls Try.prog 8 #[.slice o l.length cap, .slice none 0 0] W (NewOut l [] W)) from fun W b => new_any l [] _ _ W (HM.out W b) (RowV.nil W))
  have c15 := alive_any w0
  clear hM hsa hsb
  go_enter Try.func5, Try.ntmps5
  go_wp2_with (fail)
  go_at_call 15
  refine c15.mono ?_
  rintro e w1 ⟨rfl, b1⟩
  have c8 := C8.out w1 b1
  clear c15
  go_wp2_with (fail)
  go_at_call 11
  refine (c11a _).mono ?_
  rintro e w' ⟨rfl, h⟩
  obtain rfl := h.symm
  go_wp2_with (fail)
  go_at_call 11
  refine (c11b _).mono ?_
  rintro e w' ⟨rfl, h⟩
  obtain rfl := h.symm
  go_wp2_with (fail)
  go_at_call 8
  refine c8.mono ?_
  rintro e w2 ⟨v2, rfl, b2, hh⟩
  clear c8 c11a c11b
  have HBB := (show Hid (Below w0.heap.size w0 w2) from chain b1 b2)
  by_cases hE : newE l [] = 0
  · obtain ⟨-, eb, mb, rfl, he2, hm2, le2, lm2⟩ := hh.resolve_left (fun q => q.1 hE)
    have hl4 : l.length ≤ 1024 := (mg.ok_run (by rw [← newE_nil]; exact hE)).1
    rw [kept_nil] at hm2
    rw [hE]
    have E2 : Eng w2 w2.heap.size eb mb l := ⟨_, he2, hm2, .inl rfl⟩
    have HL2 := (show Hid (w0.heap.size ≤ eb) from Nat.le_trans b1.size le2)
    have c12 := tokens_any E2 (Nat.le_refl _) hl4 ta (by omega)
    clear hh hE he2 hm2 le2 lm2 b1 b2 E2
    obtain ⟨B, HB⟩ : ∃ B, Hid (B = w2.heap.size) := ⟨_, rfl⟩
    rw [← HB.out] at c12
    have hB2 : B ≤ w2.heap.size := by rw [HB.out]; exact Nat.le_refl _
    have HWB := (show Hid (w0.heap.size ≤ B) from by show _ ≤ _; rw [HB.out]; exact HBB.out.size)
    go_wp2_with (fail)
    go_at_call 12
    refine c12.mono ?_
    rintro e w3 ⟨v3, rfl, o3, E3, eb3, t3⟩
    have c12 := tokens_any E3 (Nat.le_trans hB2 eb3.size) hl4 tb (by omega)
    have O3 := (show Hid (Owns w3 B v3 (app l (idsOf ta))) from o3)
    have EB3 := (show Hid (EB B eb w2 w3) from eb3)
    clear o3 E3 eb3 t3
    go_wp2_with (fail)
    go_at_call 12
    refine c12.mono ?_
    rintro e w4 ⟨v4, rfl, o4, E4, eb4, t4⟩
    have O4 := (show Hid (Owns w4 B v4 (app l (idsOf tb))) from o4)
    have O34 := (show Hid (Owns w4 B v3 (app l (idsOf ta))) from own_three O3.out t4)
    have EB4 := (show Hid (EB B eb w2 w4) from EB3.out.trans eb4)
    have HE4 := (show Hid (Eng w4 B eb mb l) from E4)
    clear o4 E4 eb4 t4 c12 O3 EB3
    obtain ⟨gx, cx, e3, x1, x2⟩ := ow.form O34.out
    obtain ⟨gy, cy, e4, y1, y2⟩ := ow.form O4.out
    subst e3
    subst e4
    go_wp2_with (fail)
    go_loopw [45] (fun y wr => ∃ i : Nat, y = .int .i64 i ∧ i ≤ 8 ∧ Hid (Eng wr B eb mb l) ∧ Hid (Owns wr B (.slice gx (app l (idsOf ta)).length cx) (app l (idsOf ta))) ∧ Hid (Owns wr B (.slice gy (app l (idsOf tb)).length cy) (app l (idsOf tb))) ∧ Hid (EB B eb w2 wr)) (fun y _ => 8 - (intOf y).toNat)
    case atStart => exact ⟨0, rfl, by omega, HE4, O34, O4, EB4⟩
    case round =>
      clear HE4 O34 O4 EB4
      obtain ⟨i, rfl, hi, HE, HX, HY, HEB⟩ := hrel
      have hBr : B ≤ wr.heap.size := Nat.le_trans hB2 HEB.out.size
      by_cases hend : i < 8
      · by_cases h3 : i % 3 = 0
        · have d3 : (((i : Int) % 3) == 0) = true := beq_iff_eq.2 (by omega)
          have d3' : (Int.tmod (i : Int) 3 == 0) = true := by rw [Int.tmod_eq_emod_of_nonneg (by omega)]; exact d3
          have c12 := tokens_any HE.out hBr hl4 ta (by omega)
          clear h3
          go_wp2_with (fail)
          go_at_call 12
          refine c12.mono ?_
          rintro e w5 ⟨v5, rfl, o5, E5, eb5, t5⟩
          have OX := (show Hid (Owns w5 B (.slice gx (app l (idsOf ta)).length cx) (app l (idsOf ta))) from own_three HX.out t5)
          have OY := (show Hid (Owns w5 B (.slice gy (app l (idsOf tb)).length cy) (app l (idsOf tb))) from own_three HY.out t5)
          have c13 := mg.ints_same (app l (idsOf ta)) v5 (.slice gx (app l (idsOf ta)).length cx) w5 (RowV.own (g := iv) o5) (RowV.own (g := iv) OX.out)
          have EB5 := (show Hid (EB B eb w2 w5) from HEB.out.trans eb5)
          have HE5 := (show Hid (Eng w5 B eb mb l) from E5)
          clear c12 o5 E5 eb5 t5
          go_wp2_with (fail)
          go_at_call 13
          refine c13.mono ?_
          rintro e w6 ⟨rfl, b6⟩
          go_wp2_with (fail)
          go_roundw
          case rel => exact ⟨i + 1, by go_num, by omega, HE5.out.later b6, ow.later OX.out b6, ow.later OY.out b6, EB5.out.trans (EB.of_below (b6.mono (Nat.le_trans hB2 EB5.out.size)))⟩
          case measure => simp [intOf]; omega
        · have d3 : (((i : Int) % 3) == 0) = false := beq_eq_false_iff_ne.2 (by omega)
          have d3' : (Int.tmod (i : Int) 3 == 0) = false := by rw [Int.tmod_eq_emod_of_nonneg (by omega)]; exact d3
          have c12 := tokens_any HE.out hBr hl4 tb (by omega)
          clear h3
          go_wp2_with (fail)
          go_at_call 12
          refine c12.mono ?_
          rintro e w5 ⟨v5, rfl, o5, E5, eb5, t5⟩
          have OX := (show Hid (Owns w5 B (.slice gx (app l (idsOf ta)).length cx) (app l (idsOf ta))) from own_three HX.out t5)
          have OY := (show Hid (Owns w5 B (.slice gy (app l (idsOf tb)).length cy) (app l (idsOf tb))) from own_three HY.out t5)
          have c13 := mg.ints_same (app l (idsOf tb)) v5 (.slice gy (app l (idsOf tb)).length cy) w5 (RowV.own (g := iv) o5) (RowV.own (g := iv) OY.out)
          have EB5 := (show Hid (EB B eb w2 w5) from HEB.out.trans eb5)
          have HE5 := (show Hid (Eng w5 B eb mb l) from E5)
          clear c12 o5 E5 eb5 t5
          go_wp2_with (fail)
          go_at_call 13
          refine c13.mono ?_
          rintro e w6 ⟨rfl, b6⟩
          go_wp2_with (fail)
          go_roundw
          case rel => exact ⟨i + 1, by go_num, by omega, HE5.out.later b6, ow.later OX.out b6, ow.later OY.out b6, EB5.out.trans (EB.of_below (b6.mono (Nat.le_trans hB2 EB5.out.size)))⟩
          case measure => simp [intOf]; omega
      · have HF := (show Hid (Below w0.heap.size w0 wr) from HBB.out.trans (HEB.out.below HWB.out HL2.out))
        clear HE HX HY HEB
        go_wp2_with (fail)
        go_ret
        exact ⟨rfl, HF.out⟩
  · obtain ⟨-, rfl⟩ := hh.resolve_right (fun q => hE q.1)
    have hne : ((newE l [] : Int) != 0) = true := bne_iff_ne.2 (by omega)
    clear hh hE
    go_wp2_with (fail)
    go_ret
    exact ⟨rfl, HBB.out⟩

set_option maxRecDepth 100000 in
theorem lifted (os : Os) (started : os.Started) (H : Type) (enc : TypeId × Value → H) :
    ReturnsInHanded {} Try.checked os 5 .any (Rows.heapAgainSpec.pre6 enc Try.prog Try.f5 Rows.heapAgainRow.domain false) (Rows.heapAgainSpec.post enc Try.prog Try.f5 false true false false) := by
  refine returnsInHanded_of_change_sized (C := Try.checked) own started (by kernel_rfl) Try.func5
    (ChangeSpec.witness6 (enc := enc) (C := Try.checked) false ⟨#[], #[.slice none 0 0, .string ByteArray.empty, .string ByteArray.empty], []⟩ 8 (by kernel_rfl) (by kernel_rfl) (by kernel_rfl) (by kernel_rfl)) ?_
  intro W base args ds gs before hval0 hW hcnd hsz0 _
  have hsz : (DataW.weightsEach Try.prog (Try.f5.params.toList ++ Rows.heapAgainSpec.plain.varTypes Try.prog) (ds ++ gs)).all (· ≤ reachBytes) = true := hsz0
  have hval : ∀ (j : Nat) t v, Try.f5.params[j]? = some t → args[j]? = some v → Value.okWide Try.prog W .any base t v := hval0
  have hW' := hW
  obtain ⟨p, q, hA0, hV, rfl, hfz, hnd⟩ := hW
  have hA : DataW.TrodAll enc Try.prog W 0 (fun _ => true) true Try.f5.params.toList args.toList ds p := hA0
  rw [Try.params5] at hA hval hsz
  obtain ⟨v0, vs0, d0, ds0, p0, q0, hargs, rfl, rfl, h0, r0⟩ := trodAll_cons hA
  obtain ⟨v1, vs1, d1, ds1, p1, q1, rfl, rfl, rfl, h1, r1⟩ := trodAll_cons r0
  obtain ⟨v2, vs2, d2, ds2, p2, q2, rfl, rfl, rfl, h2, r2⟩ := trodAll_cons r1
  obtain ⟨rfl, rfl, rfl⟩ := trodAll_nil r2
  obtain rfl : args = #[v0, v1, v2] := by cases args; simp_all
  obtain ⟨rfl, rfl⟩ := trodVars_none hV
  have k0 := h0
  have lt0 : ∀ x ∈ p0, x.block < W.heap.size := by obtain ⟨m, hm⟩ := k0; exact DataW.trod_lt m _ _ _ hm
  obtain ⟨l0, F0⟩ := mg.open22 (hval 0 22 v0 rfl rfl) h0
  obtain ⟨a1, rfl, rfl, rfl, w1⟩ := open_string Try.underlying9 (hval 1 9 v1 rfl rfl) h1
  have F1 : a1.size ≤ 140737488351232 := by
    have := sized_string hsz (j := 1) (t := 9) rfl rfl
    simpa [reachBytes] using this
  obtain ⟨a2, rfl, rfl, rfl, w2⟩ := open_string Try.underlying9 (hval 2 9 v2 rfl rfl) h2
  have F2 : a2.size ≤ 140737488351232 := by
    have := sized_string hsz (j := 2) (t := 9) rfl rfl
    simpa [reachBytes] using this
  clear hA0 hval0
  refine (walk F0 F1 F2 W).mono fun e W' ⟨he, bel⟩ => ?_
  subst he
  exact ⟨_, rfl, _, _, _, [], _, [], hW', trodAll_mk1 (shut_bool Try.underlying4 _), (trodAll_cons_mk (Below.trod laidOut (by kernel_rfl) (of_decide_eq_true (by kernel_rfl)) k0 bel lt0) (trodAll_cons_mk (shut_string Try.underlying9 w1) (trodAll_cons_mk (shut_string Try.underlying9 w2) trodAll_mk0))), rfl, bel.frame _, fun h => by cases h⟩

theorem over : Rows.heapAgainRow.holds Try.pinned (OpenSpec.ofChange Rows.heapAgainSpec) :=
  OpenClaim.holds_of_wide 5 Try.f5 rfl rfl rfl rfl rfl rfl rfl ⟨rfl, rfl, rfl, rfl, rfl⟩ rfl rfl rfl rfl rfl (by kernel_rfl) Try.func5 (by kernel_rfl)
    (of_decide_eq_true (by kernel_rfl)) (by unfold Func.isWrapper; first | (rw [if_pos (by decide +kernel)]; kernel_rfl) | (rw [if_neg (by decide +kernel)]; exact ⟨rfl, rfl⟩))
    (fun os started H enc _ => lifted os started H enc)

theorem proved : Rows.HeapAgainSaid :=
  over
#print axioms proved
end Go.Proofs.Ythcekfmodmnekaa.heapAgain
