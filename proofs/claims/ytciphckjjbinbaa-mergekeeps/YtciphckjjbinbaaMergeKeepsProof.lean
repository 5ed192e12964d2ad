/-
  For every list of merges and every list of ids the law MergeKeeps of package fretsawlaw13 returns true (merging changes no text, makes no list longer, and what was merged stays: no two side by side are a merge's), and the arguments read as before
-/
import Derived.Test.YtciphckjjbinbaaMp
import Derived.ProofKit
import Derived.ShutString
namespace Go.Proofs.Ytciphckjjbinbaa.mergeKeeps
open Go.ChangeShapes Go.WideShapes Go.ChangeAt Go.RowKit
open Go.ChangeMaps (open_string shut_string)
open mg
set_option linter.unusedVariables false

theorem own : ownKnob Try.prog.godebug = none := by kernel_rfl
theorem laidOut : laidOutB Try.prog = true := by kernel_rfl

theorem apply_is (l : List Mg) (ids : List Int) (x : Nat) (y : List Int) (hx : applyE l ids = x) (hy : applyL l ids = y) (v vs : Value) (w : World) (hv : Mgs w v l) (hs : IntsV w vs ids) : Calls Try.prog 12 #[v, vs] w fun e w' => ∃ (o : Option Addr) (cap : Nat), e = .returned (.tuple #[.slice o y.length cap, .int .i64 (x : Int)]) ∧ y.length ≤ cap ∧ cap ≤ 9223372036854775807 ∧ Hid (IntsV w' (.slice o y.length cap) y) ∧ Below w.heap.size w w' := by
  refine (apply_any l ids v vs w hv hs).mono ?_
  rintro e w' ⟨v', rfl, h, b⟩
  rw [hx]
  rw [hy] at h
  obtain ⟨o, cap, rfl, h2⟩ := id h
  exact ⟨o, cap, rfl, h2.fit, h2.top, h, b⟩
theorem texts_is (l : List Mg) (x : Nat) (y : List ByteArray) (hx : errOf l = x) (hy : textsOf l = y) (v : Value) (w : World) (hv : Mgs w v l) : Calls Try.prog 8 #[v] w fun e w' => ∃ (o : Option Addr) (cap : Nat), e = .returned (.tuple #[.slice o y.length cap, .int .i64 (x : Int)]) ∧ y.length ≤ cap ∧ cap ≤ 9223372036854775807 ∧ Hid (StrsV w' (.slice o y.length cap) y) ∧ Below w.heap.size w w' := by
  refine (texts_any l v w hv).mono ?_
  rintro e w' ⟨v', rfl, h, b⟩
  rw [hx]
  rw [hy] at h
  obtain ⟨o, cap, rfl, h2⟩ := id h
  exact ⟨o, cap, rfl, h2.fit, h2.top, h, b⟩
theorem short_is (ids : List Int) (v : Value) (w : World) (h : IntsV w v ids) : Calls Try.prog 17 #[v] w fun e w' => ∃ (o : Option Addr) (cap : Nat), e = .returned (.slice o (ids.take 60).length cap) ∧ (ids.take 60).length ≤ cap ∧ cap ≤ 9223372036854775807 ∧ Hid (IntsV w (.slice o (ids.take 60).length cap) (ids.take 60)) ∧ w' = w := by
  refine (short_any ids v w h).mono ?_
  rintro e w' ⟨v', rfl, h', hw⟩
  subst hw
  obtain ⟨o, cap, rfl, h2⟩ := id h'
  exact ⟨o, cap, rfl, h2.fit, h2.top, h', rfl⟩
theorem applyL_bad {l : List Mg} {ids : List Int} (h : applyE l ids ≠ 0) : applyL l ids = [] := by unfold applyL; rw [if_neg h]
theorem applyL_ok {l : List Mg} {ids : List Int} (h : applyE l ids = 0) : applyL l ids = app l ids := by unfold applyL; rw [if_pos h]

set_option maxHeartbeats 800000 in
set_option maxRecDepth 100000 in
theorem bad {l : List Mg} {v : Value} {w : World} (hM : Mgs w v l) {ids : List Int} {vs : Value} (hs : IntsV w vs ids) (x f : Nat) (hx : errOf l = x) (hf : applyE l (ids.take 60) = f) (h0 : f ≠ 0) :
    Calls Try.prog 6 #[v, vs] w fun e w' => e = .returned (.bool true) ∧ Below w.heap.size w w' := by
  have c17 := short_is ids vs w hs
  have c8 := texts_is l x _ hx rfl v w hM
  have HA : Hid (∀ W vi, Below w.heap.size w W → IntsV W vi (ids.take 60) → Calls Try.prog 12 #[v, vi] W fun e w' => ∃ (o : Option Addr) (cap : Nat), e = .returned (.tuple #[.slice o ([] : List Int).length cap, .int .i64 (f : Int)]) ∧ ([] : List Int).length ≤ cap ∧ cap ≤ 9223372036854775807 ∧ Hid (IntsV w' (.slice o ([] : List Int).length cap) []) ∧ Below W.heap.size W w') := fun W vi b h => apply_is l _ f [] hf (applyL_bad (by rw [hf]; exact h0)) v vi W (hM.later b) h
  have g1 : ((f : Int) == 0) = false := beq_eq_false_iff_ne.2 (by omega)
  have g2 : ((f : Int) != 0) = true := by rw [bne, g1]; rfl
  obtain ⟨o, cap, rfl, _, _, _⟩ := hM.form
  clear hM hs hx hf h0
  generalize textsOf l = ts at *
  generalize ids.take 60 = is at *
  by_cases hx0 : x = 0
  · subst hx0
    go_enter Try.func6, Try.ntmps6
    go_wp2_with (first | (go_at_call 17; refine c17.mono ?_; rintro e w1 ⟨oi, ci, rfl, q1, q2, HI, hw⟩; obtain rfl := hw.symm; clear c17) | (go_at_call 8; refine c8.mono ?_; rintro e w2 ⟨ot, ct, rfl, q3, q4, HS, b2⟩; have c12 := HA.out w2 _ b2 (HI.out.later b2); clear c8) | (go_at_call 12; refine c12.mono ?_; rintro e w3 ⟨og, cg, rfl, q5, q6, HG, b3⟩; clear c12))
    go_ret
    exact ⟨rfl, chain b2 b3⟩
  · have g3 : ((x : Int) == 0) = false := beq_eq_false_iff_ne.2 (by omega)
    have g4 : ((x : Int) != 0) = true := by rw [bne, g3]; rfl
    clear hx0
    go_enter Try.func6, Try.ntmps6
    go_wp2_with (first | (go_at_call 17; refine c17.mono ?_; rintro e w1 ⟨oi, ci, rfl, q1, q2, HI, hw⟩; obtain rfl := hw.symm; clear c17) | (go_at_call 8; refine c8.mono ?_; rintro e w2 ⟨ot, ct, rfl, q3, q4, HS, b2⟩; have c12 := HA.out w2 _ b2 (HI.out.later b2); clear c8) | (go_at_call 12; refine c12.mono ?_; rintro e w3 ⟨og, cg, rfl, q5, q6, HG, b3⟩; clear c12))
    go_ret
    exact ⟨rfl, chain b2 b3⟩
theorem app_again (l : List Mg) (is : List Int) : app l (app l is) = app l is := app_none (app_done l is)
theorem no_pair {l : List Mg} {is : List Int} (hl : l.length ≤ 1024) (h : nx l is = none) {i : Nat} (hi : i + 1 < is.length) : (is[i], is[i + 1]) ∉ l := fun hm => by
  have := (nx_none h).1 i (by omega)
  rw [rk_in hi hm] at this
  have := List.idxOf_lt_length_of_mem hm
  omega
set_option maxHeartbeats 2000000 in
set_option maxRecDepth 100000 in
theorem good {l : List Mg} {v : Value} {w : World} (hM : Mgs w v l) {ids : List Int} {vs : Value} (hs : IntsV w vs ids) (hx : errOf l = 0) (hall : AllIn (256 + l.length) (ids.take 60)) :
    Calls Try.prog 6 #[v, vs] w fun e w' => e = .returned (.bool true) ∧ Below w.heap.size w w' := by
  have c17 := short_is ids vs w hs
  have c8 := texts_is l 0 _ hx rfl v w hM
  have h60 : (ids.take 60).length ≤ 60 := by rw [List.length_take]; omega
  have hF := fine hx
  have hl4 := (ok_run hx).1
  have hf : applyE l (ids.take 60) = 0 := applyE_ok hx (by omega) hall
  have hla := app_len l (ids.take 60)
  have hall2 : AllIn (256 + l.length) (app l (ids.take 60)) := app_in l _ hall
  have hf2 : applyE l (app l (ids.take 60)) = 0 := applyE_ok hx (by omega) hall2
  have hnx := app_done l (ids.take 60)
  have HA : Hid (∀ W vi, Below w.heap.size w W → IntsV W vi (ids.take 60) → Calls Try.prog 12 #[v, vi] W fun e w' => ∃ (o : Option Addr) (cap : Nat), e = .returned (.tuple #[.slice o (app l (ids.take 60)).length cap, .int .i64 ((0 : Nat) : Int)]) ∧ (app l (ids.take 60)).length ≤ cap ∧ cap ≤ 9223372036854775807 ∧ Hid (IntsV w' (.slice o (app l (ids.take 60)).length cap) (app l (ids.take 60))) ∧ Below W.heap.size W w') := fun W vi b h => apply_is l _ 0 _ hf (applyL_ok hf) v vi W (hM.later b) h
  have HA2 : Hid (∀ W vi, Below w.heap.size w W → IntsV W vi (app l (ids.take 60)) → Calls Try.prog 12 #[v, vi] W fun e w' => ∃ (o : Option Addr) (cap : Nat), e = .returned (.tuple #[.slice o (app l (ids.take 60)).length cap, .int .i64 ((0 : Nat) : Int)]) ∧ (app l (ids.take 60)).length ≤ cap ∧ cap ≤ 9223372036854775807 ∧ Hid (IntsV w' (.slice o (app l (ids.take 60)).length cap) (app l (ids.take 60))) ∧ Below W.heap.size W w') := fun W vi b h => apply_is l _ 0 _ hf2 (by rw [applyL_ok hf2, app_again]) v vi W (hM.later b) h
  have hcat := cat_app hF (ids.take 60)
  have HRK : Hid (∀ W, Below w.heap.size w W → ∀ a b, (a, b) ∉ l → Calls Try.prog 18 #[v, .int .i64 a, .int .i64 b] W fun e w' => e = .returned (.int .i64 (-1)) ∧ Below W.heap.size W w') := fun W b a c h => rank_any l a c (-1) (rkv_no h).symm v W (hM.later b)
  obtain ⟨o, cap, rfl, f1, f2, _⟩ := hM.form
  have htl := hF.len
  have HTL : Hid ((textsOf l).length = 256 + l.length) := htl
  have H64 : Hid (∀ t ∈ textsOf l, t.size ≤ 64) := fun t ht => (hF.size t ht).2
  clear hM hs hx hf hf2 hF
  generalize textsOf l = ts at *
  generalize app l (ids.take 60) = got at *
  generalize ids.take 60 = is at *
  have HIN2 : Hid (AllIn (256 + l.length) got) := hall2
  have HIN : Hid (AllIn (256 + l.length) is) := hall
  have HNP : Hid (∀ i (hi : i + 1 < got.length), (got[i], got[i + 1]) ∉ l) := fun i hi => no_pair hl4 hnx hi
  have HCAT : Hid (cat ts got = cat ts is) := hcat
  have hlg : got.length ≤ 60 := by omega
  have g1 : ¬ (is.length : Int) < (got.length : Int) := by omega
  have g2 : ((ts.length : Int) == 256 + (l.length : Int)) = true := beq_iff_eq.2 (by omega)
  have g3 : ((ts.length : Int) != 256 + (l.length : Int)) = false := by rw [bne, g2]; rfl
  have ht5 : ts.length ≤ 1280 := by omega
  clear hnx hcat hall hall2 htl
  go_enter Try.func6, Try.ntmps6
  go_wp2_with (first | (go_at_call 17; refine c17.mono ?_; rintro e w1 ⟨oi, ci, rfl, q1, q2, HI, hw⟩; obtain rfl := hw.symm; clear c17) | (go_at_call 8; refine c8.mono ?_; rintro e w2 ⟨ot, ct, rfl, q3, q4, HS, b2⟩; have c12 := HA.out w2 _ b2 (HI.out.later b2); clear c8) | (go_at_call 12; refine c12.mono ?_; rintro e w3 ⟨og, cg, rfl, q5, q6, HG, b3⟩; have d12 := HA2.out w3 _ (chain b2 b3) HG.out; clear c12) | (go_at_call 12; refine d12.mono ?_; rintro e w4 ⟨oh, ch, rfl, q7, q8, HH, b4⟩; have c13 := ints_same got _ _ w4 (HG.out.later b4) HH.out; clear d12) | (go_at_call 13; refine c13.mono ?_; rintro e w5 ⟨rfl, b5⟩))
  have B5 : Below w.heap.size w w5 := chain (chain b2 b3) (chain b4 b5)
  have HG5 : Hid (IntsV w5 (.slice og got.length cg) got) := HG.out.later (chain b4 b5)
  have HI5 : Hid (IntsV w5 (.slice oi is.length ci) is) := HI.out.later B5
  have HS5 : Hid (StrsV w5 (.slice ot ts.length ct) ts) := HS.out.later (chain b3 (chain b4 b5))
  clear HG HI HS HH b2 b3 b4 b5 HA HA2
  obtain ⟨_, _, e, hrow⟩ := id HG5.out
  obtain ⟨rfl, rfl⟩ : og = _ ∧ cg = _ := by simpa using e
  have HR5 : Hid (Row (In w5) w5 iv og cg got) := hrow
  have K5 : Below w5.heap.size w5 w5 := Below.refl _ _
  clear hrow e c13
  go_wp2_with (fail)
  clear g1 g2 g3
  simp only [show decide (is.length < got.length) = false from decide_eq_false (by omega)]
  go_loopw [66] (fun y wr => ∃ i : Nat, y = .int .i64 i ∧ i ≤ got.length ∧ Hid (Below w5.heap.size w5 wr)) (fun y _ => got.length - (intOf y).toNat)
  case atStart => exact ⟨0, rfl, by omega, K5⟩
  case round =>
    obtain ⟨i, rfl, hi, HBW⟩ := hrel
    have hB := HBW.out
    by_cases hend : i < got.length
    · obtain ⟨b, off, rfl, hb, hc⟩ := HR5.out.lie i hend
      have k1 := (hB.cell (p := ⟨b, off + i, none⟩) hb).trans hc
      have hin := HIN2.out got[i] (List.getElem_mem _)
      have r1 : ¬ got[i] < 0 := by have := hin.1; omega
      have r2 : ¬ (ts.length : Int) ≤ got[i] := by have := hin.2; have := HTL.out; omega
      by_cases hi0 : i = 0
      · have r3 : ¬ (0 : Int) < (i : Int) := by omega
        generalize got[i] = x at *
        clear hc hin hi0 hB
        go_wp2_with (fail)
        go_roundw
        case rel => exact ⟨i + 1, by go_num, by omega, HBW.out⟩
        case measure => simp [intOf]; omega
      · obtain ⟨i', HI'⟩ : ∃ i', Hid (i = i' + 1) := ⟨i - 1, by show _ = _; omega⟩
        have r3 : (0 : Int) < (i : Int) := by omega
        have hi'l : i' < got.length := by have := HI'.out; omega
        obtain ⟨b2, off2, e2, hb2, hc2⟩ := HR5.out.lie i' hi'l
        obtain ⟨⟨rfl, rfl⟩, _⟩ : (b = b2 ∧ off = off2) ∧ True := by simpa using e2
        have k2 := (hB.cell (p := ⟨b, off + i', none⟩) hb).trans hc2
        have hnp : (got[i'], got[i]) ∉ l := by
          have e := HI'.out
          subst e
          exact HNP.out i' hend
        have e3 : (i : Int) - 1 = (i' : Int) := by have := HI'.out; omega
        have c18 := HRK.out wr (chain B5 hB) got[i'] got[i] hnp
        generalize got[i] = x at *
        generalize got[i'] = y at *
        clear hc hc2 hin hi0 hnp e2
        have k3 : wr.cell? ⟨b, off + (i - 1), none⟩ = some (iv y) := by rw [show i - 1 = i' by have := HI'.out; omega]; exact k2
        go_wp2_with (go_at_call 18; refine c18.mono ?_; rintro e w6 ⟨rfl, b6⟩)
        go_roundw
        case rel => exact ⟨i + 1, by go_num, by omega, chain hB b6⟩
        case measure => simp [intOf]; omega
    · have hB6 := chain B5 hB
      have cJ := joinT_any ts H64.out got (fun x hx => by rw [HTL.out]; exact HIN2.out x hx) (by omega) _ _ wr (HS5.out.later hB) (HG5.out.later hB)
      have HJ2 : Hid (∀ W, Below wr.heap.size wr W → Calls Try.prog 19 #[.slice ot ts.length ct, .slice oi is.length ci] W fun e w' => e = .returned (.string (bs (cat ts is))) ∧ Below W.heap.size W w') := fun W b => joinT_any ts H64.out is (fun x hx => by rw [HTL.out]; exact HIN.out x hx) (by omega) _ _ W (HS5.out.later (chain hB b)) (HI5.out.later (chain hB b))
      rw [HCAT.out] at cJ
      generalize bs (cat ts is) = t at *
      have hq : (t.toList == t.toList) = true := by simp
      go_wp2_with (first | (go_at_call 19; refine cJ.mono ?_; rintro e w6 ⟨rfl, b6⟩; have cJ2 := HJ2.out w6 b6; clear cJ) | (go_at_call 19; refine cJ2.mono ?_; rintro e w7 ⟨rfl, b7⟩))
      go_ret
      exact ⟨rfl, chain (chain hB6 b6) b7⟩
theorem walk {l : List Mg} {v : Value} {w : World} (hM : Mgs w v l) {ids : List Int} {vs : Value} (hs : IntsV w vs ids) (w0 : World) (hw0 : w0 = w := by rfl) :
    Calls Try.prog 6 #[v, vs] w0 fun e w' => e = .returned (.bool true) ∧ Below w0.heap.size w0 w' := by
  subst hw0
  have hl : (ids.take 60).length ≤ 60 := by rw [List.length_take]; omega
  rcases errOf_cases l with e | e | e
  · exact bad hM hs 2 2 e (applyE_err e (by omega)) (by omega)
  · exact bad hM hs 130 130 e (applyE_err e (by omega)) (by omega)
  · by_cases ha : AllIn (256 + l.length) (ids.take 60)
    · exact good hM hs e ha
    · exact bad hM hs 0 1 e (by unfold applyE; rw [if_neg (by rw [e]; simp), if_neg (by omega), if_neg ha]) (by omega)
set_option maxRecDepth 100000 in
theorem lifted (os : Os) (started : os.Started) (H : Type) (enc : TypeId × Value → H) :
    ReturnsInHanded {} Try.checked os 6 .any (Rows.mergeKeepsSpec.pre6 enc Try.prog Try.f6 Rows.mergeKeepsRow.domain false) (Rows.mergeKeepsSpec.post enc Try.prog Try.f6 false true false false) := by
  refine returnsInHanded_of_change_sized (C := Try.checked) own started (by kernel_rfl) Try.func6
    (ChangeSpec.witness6 (enc := enc) (C := Try.checked) false ⟨#[], #[.slice none 0 0, .slice none 0 0], []⟩ 8 (by kernel_rfl) (by kernel_rfl) (by kernel_rfl) (by kernel_rfl)) ?_
  intro W base args ds gs before hval0 hW hcnd hsz0 _
  have hsz : (DataW.weightsEach Try.prog (Try.f6.params.toList ++ Rows.mergeKeepsSpec.plain.varTypes Try.prog) (ds ++ gs)).all (· ≤ reachBytes) = true := hsz0
  have hval : ∀ (j : Nat) t v, Try.f6.params[j]? = some t → args[j]? = some v → Value.okWide Try.prog W .any base t v := hval0
  have hW' := hW
  obtain ⟨p, q, hA0, hV, rfl, hfz, hnd⟩ := hW
  have hA : DataW.TrodAll enc Try.prog W 0 (fun _ => true) true Try.f6.params.toList args.toList ds p := hA0
  rw [Try.params6] at hA hval hsz
  obtain ⟨v0, vs0, d0, ds0, p0, q0, hargs, rfl, rfl, h0, r0⟩ := trodAll_cons hA
  obtain ⟨v1, vs1, d1, ds1, p1, q1, rfl, rfl, rfl, h1, r1⟩ := trodAll_cons r0
  obtain ⟨rfl, rfl, rfl⟩ := trodAll_nil r1
  obtain rfl : args = #[v0, v1] := by cases args; simp_all
  obtain ⟨rfl, rfl⟩ := trodVars_none hV
  have k0 := h0
  have lt0 : ∀ x ∈ p0, x.block < W.heap.size := by obtain ⟨m, hm⟩ := k0; exact DataW.trod_lt m _ _ _ hm
  obtain ⟨l0, F0⟩ := mg.open22 (hval 0 22 v0 rfl rfl) h0
  have k1 := h1
  have lt1 : ∀ x ∈ p1, x.block < W.heap.size := by obtain ⟨m, hm⟩ := k1; exact DataW.trod_lt m _ _ _ hm
  obtain ⟨l1, F1⟩ := mg.open30 (hval 1 30 v1 rfl rfl) h1
  clear hA0 hval0
  refine (walk F0 F1 W).mono fun e W' ⟨he, bel⟩ => ?_
  subst he
  exact ⟨_, rfl, _, _, _, [], _, [], hW', trodAll_mk1 (shut_bool Try.underlying4 _), (trodAll_cons_mk (Below.trod laidOut (by kernel_rfl) (of_decide_eq_true (by kernel_rfl)) k0 bel lt0) (trodAll_cons_mk (Below.trod laidOut (by kernel_rfl) (of_decide_eq_true (by kernel_rfl)) k1 bel lt1) trodAll_mk0)), rfl, bel.frame _, fun h => by cases h⟩

theorem over : Rows.mergeKeepsRow.holds Try.pinned (OpenSpec.ofChange Rows.mergeKeepsSpec) :=
  OpenClaim.holds_of_wide 6 Try.f6 rfl rfl rfl rfl rfl rfl rfl ⟨rfl, rfl, rfl, rfl, rfl⟩ rfl rfl rfl rfl rfl (by kernel_rfl) Try.func6 (by kernel_rfl)
    (of_decide_eq_true (by kernel_rfl)) (by unfold Func.isWrapper; first | (rw [if_pos (by decide +kernel)]; kernel_rfl) | (rw [if_neg (by decide +kernel)]; exact ⟨rfl, rfl⟩))
    (fun os started H enc _ => lifted os started H enc)

theorem proved : Rows.MergeKeepsSaid :=
  over
#print axioms proved
end Go.Proofs.Ytciphckjjbinbaa.mergeKeeps
