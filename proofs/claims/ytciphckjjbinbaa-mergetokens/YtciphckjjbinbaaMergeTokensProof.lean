/-
  For every list of merges and every text the law MergeTokens of package fretsawlaw13 returns true (the tokens of any text are those of its bytes), and the arguments read as before
-/
import Derived.Test.YtciphckjjbinbaaMo
import Derived.ProofKit
import Derived.ShutString
namespace Go.Proofs.Ytciphckjjbinbaa.mergeTokens
open Go.ChangeShapes Go.WideShapes Go.ChangeAt Go.RowKit
open Go.ChangeMaps (open_string shut_string)
open mg
set_option linter.unusedVariables false

theorem own : ownKnob Try.prog.godebug = none := by kernel_rfl
theorem laidOut : laidOutB Try.prog = true := by kernel_rfl

theorem tokens_is (l : List Mg) (s : ByteArray) (hs : s.size ≤ 140737488351232) (x : Nat) (y : List Int) (hx : applyE l (idsOf (cutS s)) = x) (hy : applyL l (idsOf (cutS s)) = y) (v : Value) (w : World) (hv : Mgs w v l) : Calls Try.prog 15 #[v, .string s] w fun e w' => ∃ (o : Option Addr) (cap : Nat), e = .returned (.tuple #[.slice o y.length cap, .int .i64 (x : Int)]) ∧ Hid (IntsV w' (.slice o y.length cap) y) ∧ Below w.heap.size w w' := by
  refine (tokens_any l s hs v w hv).mono ?_
  rintro e w' ⟨v', rfl, h, b⟩
  rw [hx]
  rw [hy] at h
  obtain ⟨o, cap, rfl, h2⟩ := id h
  exact ⟨o, cap, rfl, h, b⟩
theorem texts_is (l : List Mg) (x : Nat) (hx : errOf l = x) (v : Value) (w : World) (hv : Mgs w v l) : Calls Try.prog 9 #[v] w fun e w' => ∃ v', e = .returned (.tuple #[v', .int .i64 (x : Int)]) ∧ Below w.heap.size w w' := by
  refine (rtexts_any l v w hv).mono ?_
  rintro e w' ⟨v', rfl, h, b⟩
  rw [hx]
  exact ⟨v', rfl, b⟩
theorem applyL_bad {l : List Mg} {ids : List Int} (h : applyE l ids ≠ 0) : applyL l ids = [] := by unfold applyL; rw [if_neg h]
theorem applyL_ok {l : List Mg} {ids : List Int} (h : applyE l ids = 0) : applyL l ids = app l ids := by unfold applyL; rw [if_pos h]

set_option maxHeartbeats 800000 in
set_option maxRecDepth 100000 in
theorem err_a {l : List Mg} {s : ByteArray} {v : Value} {w : World} (hM : Mgs w v l) (hs : s.size ≤ 140737488351232) (g60 : s.size ≤ 60) (x : Nat) (hx : errOf l = x) (hE : applyE l (idsOf (cutS s)) = x) (h0 : x ≠ 0) :
    Calls Try.prog 5 #[v, .string s] w fun e w' => e = .returned (.bool true) ∧ Below w.heap.size w w' := by
  have hts : s.size ≤ 140737488351232 := by exact hs
  have c15 := tokens_is l s hts x [] hE (applyL_bad (by rw [hE]; exact h0)) v w hM
  have HR : Hid (∀ W, Below w.heap.size w W → Calls Try.prog 9 #[v] W fun e w' => ∃ v', e = .returned (.tuple #[v', .int .i64 (x : Int)]) ∧ Below W.heap.size W w') := fun W b => texts_is l x hx v W (hM.later b)
  obtain ⟨o, cap, rfl, _, _, _⟩ := hM.form
  have g1 : ((x : Int) == 0) = false := beq_eq_false_iff_ne.2 (by omega)
  have g2 : ((x : Int) != 0) = true := by rw [bne, g1]; rfl
  have g3 : ((x : Int) == (x : Int)) = true := beq_self_eq_true _
  clear hM hE hx h0 hts
  go_enter Try.func5, Try.ntmps5
  go_wp2_with (first | (go_at_call 15; refine c15.mono ?_; rintro e w1 ⟨oo, co, rfl, HS1, b1⟩; have c9 := HR.out w1 b1; clear c15) | (go_at_call 9; refine c9.mono ?_; rintro e w2 ⟨v2, rfl, b2⟩; clear c9))
  go_ret
  exact ⟨rfl, chain b1 b2⟩
set_option maxHeartbeats 800000 in
set_option maxRecDepth 100000 in
theorem ok_a {l : List Mg} {s : ByteArray} {v : Value} {w : World} (hM : Mgs w v l) (hs : s.size ≤ 140737488351232) (g60 : s.size ≤ 60) (hx : errOf l = 0) :
    Calls Try.prog 5 #[v, .string s] w fun e w' => e = .returned (.bool true) ∧ Below w.heap.size w w' := by
  have hts : s.size ≤ 140737488351232 := by exact hs
  have hsz : s.size ≤ 60 := by exact g60
  have hE0 : applyE l (idsOf (cutS s)) = 0 := by rw [cutS_id _ (by omega)]; exact applyE_ok hx (by rw [idsOf_len]; omega) (idsOf_in _ _ (by omega))
  have c15 := tokens_is l s hts 0 (app l (idsOf s)) hE0 (by rw [applyL_ok hE0, cutS_id _ (by omega)]) v w hM
  have HR : Hid (∀ W, Below w.heap.size w W → Calls Try.prog 9 #[v] W fun e w' => ∃ v', e = .returned (.tuple #[v', .int .i64 ((0 : Nat) : Int)]) ∧ Below W.heap.size W w') := fun W b => texts_is l 0 hx v W (hM.later b)
  have hl4 := (ok_run hx).1
  have c16 := bytes_any s (by omega)
  have HA : Hid (∀ W v', Below w.heap.size w W → IntsV W v' (idsOf s) → Calls Try.prog 14 #[v, v'] W (MergedOut l (idsOf s) W)) := fun W v' b h => rapply_any l hl4 _ (by rw [idsOf_len]; omega) v _ W (hM.later b) h
  obtain ⟨o, cap, rfl, _, _, _⟩ := hM.form
  clear hM hE0 hx hts
  skip
  go_enter Try.func5, Try.ntmps5
  go_wp2_with (first | (go_at_call 15; refine c15.mono ?_; rintro e w1 ⟨oo, co, rfl, HS1, b1⟩; have c9 := HR.out w1 b1; clear c15) | (go_at_call 9; refine c9.mono ?_; rintro e w2 ⟨v2, rfl, b2⟩; clear c9) | (go_at_call 16; refine (c16 _).mono ?_; rintro e w3 ⟨v3, rfl, s3, b3⟩; have c14 := HA.out w3 v3 (chain (chain b1 b2) b3) s3; have HS3 : Hid (IntsV w3 (.slice oo (app l (idsOf s)).length co) (app l (idsOf s))) := HS1.out.later (chain b2 b3); clear c16) | (go_at_call 14; refine c14.mono ?_; rintro e w4 ⟨v4, rfl, s4, b4⟩; have c13 := ints_same (app l (idsOf s)) _ _ w4 (HS3.out.later b4) s4; clear c14) | (go_at_call 13; refine c13.mono ?_; rintro e w5 ⟨rfl, b5⟩))
  go_ret
  exact ⟨rfl, chain (chain (chain b1 b2) b3) (chain b4 b5)⟩
set_option maxHeartbeats 800000 in
set_option maxRecDepth 100000 in
theorem err_b {l : List Mg} {s : ByteArray} {v : Value} {w : World} (hM : Mgs w v l) (hs : s.size ≤ 140737488351232) (g60 : 60 < s.size) (g4 : s.size ≤ 4096) (x : Nat) (hx : errOf l = x) (hE : applyE l (idsOf (cutS (s.extract 0 60))) = x) (h0 : x ≠ 0) :
    Calls Try.prog 5 #[v, .string s] w fun e w' => e = .returned (.bool true) ∧ Below w.heap.size w w' := by
  have hts : (s.extract 0 60).size ≤ 140737488351232 := by simp; omega
  have c15 := tokens_is l (s.extract 0 60) hts x [] hE (applyL_bad (by rw [hE]; exact h0)) v w hM
  have HR : Hid (∀ W, Below w.heap.size w W → Calls Try.prog 9 #[v] W fun e w' => ∃ v', e = .returned (.tuple #[v', .int .i64 (x : Int)]) ∧ Below W.heap.size W w') := fun W b => texts_is l x hx v W (hM.later b)
  obtain ⟨o, cap, rfl, _, _, _⟩ := hM.form
  have g1 : ((x : Int) == 0) = false := beq_eq_false_iff_ne.2 (by omega)
  have g2 : ((x : Int) != 0) = true := by rw [bne, g1]; rfl
  have g3 : ((x : Int) == (x : Int)) = true := beq_self_eq_true _
  clear hM hE hx h0 hts
  go_enter Try.func5, Try.ntmps5
  go_wp2_with (first | (go_at_call 15; refine c15.mono ?_; rintro e w1 ⟨oo, co, rfl, HS1, b1⟩; have c9 := HR.out w1 b1; clear c15) | (go_at_call 9; refine c9.mono ?_; rintro e w2 ⟨v2, rfl, b2⟩; clear c9))
  go_ret
  exact ⟨rfl, chain b1 b2⟩
set_option maxHeartbeats 800000 in
set_option maxRecDepth 100000 in
theorem ok_b {l : List Mg} {s : ByteArray} {v : Value} {w : World} (hM : Mgs w v l) (hs : s.size ≤ 140737488351232) (g60 : 60 < s.size) (g4 : s.size ≤ 4096) (hx : errOf l = 0) :
    Calls Try.prog 5 #[v, .string s] w fun e w' => e = .returned (.bool true) ∧ Below w.heap.size w w' := by
  have hts : (s.extract 0 60).size ≤ 140737488351232 := by simp; omega
  have hsz : (s.extract 0 60).size ≤ 60 := by simp; omega
  have hE0 : applyE l (idsOf (cutS (s.extract 0 60))) = 0 := by rw [cutS_id _ (by omega)]; exact applyE_ok hx (by rw [idsOf_len]; omega) (idsOf_in _ _ (by omega))
  have c15 := tokens_is l (s.extract 0 60) hts 0 (app l (idsOf (s.extract 0 60))) hE0 (by rw [applyL_ok hE0, cutS_id _ (by omega)]) v w hM
  have HR : Hid (∀ W, Below w.heap.size w W → Calls Try.prog 9 #[v] W fun e w' => ∃ v', e = .returned (.tuple #[v', .int .i64 ((0 : Nat) : Int)]) ∧ Below W.heap.size W w') := fun W b => texts_is l 0 hx v W (hM.later b)
  have hl4 := (ok_run hx).1
  have c16 := bytes_any (s.extract 0 60) (by omega)
  have HA : Hid (∀ W v', Below w.heap.size w W → IntsV W v' (idsOf (s.extract 0 60)) → Calls Try.prog 14 #[v, v'] W (MergedOut l (idsOf (s.extract 0 60)) W)) := fun W v' b h => rapply_any l hl4 _ (by rw [idsOf_len]; omega) v _ W (hM.later b) h
  obtain ⟨o, cap, rfl, _, _, _⟩ := hM.form
  clear hM hE0 hx hts
  skip
  go_enter Try.func5, Try.ntmps5
  go_wp2_with (first | (go_at_call 15; refine c15.mono ?_; rintro e w1 ⟨oo, co, rfl, HS1, b1⟩; have c9 := HR.out w1 b1; clear c15) | (go_at_call 9; refine c9.mono ?_; rintro e w2 ⟨v2, rfl, b2⟩; clear c9) | (go_at_call 16; refine (c16 _).mono ?_; rintro e w3 ⟨v3, rfl, s3, b3⟩; have c14 := HA.out w3 v3 (chain (chain b1 b2) b3) s3; have HS3 : Hid (IntsV w3 (.slice oo (app l (idsOf (s.extract 0 60))).length co) (app l (idsOf (s.extract 0 60)))) := HS1.out.later (chain b2 b3); clear c16) | (go_at_call 14; refine c14.mono ?_; rintro e w4 ⟨v4, rfl, s4, b4⟩; have c13 := ints_same (app l (idsOf (s.extract 0 60))) _ _ w4 (HS3.out.later b4) s4; clear c14) | (go_at_call 13; refine c13.mono ?_; rintro e w5 ⟨rfl, b5⟩))
  go_ret
  exact ⟨rfl, chain (chain (chain b1 b2) b3) (chain b4 b5)⟩
set_option maxHeartbeats 800000 in
set_option maxRecDepth 100000 in
theorem err_c {l : List Mg} {s : ByteArray} {v : Value} {w : World} (hM : Mgs w v l) (hs : s.size ≤ 140737488351232) (g4 : 4096 < s.size) (x : Nat) (hx : errOf l = x) (hE : applyE l (idsOf (cutS s)) = x) (h0 : x ≠ 0) :
    Calls Try.prog 5 #[v, .string s] w fun e w' => e = .returned (.bool true) ∧ Below w.heap.size w w' := by
  have hts : s.size ≤ 140737488351232 := by exact hs
  have c15 := tokens_is l s hts x [] hE (applyL_bad (by rw [hE]; exact h0)) v w hM
  have HR : Hid (∀ W, Below w.heap.size w W → Calls Try.prog 9 #[v] W fun e w' => ∃ v', e = .returned (.tuple #[v', .int .i64 (x : Int)]) ∧ Below W.heap.size W w') := fun W b => texts_is l x hx v W (hM.later b)
  obtain ⟨o, cap, rfl, _, _, _⟩ := hM.form
  have g1 : ((x : Int) == 0) = false := beq_eq_false_iff_ne.2 (by omega)
  have g2 : ((x : Int) != 0) = true := by rw [bne, g1]; rfl
  have g3 : ((x : Int) == (x : Int)) = true := beq_self_eq_true _
  clear hM hE hx h0 hts
  go_enter Try.func5, Try.ntmps5
  go_wp2_with (first | (go_at_call 15; refine c15.mono ?_; rintro e w1 ⟨oo, co, rfl, HS1, b1⟩; have c9 := HR.out w1 b1; clear c15) | (go_at_call 9; refine c9.mono ?_; rintro e w2 ⟨v2, rfl, b2⟩; clear c9))
  go_ret
  exact ⟨rfl, chain b1 b2⟩
set_option maxHeartbeats 800000 in
set_option maxRecDepth 100000 in
theorem long_c {l : List Mg} {s : ByteArray} {v : Value} {w : World} (hM : Mgs w v l) (hs : s.size ≤ 140737488351232) (g4 : 4096 < s.size) (hx : errOf l = 0) (hE : applyE l (idsOf (cutS s)) = 2) :
    Calls Try.prog 5 #[v, .string s] w fun e w' => e = .returned (.bool true) ∧ Below w.heap.size w w' := by
  have hts : s.size ≤ 140737488351232 := by exact hs
  have c15 := tokens_is l s hts 2 [] hE (applyL_bad (by rw [hE]; omega)) v w hM
  have HR : Hid (∀ W, Below w.heap.size w W → Calls Try.prog 9 #[v] W fun e w' => ∃ v', e = .returned (.tuple #[v', .int .i64 ((0 : Nat) : Int)]) ∧ Below W.heap.size W w') := fun W b => texts_is l 0 hx v W (hM.later b)
  obtain ⟨o, cap, rfl, _, _, _⟩ := hM.form
  clear hM hE hx hts
  go_enter Try.func5, Try.ntmps5
  go_wp2_with (first | (go_at_call 15; refine c15.mono ?_; rintro e w1 ⟨oo, co, rfl, HS1, b1⟩; have c9 := HR.out w1 b1; clear c15) | (go_at_call 9; refine c9.mono ?_; rintro e w2 ⟨v2, rfl, b2⟩; clear c9))
  go_ret
  exact ⟨rfl, chain b1 b2⟩
theorem walk {l : List Mg} {v : Value} {w : World} (hM : Mgs w v l) {s : ByteArray} (hs : s.size ≤ 140737488351232) (w0 : World) (hw0 : w0 = w := by rfl) :
    Calls Try.prog 5 #[v, .string s] w0 fun e w' => e = .returned (.bool true) ∧ Below w0.heap.size w0 w' := by
  subst hw0
  by_cases h1 : s.size ≤ 60
  · rcases errOf_cases l with e | e | e
    · exact err_a hM hs h1 2 e (applyE_err e (by omega)) (by omega)
    · exact err_a hM hs h1 130 e (applyE_err e (by omega)) (by omega)
    · exact ok_a hM hs h1 e
  · by_cases h2 : s.size ≤ 4096
    · rcases errOf_cases l with e | e | e
      · exact err_b hM hs (by omega) h2 2 e (applyE_err e (by omega)) (by omega)
      · exact err_b hM hs (by omega) h2 130 e (applyE_err e (by omega)) (by omega)
      · exact ok_b hM hs (by omega) h2 e
    · rcases errOf_cases l with e | e | e
      · exact err_c hM hs (by omega) 2 e (applyE_err e (by omega)) (by omega)
      · exact err_c hM hs (by omega) 130 e (applyE_err e (by omega)) (by omega)
      · exact long_c hM hs (by omega) e (applyE_long e (by rw [idsOf_len, cutS_size]; omega))

set_option maxRecDepth 100000 in
theorem lifted (os : Os) (started : os.Started) (H : Type) (enc : TypeId × Value → H) :
    ReturnsInHanded {} Try.checked os 5 .any (Rows.mergeTokensSpec.pre6 enc Try.prog Try.f5 Rows.mergeTokensRow.domain false) (Rows.mergeTokensSpec.post enc Try.prog Try.f5 false true false false) := by
  refine returnsInHanded_of_change_sized (C := Try.checked) own started (by kernel_rfl) Try.func5
    (ChangeSpec.witness6 (enc := enc) (C := Try.checked) false ⟨#[], #[.slice none 0 0, .string ByteArray.empty], []⟩ 8 (by kernel_rfl) (by kernel_rfl) (by kernel_rfl) (by kernel_rfl)) ?_
  intro W base args ds gs before hval0 hW hcnd hsz0 _
  have hsz : (DataW.weightsEach Try.prog (Try.f5.params.toList ++ Rows.mergeTokensSpec.plain.varTypes Try.prog) (ds ++ gs)).all (· ≤ reachBytes) = true := hsz0
  have hval : ∀ (j : Nat) t v, Try.f5.params[j]? = some t → args[j]? = some v → Value.okWide Try.prog W .any base t v := hval0
  have hW' := hW
  obtain ⟨p, q, hA0, hV, rfl, hfz, hnd⟩ := hW
  have hA : DataW.TrodAll enc Try.prog W 0 (fun _ => true) true Try.f5.params.toList args.toList ds p := hA0
  rw [Try.params5] at hA hval hsz
  obtain ⟨v0, vs0, d0, ds0, p0, q0, hargs, rfl, rfl, h0, r0⟩ := trodAll_cons hA
  obtain ⟨v1, vs1, d1, ds1, p1, q1, rfl, rfl, rfl, h1, r1⟩ := trodAll_cons r0
  obtain ⟨rfl, rfl, rfl⟩ := trodAll_nil r1
  obtain rfl : args = #[v0, v1] := by cases args; simp_all
  obtain ⟨rfl, rfl⟩ := trodVars_none hV
  have k0 := h0
  have lt0 : ∀ x ∈ p0, x.block < W.heap.size := by obtain ⟨m, hm⟩ := k0; exact DataW.trod_lt m _ _ _ hm
  obtain ⟨l0, F0⟩ := mg.open22 (hval 0 22 v0 rfl rfl) h0
  obtain ⟨a1, rfl, rfl, rfl, w1⟩ := open_string Try.underlying9 (hval 1 9 v1 rfl rfl) h1
  have F1 : a1.size ≤ 140737488351232 := by
    have := sized_string hsz (j := 1) (t := 9) rfl rfl
    simpa [reachBytes] using this
  clear hA0 hval0
  refine (walk F0 F1 W).mono fun e W' ⟨he, bel⟩ => ?_
  subst he
  exact ⟨_, rfl, _, _, _, [], _, [], hW', trodAll_mk1 (shut_bool Try.underlying4 _), (trodAll_cons_mk (Below.trod laidOut (by kernel_rfl) (of_decide_eq_true (by kernel_rfl)) k0 bel lt0) (trodAll_cons_mk (shut_string Try.underlying9 w1) trodAll_mk0)), rfl, bel.frame _, fun h => by cases h⟩

theorem over : Rows.mergeTokensRow.holds Try.pinned (OpenSpec.ofChange Rows.mergeTokensSpec) :=
  OpenClaim.holds_of_wide 5 Try.f5 rfl rfl rfl rfl rfl rfl rfl ⟨rfl, rfl, rfl, rfl, rfl⟩ rfl rfl rfl rfl rfl (by kernel_rfl) Try.func5 (by kernel_rfl)
    (of_decide_eq_true (by kernel_rfl)) (by unfold Func.isWrapper; first | (rw [if_pos (by decide +kernel)]; kernel_rfl) | (rw [if_neg (by decide +kernel)]; exact ⟨rfl, rfl⟩))
    (fun os started H enc _ => lifted os started H enc)

theorem proved : Rows.MergeTokensSaid :=
  over
#print axioms proved
end Go.Proofs.Ytciphckjjbinbaa.mergeTokens
