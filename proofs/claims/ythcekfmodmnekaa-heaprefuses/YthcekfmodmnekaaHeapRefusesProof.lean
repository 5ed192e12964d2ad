/-
  For every list of merges and number the law HeapRefuses of package fretsawlaw14 returns true (a nil engine, and texts that are too long, are refused; the cost is the one that the document says), and the arguments read as before
-/
import Derived.Test.YthcekfmodmnekaaGd
import Derived.Test.YthcekfmodmnekaaMg
import Derived.ProofKit
import Derived.ShutString
namespace Go.Proofs.Ythcekfmodmnekaa.heapRefuses
open Go.ChangeShapes Go.WideShapes Go.ChangeAt Go.RowKit
open Go.ChangeMaps (open_string shut_string)
open mg (IntsV RowV Row In iv below_alloc chain Mgs Mg)
open hp
set_option linter.unusedVariables false

theorem own : ownKnob Try.prog.godebug = none := by kernel_rfl
theorem laidOut : laidOutB Try.prog = true := by kernel_rfl

set_option maxHeartbeats 2000000 in
set_option maxRecDepth 100000 in
theorem walk_neg_bad {l : List Mg} {v : Value} {w : World} (hM : Mgs w v l) (n : Int) (hn : n < 0) (hE : newE l [] ≠ 0) :
    Calls Try.prog 6 #[v, iv n] w fun e w' => e = .returned (.bool true) ∧ Below w.heap.size w w' := by
  have c8 := new_any l [] v (.slice none 0 0) w hM (RowV.nil w)
  obtain ⟨o, cap, rfl, -⟩ := hM.form
  have cn := tokens_nil ⟨#[97]⟩ w
  have cc := cost_any n w
  rw [show costOf n = 0 by unfold costOf; rw [if_pos (by omega)]] at cc
  have HE := (show Hid (newE l [] ≠ 0) from hE)
  have hle := (show newE l [] ≤ 1000 from by unfold newE; rcases mg.errOf_cases l with h | h | h <;> rw [h] <;> simp <;> split <;> omega)
  clear hM hE
  go_enter Try.func6, Try.ntmps6
  go_wp2_with (first | (go_at_call 12; refine cn.mono ?_; rintro e w' ⟨rfl, h⟩; obtain rfl := h.symm) | (go_at_call 17; refine cc.mono ?_; rintro e w' ⟨rfl, h⟩; obtain rfl := h.symm))
  go_at_call 8
  refine c8.mono ?_
  rintro e w1 ⟨v1, rfl, b1, hh⟩
  obtain ⟨_, rfl⟩ := hh.resolve_right (fun q => HE.out q.1)
  have hne : ((newE l [] : Int) != 0) = true := by simpa using HE.out
  clear hh c8 cn cc
  go_wp2_with (fail)
  go_ret
  exact ⟨rfl, b1⟩

set_option maxHeartbeats 2000000 in
set_option maxRecDepth 100000 in
theorem walk_neg_ok {l : List Mg} {v : Value} {w : World} (hM : Mgs w v l) (n : Int) (hn : n < 0) (hE : newE l [] = 0) :
    Calls Try.prog 6 #[v, iv n] w fun e w' => e = .returned (.bool true) ∧ Below w.heap.size w w' := by
  have c8 := new_any l [] v (.slice none 0 0) w hM (RowV.nil w)
  obtain ⟨o, cap, rfl, -⟩ := hM.form
  have cn := tokens_nil ⟨#[97]⟩ w
  have cc := cost_any n w
  rw [show costOf n = 0 by unfold costOf; rw [if_pos (by omega)]] at cc
  have HE := (show Hid (newE l [] = 0) from hE)
  have hle := (show newE l [] ≤ 1000 from by unfold newE; rcases mg.errOf_cases l with h | h | h <;> rw [h] <;> simp <;> split <;> omega)
  clear hM hE
  go_enter Try.func6, Try.ntmps6
  go_wp2_with (first | (go_at_call 12; refine cn.mono ?_; rintro e w' ⟨rfl, h⟩; obtain rfl := h.symm) | (go_at_call 17; refine cc.mono ?_; rintro e w' ⟨rfl, h⟩; obtain rfl := h.symm))
  go_at_call 8
  refine c8.mono ?_
  rintro e w1 ⟨v1, rfl, b1, hh⟩
  obtain ⟨h0, eb, mb, rfl, -, -, -, -⟩ := hh.resolve_left (fun q => q.1 HE.out)
  clear hh
  rw [h0]
  obtain ⟨w2, vz, sz, z1, z2, z3, z4⟩ := zeros w1
  have c12 := tokens_long sz (by omega) ⟨eb, 0, none⟩ w2
  clear c8 cn cc h0
  go_wp2_with (go_at_call 12; refine c12.mono ?_; rintro e w' ⟨rfl, h⟩; obtain rfl := h.symm)
  go_ret
  exact ⟨rfl, chain b1 z4⟩

set_option maxHeartbeats 2000000 in
set_option maxRecDepth 100000 in
theorem walk_big_bad {l : List Mg} {v : Value} {w : World} (hM : Mgs w v l) (n : Int) (hn : 262144 < n) (hE : newE l [] ≠ 0) :
    Calls Try.prog 6 #[v, iv n] w fun e w' => e = .returned (.bool true) ∧ Below w.heap.size w w' := by
  have c8 := new_any l [] v (.slice none 0 0) w hM (RowV.nil w)
  obtain ⟨o, cap, rfl, -⟩ := hM.form
  have cn := tokens_nil ⟨#[97]⟩ w
  have cc := cost_any n w
  rw [show costOf n = 0 by unfold costOf; rw [if_pos (by omega)]] at cc
  have HE := (show Hid (newE l [] ≠ 0) from hE)
  have hle := (show newE l [] ≤ 1000 from by unfold newE; rcases mg.errOf_cases l with h | h | h <;> rw [h] <;> simp <;> split <;> omega)
  clear hM hE
  go_enter Try.func6, Try.ntmps6
  go_wp2_with (first | (go_at_call 12; refine cn.mono ?_; rintro e w' ⟨rfl, h⟩; obtain rfl := h.symm) | (go_at_call 17; refine cc.mono ?_; rintro e w' ⟨rfl, h⟩; obtain rfl := h.symm))
  go_at_call 8
  refine c8.mono ?_
  rintro e w1 ⟨v1, rfl, b1, hh⟩
  obtain ⟨_, rfl⟩ := hh.resolve_right (fun q => HE.out q.1)
  have hne : ((newE l [] : Int) != 0) = true := by simpa using HE.out
  clear hh c8 cn cc
  go_wp2_with (fail)
  go_ret
  exact ⟨rfl, b1⟩

set_option maxHeartbeats 2000000 in
set_option maxRecDepth 100000 in
theorem walk_big_ok {l : List Mg} {v : Value} {w : World} (hM : Mgs w v l) (n : Int) (hn : 262144 < n) (hE : newE l [] = 0) :
    Calls Try.prog 6 #[v, iv n] w fun e w' => e = .returned (.bool true) ∧ Below w.heap.size w w' := by
  have c8 := new_any l [] v (.slice none 0 0) w hM (RowV.nil w)
  obtain ⟨o, cap, rfl, -⟩ := hM.form
  have cn := tokens_nil ⟨#[97]⟩ w
  have cc := cost_any n w
  rw [show costOf n = 0 by unfold costOf; rw [if_pos (by omega)]] at cc
  have HE := (show Hid (newE l [] = 0) from hE)
  have hle := (show newE l [] ≤ 1000 from by unfold newE; rcases mg.errOf_cases l with h | h | h <;> rw [h] <;> simp <;> split <;> omega)
  clear hM hE
  go_enter Try.func6, Try.ntmps6
  go_wp2_with (first | (go_at_call 12; refine cn.mono ?_; rintro e w' ⟨rfl, h⟩; obtain rfl := h.symm) | (go_at_call 17; refine cc.mono ?_; rintro e w' ⟨rfl, h⟩; obtain rfl := h.symm))
  go_at_call 8
  refine c8.mono ?_
  rintro e w1 ⟨v1, rfl, b1, hh⟩
  obtain ⟨h0, eb, mb, rfl, -, -, -, -⟩ := hh.resolve_left (fun q => q.1 HE.out)
  clear hh
  rw [h0]
  obtain ⟨w2, vz, sz, z1, z2, z3, z4⟩ := zeros w1
  have c12 := tokens_long sz (by omega) ⟨eb, 0, none⟩ w2
  clear c8 cn cc h0
  go_wp2_with (go_at_call 12; refine c12.mono ?_; rintro e w' ⟨rfl, h⟩; obtain rfl := h.symm)
  go_ret
  exact ⟨rfl, chain b1 z4⟩

set_option maxHeartbeats 2000000 in
set_option maxRecDepth 100000 in
theorem walk_mid_bad {l : List Mg} {v : Value} {w : World} (hM : Mgs w v l) (n : Int) (hn : 0 ≤ n) (hn2 : n ≤ 262144) (hE : newE l [] ≠ 0) :
    Calls Try.prog 6 #[v, iv n] w fun e w' => e = .returned (.bool true) ∧ Below w.heap.size w w' := by
  have c8 := new_any l [] v (.slice none 0 0) w hM (RowV.nil w)
  obtain ⟨o, cap, rfl, -⟩ := hM.form
  have cn := tokens_nil ⟨#[97]⟩ w
  have cc := cost_any n w
  rw [show costOf n = 1 + 4 * n by unfold costOf; rw [if_neg (by omega)]] at cc
  have HE := (show Hid (newE l [] ≠ 0) from hE)
  have hle := (show newE l [] ≤ 1000 from by unfold newE; rcases mg.errOf_cases l with h | h | h <;> rw [h] <;> simp <;> split <;> omega)
  clear hM hE
  go_enter Try.func6, Try.ntmps6
  go_wp2_with (first | (go_at_call 12; refine cn.mono ?_; rintro e w' ⟨rfl, h⟩; obtain rfl := h.symm) | (go_at_call 17; refine cc.mono ?_; rintro e w' ⟨rfl, h⟩; obtain rfl := h.symm))
  go_at_call 8
  refine c8.mono ?_
  rintro e w1 ⟨v1, rfl, b1, hh⟩
  obtain ⟨_, rfl⟩ := hh.resolve_right (fun q => HE.out q.1)
  have hne : ((newE l [] : Int) != 0) = true := by simpa using HE.out
  clear hh c8 cn cc
  go_wp2_with (fail)
  go_ret
  exact ⟨rfl, b1⟩

set_option maxHeartbeats 2000000 in
set_option maxRecDepth 100000 in
theorem walk_mid_ok {l : List Mg} {v : Value} {w : World} (hM : Mgs w v l) (n : Int) (hn : 0 ≤ n) (hn2 : n ≤ 262144) (hE : newE l [] = 0) :
    Calls Try.prog 6 #[v, iv n] w fun e w' => e = .returned (.bool true) ∧ Below w.heap.size w w' := by
  have c8 := new_any l [] v (.slice none 0 0) w hM (RowV.nil w)
  obtain ⟨o, cap, rfl, -⟩ := hM.form
  have cn := tokens_nil ⟨#[97]⟩ w
  have cc := cost_any n w
  rw [show costOf n = 1 + 4 * n by unfold costOf; rw [if_neg (by omega)]] at cc
  have HE := (show Hid (newE l [] = 0) from hE)
  have hle := (show newE l [] ≤ 1000 from by unfold newE; rcases mg.errOf_cases l with h | h | h <;> rw [h] <;> simp <;> split <;> omega)
  clear hM hE
  go_enter Try.func6, Try.ntmps6
  go_wp2_with (first | (go_at_call 12; refine cn.mono ?_; rintro e w' ⟨rfl, h⟩; obtain rfl := h.symm) | (go_at_call 17; refine cc.mono ?_; rintro e w' ⟨rfl, h⟩; obtain rfl := h.symm))
  go_at_call 8
  refine c8.mono ?_
  rintro e w1 ⟨v1, rfl, b1, hh⟩
  obtain ⟨h0, eb, mb, rfl, -, -, -, -⟩ := hh.resolve_left (fun q => q.1 HE.out)
  clear hh
  rw [h0]
  obtain ⟨w2, vz, sz, z1, z2, z3, z4⟩ := zeros w1
  have c12 := tokens_long sz (by omega) ⟨eb, 0, none⟩ w2
  clear c8 cn cc h0
  go_wp2_with (go_at_call 12; refine c12.mono ?_; rintro e w' ⟨rfl, h⟩; obtain rfl := h.symm)
  go_ret
  exact ⟨rfl, chain b1 z4⟩

theorem walk {l : List Mg} {v : Value} {w : World} (hM : Mgs w v l) {n : Int} (hn : (Lit.int IntKind.i64 n).wf = true) (w0 : World) (hw0 : w0 = w := by rfl) :
    Calls Try.prog 6 #[v, .int .i64 n] w0 fun e w' => e = .returned (.bool true) ∧ Below w0.heap.size w0 w' := by
  subst hw0
  by_cases hE : newE l [] = 0
  · by_cases h1 : n < 0
    · exact walk_neg_ok hM n h1 hE
    · by_cases h2 : 262144 < n
      · exact walk_big_ok hM n h2 hE
      · exact walk_mid_ok hM n (by omega) (by omega) hE
  · by_cases h1 : n < 0
    · exact walk_neg_bad hM n h1 hE
    · by_cases h2 : 262144 < n
      · exact walk_big_bad hM n h2 hE
      · exact walk_mid_bad hM n (by omega) (by omega) hE

set_option maxRecDepth 100000 in
theorem lifted (os : Os) (started : os.Started) (H : Type) (enc : TypeId × Value → H) :
    ReturnsInHanded {} Try.checked os 6 .any (Rows.heapRefusesSpec.pre6 enc Try.prog Try.f6 Rows.heapRefusesRow.domain false) (Rows.heapRefusesSpec.post enc Try.prog Try.f6 false true false false) := by
  refine returnsInHanded_of_change_sized (C := Try.checked) own started (by kernel_rfl) Try.func6
    (ChangeSpec.witness6 (enc := enc) (C := Try.checked) false ⟨#[], #[.slice none 0 0, .int .i64 0], []⟩ 8 (by kernel_rfl) (by kernel_rfl) (by kernel_rfl) (by kernel_rfl)) ?_
  intro W base args ds gs before hval0 hW hcnd hsz0 _
  have hsz : (DataW.weightsEach Try.prog (Try.f6.params.toList ++ Rows.heapRefusesSpec.plain.varTypes Try.prog) (ds ++ gs)).all (· ≤ reachBytes) = true := hsz0
  have hval : ∀ (j : Nat) t v, Try.f6.params[j]? = some t → args[j]? = some v → Value.okWide Try.prog W .any base t v := hval0
  have hW' := hW
  obtain ⟨p, q, hA0, hV, rfl, hfz, hnd⟩ := hW
  have hA : DataW.TrodAll enc Try.prog W 0 (fun _ => true) true Try.f6.params.toList args.toList ds p := hA0
  rw [Try.params6] at hA hval hsz
  obtain ⟨v0, vs0, d0, ds0, p0, q0, hargs, rfl, rfl, h0, r0⟩ := trodAll_cons hA
  obtain ⟨v1, vs1, d1, ds1, p1, q1, rfl, rfl, rfl, h1, r1⟩ := trodAll_cons r0
  obtain ⟨rfl, rfl, rfl⟩ := trodAll_nil r1
  obtain rfl : args = #[v0, v1] := by cases args; simp_all
  obtain ⟨rfl, rfl⟩ := trodVars_none hV
  have k0 := h0
  have lt0 : ∀ x ∈ p0, x.block < W.heap.size := by obtain ⟨m, hm⟩ := k0; exact DataW.trod_lt m _ _ _ hm
  obtain ⟨l0, F0⟩ := mg.open22 (hval 0 22 v0 rfl rfl) h0
  obtain ⟨a1, rfl, rfl, rfl, w1⟩ := open_int Try.underlying3 (hval 1 3 v1 rfl rfl) h1
  clear hA0 hval0
  refine (walk F0 w1 W).mono fun e W' ⟨he, bel⟩ => ?_
  subst he
  exact ⟨_, rfl, _, _, _, [], _, [], hW', trodAll_mk1 (shut_bool Try.underlying4 _), (trodAll_cons_mk (Below.trod laidOut (by kernel_rfl) (of_decide_eq_true (by kernel_rfl)) k0 bel lt0) (trodAll_cons_mk (shut_int Try.underlying3 w1) trodAll_mk0)), rfl, bel.frame _, fun h => by cases h⟩

theorem over : Rows.heapRefusesRow.holds Try.pinned (OpenSpec.ofChange Rows.heapRefusesSpec) :=
  OpenClaim.holds_of_wide 6 Try.f6 rfl rfl rfl rfl rfl rfl rfl ⟨rfl, rfl, rfl, rfl, rfl⟩ rfl rfl rfl rfl rfl (by kernel_rfl) Try.func6 (by kernel_rfl)
    (of_decide_eq_true (by kernel_rfl)) (by unfold Func.isWrapper; first | (rw [if_pos (by decide +kernel)]; kernel_rfl) | (rw [if_neg (by decide +kernel)]; exact ⟨rfl, rfl⟩))
    (fun os started H enc _ => lifted os started H enc)

theorem proved : Rows.HeapRefusesSaid :=
  over
#print axioms proved
end Go.Proofs.Ythcekfmodmnekaa.heapRefuses
