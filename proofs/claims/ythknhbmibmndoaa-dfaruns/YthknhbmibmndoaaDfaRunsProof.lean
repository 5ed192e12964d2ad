/-
  For every dfa, every text and every place the law DfaRuns of package fretsawlaw08 returns true (dfa.Right, dfa.Ends and dfa.Longest tell what the document says), and the arguments read as before. No condition.
-/
import Derived.Test.YthknhbmibmndoaaDk
import Derived.Test.YthknhbmibmndoaaDl
import Derived.Test.YthknhbmibmndoaaRg
import Derived.WalkKit
import Derived.ProofKit
import Derived.OpenShut
import Derived.ChangeOld
import Derived.SizedLaws
import Derived.ShutString
import Derived.Deep.RegionHeld3
import Derived.Below
namespace Go.Proofs.Ythknhbmibmndoaa.dfaRuns
open Go.ChangeShapes Go.WideShapes Go.ChangeAt Go.RowKit
open Go.ChangeMaps (open_string shut_string)
set_option linter.unusedVariables false

theorem own : ownKnob Try.prog.godebug = none := by kernel_rfl
theorem laidOut : laidOutB Try.prog = true := by kernel_rfl

/-- worlds behind the one in which the dfa was put into its cell -/
def Kept (w1 : World) (W : World) : Prop := Below w1.heap.size w1 W
theorem Kept.drew {w1 W : World} (h : Kept w1 W) : Kept w1 W.drew := Below.drew h
theorem range_of {w1 : World} {g : Nat} {cs : Array Value} (b : df.DBox w1 g cs) {W : World} (h : Kept w1 W) : W.rangeAt g 0 cs.toList := by
  intro j v hv
  have := (b.later h)
  rw [Nat.zero_add, Lib.cell_of_heap this]
  simpa using hv

set_option maxHeartbeats 4000000 in
set_option maxRecDepth 100000 in
theorem walk_right {d : df.Dfa} {cs : Array Value} {o ao : Option Addr} {cap acap : Nat} {w0 : World} (hD : df.DAt (df.In w0) w0 d cs o cap ao acap) {s : ByteArray} (hs : s.size ≤ 140737488351232) {at' : Int} (hr : df.right d = false) :
    Calls Try.prog 6 #[.agg cs, .string s, .int .i64 at'] w0 fun e w' => e = .returned (.bool true) ∧ Below w0.heap.size w0 w' := by
  have h18 := df.short_any 18 rfl s 2000 (by omega) (by omega)
  have hcut := df.cut_size s 2000
  generalize df.cut s 2000 = u at *
  have hw8 := hD.size
  have b0 := df.dbox_new w0 cs
  have HB := df.below_alloc w0 (.cells cs 37)
  have D1 := hD.later HB
  obtain ⟨w1, hw1⟩ : ∃ w1, w1 = w0.alloc (.cells cs 37) := ⟨_, rfl⟩
  rw [← hw1] at b0 HB D1
  have h19 : ∀ W, Kept w1 W → Calls Try.prog 19 #[.agg cs] W fun e w' => e = .returned (.bool (df.right d)) ∧ Kept w1 w' := fun W h => (df.right_any d _ rfl cs o cap ao acap W (D1.later h)).mono fun e w' ⟨h1, h2⟩ => ⟨h1, df.chain h h2⟩
  have h20 : ∀ W, Kept w1 W → Calls Try.prog 20 #[.agg cs] W fun e w' => e = .returned (.bool (df.right d)) ∧ Kept w1 w' ∧ Below W.heap.size W w' := fun W h => (df.rright_any d _ rfl cs o cap ao acap W (D1.later h)).mono fun e w' ⟨h1, h2⟩ => ⟨h1, df.chain h h2, h2⟩
  have h21 : ∀ W, Kept w1 W → Calls Try.prog 21 #[.agg cs, .string u, .int .i64 at'] W fun e w' => ∃ vo vc, e = .returned (.slice vo (df.endsOf d u at').length vc) ∧ df.Row (df.In w') w' df.iv vo vc (df.endsOf d u at') ∧ Kept w1 w' := fun W h => (df.ends_any d u at' (by omega) cs o cap ao acap W (D1.later h)).mono fun e w' ⟨v, h1, ⟨vo, vc, h2, h3⟩, h4⟩ => ⟨vo, vc, by rw [h1, h2], h3, df.chain h h4⟩
  have h22 : ∀ W, Kept w1 W → Calls Try.prog 22 #[.agg cs, .string u, .int .i64 at'] W fun e w' => e = .returned (.int .i64 ((df.endsOf d u at').getLast?.getD (-1))) ∧ Kept w1 w' ∧ Below W.heap.size W w' := fun W h => (df.longest_any d u at' (by omega) cs o cap ao acap W (D1.later h)).mono fun e w' ⟨h1, h2⟩ => ⟨h1, df.chain h h2, h2⟩
  have k0 : Kept w1 w1 := Below.refl _ _
  rw [hr] at h19 h20
  have he : df.endsOf d u at' = [] := by unfold df.endsOf; rw [if_neg (by rw [hr]; simp)]
  rw [he] at h21 h22
  go_enter Try.func6, Try.ntmps6
  go_wp2_with (go_at_call 18; (refine (h18 _).mono ?_); rintro e w2 ⟨rfl, hw⟩; obtain rfl := hw.symm)
  rw [← hw1]
  refine wp_region_held (S := Kept w1) (by kernel_rfl) ?_
  refine df.take_op (i := 0) 11 rfl rfl (df.yields_load rfl (.tmp 3) rfl w0.heap.size rfl cs hw8 (fun W h => b0.later h)) (by kernel_rfl) (by kernel_rfl) (by kernel_rfl) (fun _ _ _ h => h) k0.drew ?_
  simp only [Act.put, List.setIfInBounds_toArray, List.set_cons_zero, List.set_cons_succ]
  refine df.take_op (i := 2) 13 rfl rfl (df.yields_load rfl (.tmp 3) rfl w0.heap.size rfl cs hw8 (fun W h => b0.later h)) (by kernel_rfl) (by kernel_rfl) (by kernel_rfl) (fun _ _ _ h => h) k0.drew ?_
  simp only [Act.put, List.setIfInBounds_toArray, List.set_cons_zero, List.set_cons_succ]
  refine df.call_op 1 12 (f := 19) (args := #[.agg cs]) (by kernel_rfl) rfl rfl rfl (by kernel_rfl) ((h19 _ k0.drew).mono ?_)
  rintro e w3 ⟨rfl, k3⟩
  refine ⟨_, rfl, k3, ?_⟩
  simp only [Act.put, List.setIfInBounds_toArray, List.set_cons_zero, List.set_cons_succ]
  refine df.call_op 3 14 (f := 20) (args := #[.agg cs]) (by kernel_rfl) rfl rfl rfl (by kernel_rfl) ((h20 _ k3).mono ?_)
  rintro e w4 ⟨rfl, k4, _⟩
  refine ⟨_, rfl, k4, ?_⟩
  simp only [Act.put, List.setIfInBounds_toArray, List.set_cons_zero, List.set_cons_succ]
  refine df.take_op (i := 4) 15 (v := .bool false) rfl rfl (.inl ⟨rfl, fun w _ => by kernel_rfl⟩) (by kernel_rfl) (by kernel_rfl) (by kernel_rfl) (fun _ _ _ h => h) k4 ?_
  simp only [Act.put, List.setIfInBounds_toArray, List.set_cons_zero, List.set_cons_succ]
  refine df.done_op (by kernel_rfl) ?_
  go_wp2_with (fail)
  refine wp_region_held (S := Kept w1) (by kernel_rfl) ?_
  refine df.take_op (i := 0) 16 rfl rfl (df.yields_load rfl (.tmp 3) rfl w0.heap.size rfl cs hw8 (fun W h => b0.later h)) (by kernel_rfl) (by kernel_rfl) (by kernel_rfl) (fun _ _ _ h => h) k4.drew ?_
  simp only [Act.put, List.setIfInBounds_toArray, List.set_cons_zero, List.set_cons_succ]
  refine df.take_op (i := 1) 17 rfl rfl (df.yields_move rfl (.tmp 1) rfl) (by kernel_rfl) (by kernel_rfl) (by kernel_rfl) (fun _ _ _ h => h) k4.drew ?_
  simp only [Act.put, List.setIfInBounds_toArray, List.set_cons_zero, List.set_cons_succ]
  refine df.take_op (i := 2) 18 rfl rfl (df.yields_move rfl (.tmp 2) rfl) (by kernel_rfl) (by kernel_rfl) (by kernel_rfl) (fun _ _ _ h => h) k4.drew ?_
  simp only [Act.put, List.setIfInBounds_toArray, List.set_cons_zero, List.set_cons_succ]
  refine df.take_op (i := 4) 20 rfl rfl (df.yields_load rfl (.tmp 3) rfl w0.heap.size rfl cs hw8 (fun W h => b0.later h)) (by kernel_rfl) (by kernel_rfl) (by kernel_rfl) (fun _ _ _ h => h) k4.drew ?_
  simp only [Act.put, List.setIfInBounds_toArray, List.set_cons_zero, List.set_cons_succ]
  refine df.take_op (i := 5) 21 rfl rfl (df.yields_move rfl (.tmp 1) rfl) (by kernel_rfl) (by kernel_rfl) (by kernel_rfl) (fun _ _ _ h => h) k4.drew ?_
  simp only [Act.put, List.setIfInBounds_toArray, List.set_cons_zero, List.set_cons_succ]
  refine df.take_op (i := 6) 22 rfl rfl (df.yields_move rfl (.tmp 2) rfl) (by kernel_rfl) (by kernel_rfl) (by kernel_rfl) (fun _ _ _ h => h) k4.drew ?_
  simp only [Act.put, List.setIfInBounds_toArray, List.set_cons_zero, List.set_cons_succ]
  refine df.call_op 3 19 (f := 21) (args := #[.agg cs, .string u, .int .i64 at']) (by kernel_rfl) rfl rfl rfl (by kernel_rfl) ((h21 _ k4.drew).mono ?_)
  rintro e w5 ⟨vo, vc, rfl, hv5, k5⟩
  refine ⟨_, rfl, k5, ?_⟩
  simp only [Act.put, List.setIfInBounds_toArray, List.set_cons_zero, List.set_cons_succ]
  refine df.call_op 7 23 (f := 22) (args := #[.agg cs, .string u, .int .i64 at']) (by kernel_rfl) rfl rfl rfl (by kernel_rfl) ((h22 _ k5).mono ?_)
  rintro e w6 ⟨rfl, k6, b6⟩
  refine ⟨_, rfl, k6, ?_⟩
  simp only [Act.put, List.setIfInBounds_toArray, List.set_cons_zero, List.set_cons_succ]
  refine df.take_op (i := 8) 7 rfl rfl (df.yields_assign rfl (.tmp 19) rfl) (by kernel_rfl) (by kernel_rfl) (by kernel_rfl) (fun _ _ _ h => h) k6 ?_
  simp only [Act.put, List.setIfInBounds_toArray, List.set_cons_zero, List.set_cons_succ]
  refine df.take_op (i := 9) 8 rfl rfl (df.yields_assign rfl (.tmp 23) rfl) (by kernel_rfl) (by kernel_rfl) (by kernel_rfl) (fun _ _ _ h => h) k6 ?_
  simp only [Act.put, List.setIfInBounds_toArray, List.set_cons_zero, List.set_cons_succ]
  refine df.done_op (by kernel_rfl) ?_
  have x6 := b0.later k6
  go_wp2_with (first | (refine wpList_load_row rfl 37 (.tmp 3) rfl w0.heap.size rfl 37 cs (0, 0) _ (b0.later k6) Try.underlying37 rfl (df.info37 cs hw8) ?_) | (go_at_call 20; (refine (h20 _ k6).mono ?_); rintro e w7 ⟨rfl, k7, b7⟩))
  go_ret
  exact ⟨rfl, df.chain HB k7⟩
set_option maxHeartbeats 4000000 in
set_option maxRecDepth 100000 in
theorem walk_low {d : df.Dfa} {cs : Array Value} {o ao : Option Addr} {cap acap : Nat} {w0 : World} (hD : df.DAt (df.In w0) w0 d cs o cap ao acap) {s : ByteArray} (hs : s.size ≤ 140737488351232) {at' : Int} (hr : df.right d = true) (h1 : at' < 0) :
    Calls Try.prog 6 #[.agg cs, .string s, .int .i64 at'] w0 fun e w' => e = .returned (.bool true) ∧ Below w0.heap.size w0 w' := by
  have h18 := df.short_any 18 rfl s 2000 (by omega) (by omega)
  have hcut := df.cut_size s 2000
  generalize df.cut s 2000 = u at *
  have hw8 := hD.size
  have b0 := df.dbox_new w0 cs
  have HB := df.below_alloc w0 (.cells cs 37)
  have D1 := hD.later HB
  obtain ⟨w1, hw1⟩ : ∃ w1, w1 = w0.alloc (.cells cs 37) := ⟨_, rfl⟩
  rw [← hw1] at b0 HB D1
  have h19 : ∀ W, Kept w1 W → Calls Try.prog 19 #[.agg cs] W fun e w' => e = .returned (.bool (df.right d)) ∧ Kept w1 w' := fun W h => (df.right_any d _ rfl cs o cap ao acap W (D1.later h)).mono fun e w' ⟨h1, h2⟩ => ⟨h1, df.chain h h2⟩
  have h20 : ∀ W, Kept w1 W → Calls Try.prog 20 #[.agg cs] W fun e w' => e = .returned (.bool (df.right d)) ∧ Kept w1 w' ∧ Below W.heap.size W w' := fun W h => (df.rright_any d _ rfl cs o cap ao acap W (D1.later h)).mono fun e w' ⟨h1, h2⟩ => ⟨h1, df.chain h h2, h2⟩
  have h21 : ∀ W, Kept w1 W → Calls Try.prog 21 #[.agg cs, .string u, .int .i64 at'] W fun e w' => ∃ vo vc, e = .returned (.slice vo (df.endsOf d u at').length vc) ∧ df.Row (df.In w') w' df.iv vo vc (df.endsOf d u at') ∧ Kept w1 w' := fun W h => (df.ends_any d u at' (by omega) cs o cap ao acap W (D1.later h)).mono fun e w' ⟨v, h1, ⟨vo, vc, h2, h3⟩, h4⟩ => ⟨vo, vc, by rw [h1, h2], h3, df.chain h h4⟩
  have h22 : ∀ W, Kept w1 W → Calls Try.prog 22 #[.agg cs, .string u, .int .i64 at'] W fun e w' => e = .returned (.int .i64 ((df.endsOf d u at').getLast?.getD (-1))) ∧ Kept w1 w' ∧ Below W.heap.size W w' := fun W h => (df.longest_any d u at' (by omega) cs o cap ao acap W (D1.later h)).mono fun e w' ⟨h1, h2⟩ => ⟨h1, df.chain h h2, h2⟩
  have k0 : Kept w1 w1 := Below.refl _ _
  rw [hr] at h19 h20
  have he : df.endsOf d u at' = [] := by unfold df.endsOf; rw [if_neg (by omega)]
  rw [he] at h21 h22
  have f1 : decide (at' < 0) = true := decide_eq_true h1
  clear h1
  go_enter Try.func6, Try.ntmps6
  go_wp2_with (go_at_call 18; (refine (h18 _).mono ?_); rintro e w2 ⟨rfl, hw⟩; obtain rfl := hw.symm)
  rw [← hw1]
  refine wp_region_held (S := Kept w1) (by kernel_rfl) ?_
  refine df.take_op (i := 0) 11 rfl rfl (df.yields_load rfl (.tmp 3) rfl w0.heap.size rfl cs hw8 (fun W h => b0.later h)) (by kernel_rfl) (by kernel_rfl) (by kernel_rfl) (fun _ _ _ h => h) k0.drew ?_
  simp only [Act.put, List.setIfInBounds_toArray, List.set_cons_zero, List.set_cons_succ]
  refine df.take_op (i := 2) 13 rfl rfl (df.yields_load rfl (.tmp 3) rfl w0.heap.size rfl cs hw8 (fun W h => b0.later h)) (by kernel_rfl) (by kernel_rfl) (by kernel_rfl) (fun _ _ _ h => h) k0.drew ?_
  simp only [Act.put, List.setIfInBounds_toArray, List.set_cons_zero, List.set_cons_succ]
  refine df.call_op 1 12 (f := 19) (args := #[.agg cs]) (by kernel_rfl) rfl rfl rfl (by kernel_rfl) ((h19 _ k0.drew).mono ?_)
  rintro e w3 ⟨rfl, k3⟩
  refine ⟨_, rfl, k3, ?_⟩
  simp only [Act.put, List.setIfInBounds_toArray, List.set_cons_zero, List.set_cons_succ]
  refine df.call_op 3 14 (f := 20) (args := #[.agg cs]) (by kernel_rfl) rfl rfl rfl (by kernel_rfl) ((h20 _ k3).mono ?_)
  rintro e w4 ⟨rfl, k4, _⟩
  refine ⟨_, rfl, k4, ?_⟩
  simp only [Act.put, List.setIfInBounds_toArray, List.set_cons_zero, List.set_cons_succ]
  refine df.take_op (i := 4) 15 (v := .bool false) rfl rfl (.inl ⟨rfl, fun w _ => by kernel_rfl⟩) (by kernel_rfl) (by kernel_rfl) (by kernel_rfl) (fun _ _ _ h => h) k4 ?_
  simp only [Act.put, List.setIfInBounds_toArray, List.set_cons_zero, List.set_cons_succ]
  refine df.done_op (by kernel_rfl) ?_
  go_wp2_with (fail)
  refine wp_region_held (S := Kept w1) (by kernel_rfl) ?_
  refine df.take_op (i := 0) 16 rfl rfl (df.yields_load rfl (.tmp 3) rfl w0.heap.size rfl cs hw8 (fun W h => b0.later h)) (by kernel_rfl) (by kernel_rfl) (by kernel_rfl) (fun _ _ _ h => h) k4.drew ?_
  simp only [Act.put, List.setIfInBounds_toArray, List.set_cons_zero, List.set_cons_succ]
  refine df.take_op (i := 1) 17 rfl rfl (df.yields_move rfl (.tmp 1) rfl) (by kernel_rfl) (by kernel_rfl) (by kernel_rfl) (fun _ _ _ h => h) k4.drew ?_
  simp only [Act.put, List.setIfInBounds_toArray, List.set_cons_zero, List.set_cons_succ]
  refine df.take_op (i := 2) 18 rfl rfl (df.yields_move rfl (.tmp 2) rfl) (by kernel_rfl) (by kernel_rfl) (by kernel_rfl) (fun _ _ _ h => h) k4.drew ?_
  simp only [Act.put, List.setIfInBounds_toArray, List.set_cons_zero, List.set_cons_succ]
  refine df.take_op (i := 4) 20 rfl rfl (df.yields_load rfl (.tmp 3) rfl w0.heap.size rfl cs hw8 (fun W h => b0.later h)) (by kernel_rfl) (by kernel_rfl) (by kernel_rfl) (fun _ _ _ h => h) k4.drew ?_
  simp only [Act.put, List.setIfInBounds_toArray, List.set_cons_zero, List.set_cons_succ]
  refine df.take_op (i := 5) 21 rfl rfl (df.yields_move rfl (.tmp 1) rfl) (by kernel_rfl) (by kernel_rfl) (by kernel_rfl) (fun _ _ _ h => h) k4.drew ?_
  simp only [Act.put, List.setIfInBounds_toArray, List.set_cons_zero, List.set_cons_succ]
  refine df.take_op (i := 6) 22 rfl rfl (df.yields_move rfl (.tmp 2) rfl) (by kernel_rfl) (by kernel_rfl) (by kernel_rfl) (fun _ _ _ h => h) k4.drew ?_
  simp only [Act.put, List.setIfInBounds_toArray, List.set_cons_zero, List.set_cons_succ]
  refine df.call_op 3 19 (f := 21) (args := #[.agg cs, .string u, .int .i64 at']) (by kernel_rfl) rfl rfl rfl (by kernel_rfl) ((h21 _ k4.drew).mono ?_)
  rintro e w5 ⟨vo, vc, rfl, hv5, k5⟩
  refine ⟨_, rfl, k5, ?_⟩
  simp only [Act.put, List.setIfInBounds_toArray, List.set_cons_zero, List.set_cons_succ]
  refine df.call_op 7 23 (f := 22) (args := #[.agg cs, .string u, .int .i64 at']) (by kernel_rfl) rfl rfl rfl (by kernel_rfl) ((h22 _ k5).mono ?_)
  rintro e w6 ⟨rfl, k6, b6⟩
  refine ⟨_, rfl, k6, ?_⟩
  simp only [Act.put, List.setIfInBounds_toArray, List.set_cons_zero, List.set_cons_succ]
  refine df.take_op (i := 8) 7 rfl rfl (df.yields_assign rfl (.tmp 19) rfl) (by kernel_rfl) (by kernel_rfl) (by kernel_rfl) (fun _ _ _ h => h) k6 ?_
  simp only [Act.put, List.setIfInBounds_toArray, List.set_cons_zero, List.set_cons_succ]
  refine df.take_op (i := 9) 8 rfl rfl (df.yields_assign rfl (.tmp 23) rfl) (by kernel_rfl) (by kernel_rfl) (by kernel_rfl) (fun _ _ _ h => h) k6 ?_
  simp only [Act.put, List.setIfInBounds_toArray, List.set_cons_zero, List.set_cons_succ]
  refine df.done_op (by kernel_rfl) ?_
  have x6 := b0.later k6
  go_wp2_with (first | (refine wpList_load_row rfl 37 (.tmp 3) rfl w0.heap.size rfl 37 cs (0, 0) _ (b0.later k6) Try.underlying37 rfl (df.info37 cs hw8) ?_) | (go_at_call 20; (refine (h20 _ k6).mono ?_); rintro e w7 ⟨rfl, k7, b7⟩))
  go_ret
  exact ⟨rfl, df.chain HB k7⟩
set_option maxHeartbeats 4000000 in
set_option maxRecDepth 100000 in
theorem walk_rest {d : df.Dfa} {cs : Array Value} {o ao : Option Addr} {cap acap : Nat} {w0 : World} (hD : df.DAt (df.In w0) w0 d cs o cap ao acap) {s : ByteArray} (hs : s.size ≤ 140737488351232) {at' : Int} (hr : df.right d = true) (h1 : ¬ at' < 0) :
    Calls Try.prog 6 #[.agg cs, .string s, .int .i64 at'] w0 fun e w' => e = .returned (.bool true) ∧ Below w0.heap.size w0 w' := by
  have h18 := df.short_any 18 rfl s 2000 (by omega) (by omega)
  have hcut := df.cut_size s 2000
  generalize df.cut s 2000 = u at *
  have hw8 := hD.size
  have b0 := df.dbox_new w0 cs
  have HB := df.below_alloc w0 (.cells cs 37)
  have D1 := hD.later HB
  obtain ⟨w1, hw1⟩ : ∃ w1, w1 = w0.alloc (.cells cs 37) := ⟨_, rfl⟩
  rw [← hw1] at b0 HB D1
  have h19 : ∀ W, Kept w1 W → Calls Try.prog 19 #[.agg cs] W fun e w' => e = .returned (.bool (df.right d)) ∧ Kept w1 w' := fun W h => (df.right_any d _ rfl cs o cap ao acap W (D1.later h)).mono fun e w' ⟨h1, h2⟩ => ⟨h1, df.chain h h2⟩
  have h20 : ∀ W, Kept w1 W → Calls Try.prog 20 #[.agg cs] W fun e w' => e = .returned (.bool (df.right d)) ∧ Kept w1 w' ∧ Below W.heap.size W w' := fun W h => (df.rright_any d _ rfl cs o cap ao acap W (D1.later h)).mono fun e w' ⟨h1, h2⟩ => ⟨h1, df.chain h h2, h2⟩
  have h21 : ∀ W, Kept w1 W → Calls Try.prog 21 #[.agg cs, .string u, .int .i64 at'] W fun e w' => ∃ vo vc, e = .returned (.slice vo (df.endsOf d u at').length vc) ∧ df.Row (df.In w') w' df.iv vo vc (df.endsOf d u at') ∧ Kept w1 w' := fun W h => (df.ends_any d u at' (by omega) cs o cap ao acap W (D1.later h)).mono fun e w' ⟨v, h1, ⟨vo, vc, h2, h3⟩, h4⟩ => ⟨vo, vc, by rw [h1, h2], h3, df.chain h h4⟩
  have h22 : ∀ W, Kept w1 W → Calls Try.prog 22 #[.agg cs, .string u, .int .i64 at'] W fun e w' => e = .returned (.int .i64 ((df.endsOf d u at').getLast?.getD (-1))) ∧ Kept w1 w' ∧ Below W.heap.size W w' := fun W h => (df.longest_any d u at' (by omega) cs o cap ao acap W (D1.later h)).mono fun e w' ⟨h1, h2⟩ => ⟨h1, df.chain h h2, h2⟩
  have k0 : Kept w1 w1 := Below.refl _ _
  rw [hr] at h19 h20
  obtain ⟨t, rfl⟩ : ∃ t : Nat, at' = (t : Int) := ⟨at'.toNat, by omega⟩
  have f1 : decide ((t : Int) < 0) = false := decide_eq_false h1
  by_cases h2 : u.size < t
  · have he : df.endsOf d u (t : Int) = [] := by unfold df.endsOf; rw [if_neg (by omega)]
    rw [he] at h21 h22
    have f2 : decide (u.size < t) = true := decide_eq_true h2
    clear h1 h2
    go_enter Try.func6, Try.ntmps6
    go_wp2_with (go_at_call 18; (refine (h18 _).mono ?_); rintro e w2 ⟨rfl, hw⟩; obtain rfl := hw.symm)
    rw [← hw1]
    refine wp_region_held (S := Kept w1) (by kernel_rfl) ?_
    refine df.take_op (i := 0) 11 rfl rfl (df.yields_load rfl (.tmp 3) rfl w0.heap.size rfl cs hw8 (fun W h => b0.later h)) (by kernel_rfl) (by kernel_rfl) (by kernel_rfl) (fun _ _ _ h => h) k0.drew ?_
    simp only [Act.put, List.setIfInBounds_toArray, List.set_cons_zero, List.set_cons_succ]
    refine df.take_op (i := 2) 13 rfl rfl (df.yields_load rfl (.tmp 3) rfl w0.heap.size rfl cs hw8 (fun W h => b0.later h)) (by kernel_rfl) (by kernel_rfl) (by kernel_rfl) (fun _ _ _ h => h) k0.drew ?_
    simp only [Act.put, List.setIfInBounds_toArray, List.set_cons_zero, List.set_cons_succ]
    refine df.call_op 1 12 (f := 19) (args := #[.agg cs]) (by kernel_rfl) rfl rfl rfl (by kernel_rfl) ((h19 _ k0.drew).mono ?_)
    rintro e w3 ⟨rfl, k3⟩
    refine ⟨_, rfl, k3, ?_⟩
    simp only [Act.put, List.setIfInBounds_toArray, List.set_cons_zero, List.set_cons_succ]
    refine df.call_op 3 14 (f := 20) (args := #[.agg cs]) (by kernel_rfl) rfl rfl rfl (by kernel_rfl) ((h20 _ k3).mono ?_)
    rintro e w4 ⟨rfl, k4, _⟩
    refine ⟨_, rfl, k4, ?_⟩
    simp only [Act.put, List.setIfInBounds_toArray, List.set_cons_zero, List.set_cons_succ]
    refine df.take_op (i := 4) 15 (v := .bool false) rfl rfl (.inl ⟨rfl, fun w _ => by kernel_rfl⟩) (by kernel_rfl) (by kernel_rfl) (by kernel_rfl) (fun _ _ _ h => h) k4 ?_
    simp only [Act.put, List.setIfInBounds_toArray, List.set_cons_zero, List.set_cons_succ]
    refine df.done_op (by kernel_rfl) ?_
    go_wp2_with (fail)
    refine wp_region_held (S := Kept w1) (by kernel_rfl) ?_
    refine df.take_op (i := 0) 16 rfl rfl (df.yields_load rfl (.tmp 3) rfl w0.heap.size rfl cs hw8 (fun W h => b0.later h)) (by kernel_rfl) (by kernel_rfl) (by kernel_rfl) (fun _ _ _ h => h) k4.drew ?_
    simp only [Act.put, List.setIfInBounds_toArray, List.set_cons_zero, List.set_cons_succ]
    refine df.take_op (i := 1) 17 rfl rfl (df.yields_move rfl (.tmp 1) rfl) (by kernel_rfl) (by kernel_rfl) (by kernel_rfl) (fun _ _ _ h => h) k4.drew ?_
    simp only [Act.put, List.setIfInBounds_toArray, List.set_cons_zero, List.set_cons_succ]
    refine df.take_op (i := 2) 18 rfl rfl (df.yields_move rfl (.tmp 2) rfl) (by kernel_rfl) (by kernel_rfl) (by kernel_rfl) (fun _ _ _ h => h) k4.drew ?_
    simp only [Act.put, List.setIfInBounds_toArray, List.set_cons_zero, List.set_cons_succ]
    refine df.take_op (i := 4) 20 rfl rfl (df.yields_load rfl (.tmp 3) rfl w0.heap.size rfl cs hw8 (fun W h => b0.later h)) (by kernel_rfl) (by kernel_rfl) (by kernel_rfl) (fun _ _ _ h => h) k4.drew ?_
    simp only [Act.put, List.setIfInBounds_toArray, List.set_cons_zero, List.set_cons_succ]
    refine df.take_op (i := 5) 21 rfl rfl (df.yields_move rfl (.tmp 1) rfl) (by kernel_rfl) (by kernel_rfl) (by kernel_rfl) (fun _ _ _ h => h) k4.drew ?_
    simp only [Act.put, List.setIfInBounds_toArray, List.set_cons_zero, List.set_cons_succ]
    refine df.take_op (i := 6) 22 rfl rfl (df.yields_move rfl (.tmp 2) rfl) (by kernel_rfl) (by kernel_rfl) (by kernel_rfl) (fun _ _ _ h => h) k4.drew ?_
    simp only [Act.put, List.setIfInBounds_toArray, List.set_cons_zero, List.set_cons_succ]
    refine df.call_op 3 19 (f := 21) (args := #[.agg cs, .string u, .int .i64 (t : Int)]) (by kernel_rfl) rfl rfl rfl (by kernel_rfl) ((h21 _ k4.drew).mono ?_)
    rintro e w5 ⟨vo, vc, rfl, hv5, k5⟩
    refine ⟨_, rfl, k5, ?_⟩
    simp only [Act.put, List.setIfInBounds_toArray, List.set_cons_zero, List.set_cons_succ]
    refine df.call_op 7 23 (f := 22) (args := #[.agg cs, .string u, .int .i64 (t : Int)]) (by kernel_rfl) rfl rfl rfl (by kernel_rfl) ((h22 _ k5).mono ?_)
    rintro e w6 ⟨rfl, k6, b6⟩
    refine ⟨_, rfl, k6, ?_⟩
    simp only [Act.put, List.setIfInBounds_toArray, List.set_cons_zero, List.set_cons_succ]
    refine df.take_op (i := 8) 7 rfl rfl (df.yields_assign rfl (.tmp 19) rfl) (by kernel_rfl) (by kernel_rfl) (by kernel_rfl) (fun _ _ _ h => h) k6 ?_
    simp only [Act.put, List.setIfInBounds_toArray, List.set_cons_zero, List.set_cons_succ]
    refine df.take_op (i := 9) 8 rfl rfl (df.yields_assign rfl (.tmp 23) rfl) (by kernel_rfl) (by kernel_rfl) (by kernel_rfl) (fun _ _ _ h => h) k6 ?_
    simp only [Act.put, List.setIfInBounds_toArray, List.set_cons_zero, List.set_cons_succ]
    refine df.done_op (by kernel_rfl) ?_
    have x6 := b0.later k6
    go_wp2_with (first | (refine wpList_load_row rfl 37 (.tmp 3) rfl w0.heap.size rfl 37 cs (0, 0) _ (b0.later k6) Try.underlying37 rfl (df.info37 cs hw8) ?_) | (go_at_call 20; (refine (h20 _ k6).mono ?_); rintro e w7 ⟨rfl, k7, b7⟩))
    go_ret
    exact ⟨rfl, df.chain HB k7⟩
  · have f2 : decide (u.size < t) = false := decide_eq_false h2
    have h23 : ∀ W, Kept w1 W → Calls Try.prog 23 #[.agg cs, .string u, .int .i64 (t : Int)] W fun e w' => ∃ v, e = .returned v ∧ df.IntsV w' v (df.endsOf d u (t : Int)) ∧ Kept w1 w' ∧ Below W.heap.size W w' := fun W h => (df.rends_any d u t hr (by omega) (by omega) cs o cap ao acap W (D1.later h)).mono fun e w' ⟨v, h1, h2, h3⟩ => ⟨v, h1, h2, df.chain h h3, h3⟩
    have h24 : ∀ W, Kept w1 W → Calls Try.prog 24 #[.agg cs, .string u, .int .i64 (t : Int)] W fun e w' => e = .returned (.int .i64 ((df.endsOf d u (t : Int)).getLast?.getD (-1))) ∧ Kept w1 w' := fun W h => (df.rlongest_any d u t hr (by omega) (by omega) _ rfl cs o cap ao acap W (D1.later h)).mono fun e w' ⟨h1, h2⟩ => ⟨h1, df.chain h h2⟩
    have h15 := df.ints_any (df.endsOf d u (t : Int)) (df.endsOf d u (t : Int)) true (by simp)
    unfold df.IntsIs at h15
    have hlen := df.endsOf_len d u (t : Int)
    generalize df.endsOf d u (t : Int) = full at *
    generalize full.getLast?.getD (-1) = last at *
    clear h1 h2
    go_enter Try.func6, Try.ntmps6
    go_wp2_with (go_at_call 18; (refine (h18 _).mono ?_); rintro e w2 ⟨rfl, hw⟩; obtain rfl := hw.symm)
    rw [← hw1]
    refine wp_region_held (S := Kept w1) (by kernel_rfl) ?_
    refine df.take_op (i := 0) 11 rfl rfl (df.yields_load rfl (.tmp 3) rfl w0.heap.size rfl cs hw8 (fun W h => b0.later h)) (by kernel_rfl) (by kernel_rfl) (by kernel_rfl) (fun _ _ _ h => h) k0.drew ?_
    simp only [Act.put, List.setIfInBounds_toArray, List.set_cons_zero, List.set_cons_succ]
    refine df.take_op (i := 2) 13 rfl rfl (df.yields_load rfl (.tmp 3) rfl w0.heap.size rfl cs hw8 (fun W h => b0.later h)) (by kernel_rfl) (by kernel_rfl) (by kernel_rfl) (fun _ _ _ h => h) k0.drew ?_
    simp only [Act.put, List.setIfInBounds_toArray, List.set_cons_zero, List.set_cons_succ]
    refine df.call_op 1 12 (f := 19) (args := #[.agg cs]) (by kernel_rfl) rfl rfl rfl (by kernel_rfl) ((h19 _ k0.drew).mono ?_)
    rintro e w3 ⟨rfl, k3⟩
    refine ⟨_, rfl, k3, ?_⟩
    simp only [Act.put, List.setIfInBounds_toArray, List.set_cons_zero, List.set_cons_succ]
    refine df.call_op 3 14 (f := 20) (args := #[.agg cs]) (by kernel_rfl) rfl rfl rfl (by kernel_rfl) ((h20 _ k3).mono ?_)
    rintro e w4 ⟨rfl, k4, _⟩
    refine ⟨_, rfl, k4, ?_⟩
    simp only [Act.put, List.setIfInBounds_toArray, List.set_cons_zero, List.set_cons_succ]
    refine df.take_op (i := 4) 15 (v := .bool false) rfl rfl (.inl ⟨rfl, fun w _ => by kernel_rfl⟩) (by kernel_rfl) (by kernel_rfl) (by kernel_rfl) (fun _ _ _ h => h) k4 ?_
    simp only [Act.put, List.setIfInBounds_toArray, List.set_cons_zero, List.set_cons_succ]
    refine df.done_op (by kernel_rfl) ?_
    go_wp2_with (fail)
    refine wp_region_held (S := Kept w1) (by kernel_rfl) ?_
    refine df.take_op (i := 0) 16 rfl rfl (df.yields_load rfl (.tmp 3) rfl w0.heap.size rfl cs hw8 (fun W h => b0.later h)) (by kernel_rfl) (by kernel_rfl) (by kernel_rfl) (fun _ _ _ h => h) k4.drew ?_
    simp only [Act.put, List.setIfInBounds_toArray, List.set_cons_zero, List.set_cons_succ]
    refine df.take_op (i := 1) 17 rfl rfl (df.yields_move rfl (.tmp 1) rfl) (by kernel_rfl) (by kernel_rfl) (by kernel_rfl) (fun _ _ _ h => h) k4.drew ?_
    simp only [Act.put, List.setIfInBounds_toArray, List.set_cons_zero, List.set_cons_succ]
    refine df.take_op (i := 2) 18 rfl rfl (df.yields_move rfl (.tmp 2) rfl) (by kernel_rfl) (by kernel_rfl) (by kernel_rfl) (fun _ _ _ h => h) k4.drew ?_
    simp only [Act.put, List.setIfInBounds_toArray, List.set_cons_zero, List.set_cons_succ]
    refine df.take_op (i := 4) 20 rfl rfl (df.yields_load rfl (.tmp 3) rfl w0.heap.size rfl cs hw8 (fun W h => b0.later h)) (by kernel_rfl) (by kernel_rfl) (by kernel_rfl) (fun _ _ _ h => h) k4.drew ?_
    simp only [Act.put, List.setIfInBounds_toArray, List.set_cons_zero, List.set_cons_succ]
    refine df.take_op (i := 5) 21 rfl rfl (df.yields_move rfl (.tmp 1) rfl) (by kernel_rfl) (by kernel_rfl) (by kernel_rfl) (fun _ _ _ h => h) k4.drew ?_
    simp only [Act.put, List.setIfInBounds_toArray, List.set_cons_zero, List.set_cons_succ]
    refine df.take_op (i := 6) 22 rfl rfl (df.yields_move rfl (.tmp 2) rfl) (by kernel_rfl) (by kernel_rfl) (by kernel_rfl) (fun _ _ _ h => h) k4.drew ?_
    simp only [Act.put, List.setIfInBounds_toArray, List.set_cons_zero, List.set_cons_succ]
    refine df.call_op 3 19 (f := 21) (args := #[.agg cs, .string u, .int .i64 (t : Int)]) (by kernel_rfl) rfl rfl rfl (by kernel_rfl) ((h21 _ k4.drew).mono ?_)
    rintro e w5 ⟨vo, vc, rfl, hv5, k5⟩
    refine ⟨_, rfl, k5, ?_⟩
    simp only [Act.put, List.setIfInBounds_toArray, List.set_cons_zero, List.set_cons_succ]
    refine df.call_op 7 23 (f := 22) (args := #[.agg cs, .string u, .int .i64 (t : Int)]) (by kernel_rfl) rfl rfl rfl (by kernel_rfl) ((h22 _ k5).mono ?_)
    rintro e w6 ⟨rfl, k6, b6⟩
    refine ⟨_, rfl, k6, ?_⟩
    simp only [Act.put, List.setIfInBounds_toArray, List.set_cons_zero, List.set_cons_succ]
    refine df.take_op (i := 8) 7 rfl rfl (df.yields_assign rfl (.tmp 19) rfl) (by kernel_rfl) (by kernel_rfl) (by kernel_rfl) (fun _ _ _ h => h) k6 ?_
    simp only [Act.put, List.setIfInBounds_toArray, List.set_cons_zero, List.set_cons_succ]
    refine df.take_op (i := 9) 8 rfl rfl (df.yields_assign rfl (.tmp 23) rfl) (by kernel_rfl) (by kernel_rfl) (by kernel_rfl) (fun _ _ _ h => h) k6 ?_
    simp only [Act.put, List.setIfInBounds_toArray, List.set_cons_zero, List.set_cons_succ]
    refine df.done_op (by kernel_rfl) ?_
    have x6 := b0.later k6
    have hv6 : df.IntsV w6 (.slice vo full.length vc) full := df.IntsV.later ⟨vo, vc, rfl, hv5⟩ b6
    go_wp2_with (first | (refine wpList_load_row rfl 37 (.tmp 3) rfl w0.heap.size rfl 37 cs (0, 0) _ (b0.later k6) Try.underlying37 rfl (df.info37 cs hw8) ?_) | (refine wpList_load_row rfl 37 (.tmp 3) rfl w0.heap.size rfl 37 cs (0, 0) _ (b0.later k7) Try.underlying37 rfl (df.info37 cs hw8) ?_) | (refine wp_load_row 37 (.tmp 3) rfl w0.heap.size rfl 37 cs (0, 0) _ (b0.later k9) Try.underlying37 rfl (df.info37 cs hw8) ?_) | (go_at_call 20; (refine (h20 _ k6).mono ?_); rintro e w7 ⟨rfl, k7, b7⟩) | (go_at_call 23; (refine (h23 _ k7).mono ?_); rintro e w8 ⟨v8, rfl, hv8, k8, b8⟩) | (go_at_call 15; (refine (h15 _ _ _ ((hv6.later b7).later b8) hv8).mono ?_); rintro e w9 ⟨rfl, b9⟩; have k9 : Kept w1 w9 := df.chain k8 b9) | (go_at_call 24; (refine (h24 _ k9).mono ?_); rintro e w10 ⟨rfl, k10⟩))
    refine wp_load_row 37 (.tmp 3) rfl w0.heap.size rfl 37 cs (0, 0) _ (b0.later k9) Try.underlying37 rfl (df.info37 cs hw8) ?_
    go_at_K
    go_wp2_with (go_at_call 24; (refine (h24 _ k9).mono ?_); rintro e w10 ⟨rfl, k10⟩)
    go_ret
    exact ⟨rfl, df.chain HB k10⟩
theorem walk {d : df.Dfa} {cs : Array Value} {o ao : Option Addr} {cap acap : Nat} {w : World} (hD : df.DAt (df.In w) w d cs o cap ao acap) {s : ByteArray} (hs : s.size ≤ 140737488351232) {at' : Int} (wa : (Lit.int .i64 at').wf = true) (w0 : World) (hw0 : w0 = w := by rfl) :
    Calls Try.prog 6 #[.agg cs, .string s, .int .i64 at'] w0 fun e w' => e = .returned (.bool true) ∧ Below w0.heap.size w0 w' := by
  subst hw0
  cases hr : df.right d with
  | false => exact walk_right hD hs hr
  | true =>
    by_cases h1 : at' < 0
    · exact walk_low hD hs hr h1
    · exact walk_rest hD hs hr h1

set_option maxRecDepth 100000 in
theorem lifted (os : Os) (started : os.Started) (H : Type) (enc : TypeId × Value → H) :
    ReturnsInHanded {} Try.checked os 6 .any (Rows.dfaRunsSpec.pre6 enc Try.prog Try.f6 Rows.dfaRunsRow.domain false) (Rows.dfaRunsSpec.post enc Try.prog Try.f6 false true false false) := by
  refine returnsInHanded_of_change_sized (C := Try.checked) own started (by kernel_rfl) Try.func6
    (ChangeSpec.witness6 (enc := enc) (C := Try.checked) false ⟨#[], #[.agg ((List.replicate 256 (Value.int .u8 0) ++ [Value.slice none 0 0, Value.slice none 0 0]).toArray), .string ByteArray.empty, .int .i64 0], []⟩ 8 (by kernel_rfl) (by kernel_rfl) (by kernel_rfl) (by kernel_rfl)) ?_
  intro W base args ds gs before hval0 hW hcnd hsz0 _
  have hsz : (DataW.weightsEach Try.prog (Try.f6.params.toList ++ Rows.dfaRunsSpec.plain.varTypes Try.prog) (ds ++ gs)).all (· ≤ reachBytes) = true := hsz0
  have hval : ∀ (j : Nat) t v, Try.f6.params[j]? = some t → args[j]? = some v → Value.okWide Try.prog W .any base t v := hval0
  have hW' := hW
  obtain ⟨p, q, hA0, hV, rfl, hfz, hnd⟩ := hW
  have hA : DataW.TrodAll enc Try.prog W 0 (fun _ => true) true Try.f6.params.toList args.toList ds p := hA0
  rw [Try.params6] at hA hval hsz
  obtain ⟨v0, vs0, d0, ds0, p0, q0, hargs, rfl, rfl, h0, r0⟩ := trodAll_cons hA
  obtain ⟨v1, vs1, d1, ds1, p1, q1, rfl, rfl, rfl, h1, r1⟩ := trodAll_cons r0
  obtain ⟨v2, vs2, d2, ds2, p2, q2, rfl, rfl, rfl, h2, r2⟩ := trodAll_cons r1
  obtain ⟨rfl, rfl, rfl⟩ := trodAll_nil r2
  obtain rfl : args = #[v0, v1, v2] := by cases args; simp_all
  obtain ⟨rfl, rfl⟩ := trodVars_none hV
  have k0 := h0
  have lt0 : ∀ x ∈ p0, x.block < W.heap.size := by obtain ⟨m, hm⟩ := k0; exact DataW.trod_lt m _ _ _ hm
  obtain ⟨e0, cs0, o0, cap0, ao0, acap0, rfl, F0⟩ := df.open37 (hval 0 37 v0 rfl rfl) h0
  obtain ⟨a1, rfl, rfl, rfl, w1⟩ := open_string Try.underlying9 (hval 1 9 v1 rfl rfl) h1
  have F1 : a1.size ≤ 140737488351232 := by
    have := sized_string hsz (j := 1) (t := 9) rfl rfl
    simpa [reachBytes] using this
  obtain ⟨a2, rfl, rfl, rfl, w2⟩ := open_int Try.underlying3 (hval 2 3 v2 rfl rfl) h2
  clear hA0 hval0
  refine (walk F0 F1 w2 W).mono fun e W' ⟨he, bel⟩ => ?_
  subst he
  exact ⟨_, rfl, _, _, _, [], _, [], hW', trodAll_mk1 (shut_bool Try.underlying4 _), (trodAll_cons_mk (Below.trod laidOut (by kernel_rfl) (of_decide_eq_true (by kernel_rfl)) k0 bel lt0) (trodAll_cons_mk (shut_string Try.underlying9 w1) (trodAll_cons_mk (shut_int Try.underlying3 w2) trodAll_mk0))), rfl, bel.frame _, fun h => by cases h⟩

theorem over : Rows.dfaRunsRow.holds Try.pinned (OpenSpec.ofChange Rows.dfaRunsSpec) :=
  OpenClaim.holds_of_wide 6 Try.f6 rfl rfl rfl rfl rfl rfl rfl ⟨rfl, rfl, rfl, rfl, rfl⟩ rfl rfl rfl rfl rfl (by kernel_rfl) Try.func6 (by kernel_rfl)
    (of_decide_eq_true (by kernel_rfl)) (by unfold Func.isWrapper; first | (rw [if_pos (by decide +kernel)]; kernel_rfl) | (rw [if_neg (by decide +kernel)]; exact ⟨rfl, rfl⟩))
    (fun os started H enc _ => lifted os started H enc)

theorem proved : Rows.DfaRunsSaid :=
  over
#print axioms proved
end Go.Proofs.Ythknhbmibmndoaa.dfaRuns
