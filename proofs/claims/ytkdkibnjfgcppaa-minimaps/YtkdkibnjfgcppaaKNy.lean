/-
  The law MiniMaps, walked.
-/
import Derived.Test.YtkdkibnjfgcppaaKNx
import Derived.Test.YtkdkibnjfgcppaaKNa
namespace Go.Proofs.Ytkdkibnjfgcppaa.mi
open Go.ChangeShapes Go.WideShapes Go.ChangeAt Go.RowKit Go.Shelf Go.Maps
set_option linter.unusedVariables false

set_option maxHeartbeats 4000000 in
set_option maxRecDepth 100000 in
theorem maps_walk (d : df.Dfa) (T : List Nat) (hT : T.length = 256) (hT8 : ∀ x ∈ T, x < 256) (cs : Array Value) (o ao : Option Addr) (cap acap : Nat) (w : World) (hD : df.DAt (df.In w) w d cs o cap ao acap) :
    Calls Try.prog 4 #[.agg cs, .agg (ccs T)] w fun e w' => e = .returned (.bool true) ∧ Below w.heap.size w w' := by
  have hz := zero26
  have hw8 := hD.size
  obtain ⟨wA, hwA⟩ : ∃ wA, wA = (w.alloc (.cells cs 26)).alloc (.cells (ccs T) 22) := ⟨_, rfl⟩
  have B0 : Below w.heap.size w wA := by rw [hwA]; exact ((Below.refl _ _).alloc (Nat.le_refl _) _).alloc (by simp) _
  have xA : df.DBox wA w.heap.size cs := by rw [hwA]; exact (Below.heap_alloc _ _ _ (by simp)).trans (df.dbox_new w cs)
  have xT : CBox wA (w.heap.size + 1) T := by rw [hwA]; have := heap_alloc_new (w.alloc (.cells cs 26)) (.cells (ccs T) 22); rw [World.size_alloc] at this; exact this
  have cL := map13_any d T hT hT8 cs o ao cap acap wA (hD.later B0)
  have HD := (show Hid (df.DAt (df.In wA) wA d cs o cap ao acap) from hD.later B0)
  clear hD
  go_enter Try.func4, Try.ntmps4
  go_wp2_with (fail)
  rw [← hwA]
  refine wp_load_row 26 (.tmp 2) rfl w.heap.size rfl 26 cs (0, 0) _ xA Try.underlying26 rfl (df.info26 cs hw8) ?_
  clear hwA
  go_wp2_with (fail)
  refine wp_load_row 22 (.tmp 3) rfl (w.heap.size + 1) rfl 22 (ccs T) (0, 0) _ xT Try.underlying22 rfl (sizeC T hT) ?_
  go_wp2_with (fail)
  go_at_call 13
  refine cL.mono ?_
  intro e w1 hout
  clear cL
  rcases hout with ⟨hr, rfl, b1⟩ | ⟨hr, d', cs', o', ao', cap', acap', rfl, hD', hL, b1, hle⟩
  · have hzz := z26_size
    have hst := store26 w1 z26 z26_size z26_one
    obtain ⟨w2, hw2⟩ : ∃ w2, w2 = w1.alloc (.cells z26 26) := ⟨_, rfl⟩
    have b2 : Below w1.heap.size w1 w2 := by rw [hw2]; exact below_alloc w1 _
    have xL : df.DBox w2 w1.heap.size z26 := by rw [hw2]; exact df.dbox_new w1 z26
    have b12 := df.chain b1 b2
    have x2 : df.DBox w2 w.heap.size cs := xA.later b12
    have c9 := df.rright_any d _ rfl cs o cap ao acap w2 (HD.out.later b12)
    rw [hr] at c9
    go_wp2_with (fail)
    rw [← hw2]
    clear hw2 hst
    refine wp_load_row 26 (.tmp 2) rfl w.heap.size rfl 26 cs (0, 0) _ x2 Try.underlying26 rfl (df.info26 cs hw8) ?_
    go_wp2_with (fail)
    go_at_call 9
    refine c9.mono ?_
    rintro e w3 ⟨rfl, b3⟩
    have xL3 : df.DBox w3 w1.heap.size z26 := xL.later b3
    have hbd := run26_0
    have c10 := like_any d0 z26 none none 0 0 z26 none none 0 0 w3 (dat_z w3) (dat_z w3)
    have HB := (show Hid (Below w.heap.size w w3) from df.chain (df.chain B0 b12) b3)
    clear c9
    go_wp2_with (first | (refine load_if (by kernel_rfl) 26 (.tmp 5) rfl w1.heap.size rfl 26 z26 (0, 0) _ xL3 Try.underlying26 rfl (df.info26 z26 z26_size) ?_))
    go_at_call 10
    refine c10.mono ?_
    rintro e w4 ⟨rfl, b4⟩
    go_wp2_with (fail)
    go_ret
    exact ⟨rfl, df.chain HB.out b4⟩
  · have hcs := hD'.size
    have hone := dat_one hD'
    have hst := store26 w1 cs' hcs hone
    have hzz := z26_size
    obtain ⟨w2, hw2⟩ : ∃ w2, w2 = w1.alloc (.cells cs' 26) := ⟨_, rfl⟩
    have b2 : Below w1.heap.size w1 w2 := by rw [hw2]; exact below_alloc w1 _
    have xL : df.DBox w2 w1.heap.size cs' := by rw [hw2]; exact df.dbox_new w1 cs'
    have b12 := df.chain b1 b2
    have x2 : df.DBox w2 w.heap.size cs := xA.later b12
    have c9 := df.rright_any d _ rfl cs o cap ao acap w2 (HD.out.later b12)
    rw [hr] at c9
    have HD2 := (show Hid (df.DAt (df.In w2) w2 d' cs' o' cap' ao' acap') from dat_in hD' b2)
    have HL := (show Hid _ from hL)
    have H8 := (show Hid (∀ i, d'.cls i < 256) from hD'.c8)
    clear hD' hL hle
    go_wp2_with (fail)
    rw [← hw2]
    clear hw2 hst
    refine wp_load_row 26 (.tmp 2) rfl w.heap.size rfl 26 cs (0, 0) _ x2 Try.underlying26 rfl (df.info26 cs hw8) ?_
    go_wp2_with (fail)
    go_at_call 9
    refine c9.mono ?_
    rintro e w3 ⟨rfl, b3⟩
    have xL3 : df.DBox w3 w1.heap.size cs' := xL.later b3
    have b13 := df.chain b12 b3
    have x3 : df.DBox w3 w.heap.size cs := xA.later b13
    have xT3 : CBox w3 (w.heap.size + 1) T := (b13.block _ xT.lt).trans xT
    have HB := (show Hid (Below w.heap.size w w3) from df.chain B0 b13)
    have kR : Kept w3 w3 := Below.refl _ _
    have c11 := fun W (h : Kept w3 W) => few_any d cs o ao cap acap W (HD.out.later (df.chain b13 h))
    clear c9
    go_wp2_with (fail)
    refine wp_region_held (S := Kept w3) (by kernel_rfl) ?_
    refine rg.take_op (i := 0) 23 rfl rfl (rg.yields_run rfl (v := .int .i64 0) (fun W h => by kernel_rfl)) (by kernel_rfl) (by kernel_rfl) (by kernel_rfl) (fun _ _ _ h => h) kR.drew ?_
    simp only [Act.put, List.setIfInBounds_toArray, List.set_cons_zero, List.set_cons_succ]
    refine rg.take_op (i := 1) 24 rfl rfl (rg.yields_run rfl (v := .bool true) (fun W h => by kernel_rfl)) (by kernel_rfl) (by kernel_rfl) (by kernel_rfl) (fun _ _ _ h => h) kR.drew ?_
    simp only [Act.put, List.setIfInBounds_toArray, List.set_cons_zero, List.set_cons_succ]
    refine rg.take_op (i := 2) 25 rfl rfl (rg.yields_run rfl (v := .bool true) (fun W h => by kernel_rfl)) (by kernel_rfl) (by kernel_rfl) (by kernel_rfl) (fun _ _ _ h => h) kR.drew ?_
    simp only [Act.put, List.setIfInBounds_toArray, List.set_cons_zero, List.set_cons_succ]
    refine rg.take_op (i := 3) 26 rfl rfl (rg.yields_run (by kernel_rfl) (v := .agg cs) (fun W h => x_row26 (x := .tmp 2) rfl rfl hw8 (x3.later h))) (by kernel_rfl) (by kernel_rfl) (by kernel_rfl) (fun _ _ _ h => h) kR.drew ?_
    simp only [Act.put, List.setIfInBounds_toArray, List.set_cons_zero, List.set_cons_succ]
    refine rg.call_op 4 27 (f := 11) (args := #[.agg cs]) (by kernel_rfl) rfl rfl (by kernel_rfl) (by kernel_rfl) ((c11 _ kR.drew).mono ?_)
    rintro e W1 ⟨rfl, hb1⟩
    have k1 : Kept w3 W1 := df.chain kR.drew hb1
    refine ⟨_, rfl, k1, ?_⟩
    simp only [Act.put, List.setIfInBounds_toArray, List.set_cons_zero, List.set_cons_succ]
    cases hfew : decide (d.next.length ≤ 40) with
    | false =>
      refine rg.take_op (i := 5) 28 rfl rfl (rg.yields_run (by kernel_rfl) (v := .bool true) (fun W h => by kernel_rfl)) (by kernel_rfl) (by kernel_rfl) (by kernel_rfl) (fun _ _ _ h => h) k1 ?_
      simp only [Act.put, List.setIfInBounds_toArray, List.set_cons_zero, List.set_cons_succ]
      refine rg.take_op (i := 6) 29 rfl rfl (rg.yields_run (by kernel_rfl) (v := .bool true) (fun W h => by kernel_rfl)) (by kernel_rfl) (by kernel_rfl) (by kernel_rfl) (fun _ _ _ h => h) k1 ?_
      simp only [Act.put, List.setIfInBounds_toArray, List.set_cons_zero, List.set_cons_succ]
      refine rg.take_op (i := 7) 30 rfl rfl (rg.yields_not (by kernel_rfl)) (by kernel_rfl) (by kernel_rfl) (by kernel_rfl) (fun _ _ _ h => h) k1 ?_
      simp only [Act.put, List.setIfInBounds_toArray, List.set_cons_zero, List.set_cons_succ]
      refine rg.take_op (i := 8) 31 rfl rfl (rg.yields_not (by kernel_rfl)) (by kernel_rfl) (by kernel_rfl) (by kernel_rfl) (fun _ _ _ h => h) k1 ?_
      simp only [Act.put, List.setIfInBounds_toArray, List.set_cons_zero, List.set_cons_succ]
      refine rg.take_op (i := 9) 32 rfl rfl (rg.yields_not (by kernel_rfl)) (by kernel_rfl) (by kernel_rfl) (by kernel_rfl) (fun _ _ _ h => h) k1 ?_
      simp only [Act.put, List.setIfInBounds_toArray, List.set_cons_zero, List.set_cons_succ]
      refine rg.take_op (i := 10) 33 rfl rfl (rg.yields_not (by kernel_rfl)) (by kernel_rfl) (by kernel_rfl) (by kernel_rfl) (fun _ _ _ h => h) k1 ?_
      simp only [Act.put, List.setIfInBounds_toArray, List.set_cons_zero, List.set_cons_succ]
      refine rg.take_op (i := 11) 34 rfl rfl (rg.yields_not (by kernel_rfl)) (by kernel_rfl) (by kernel_rfl) (by kernel_rfl) (fun _ _ _ h => h) k1 ?_
      simp only [Act.put, List.setIfInBounds_toArray, List.set_cons_zero, List.set_cons_succ]
      refine rg.take_op (i := 12) 35 rfl rfl (rg.yields_run (by kernel_rfl) (v := .bool true) (fun W h => by kernel_rfl)) (by kernel_rfl) (by kernel_rfl) (by kernel_rfl) (fun _ _ _ h => h) k1 ?_
      simp only [Act.put, List.setIfInBounds_toArray, List.set_cons_zero, List.set_cons_succ]
      refine rg.take_op (i := 13) 36 rfl rfl (rg.yields_run (by kernel_rfl) (v := .bool true) (fun W h => by kernel_rfl)) (by kernel_rfl) (by kernel_rfl) (by kernel_rfl) (fun _ _ _ h => h) k1 ?_
      simp only [Act.put, List.setIfInBounds_toArray, List.set_cons_zero, List.set_cons_succ]
      refine rg.take_op (i := 14) 4 rfl rfl (rg.yields_run (by kernel_rfl) (v := .bool true) (fun W h => by kernel_rfl)) (by kernel_rfl) (by kernel_rfl) (by kernel_rfl) (fun _ _ _ h => h) k1 ?_
      simp only [Act.put, List.setIfInBounds_toArray, List.set_cons_zero, List.set_cons_succ]
      refine rg.done_op (by kernel_rfl) ?_
      go_wp2_with (fail)
      go_ret
      exact ⟨rfl, df.chain HB.out k1⟩
    | true =>
      refine rg.take_op (i := 5) 28 rfl rfl (rg.yields_run (by kernel_rfl) (v := .bool false) (fun W h => by kernel_rfl)) (by kernel_rfl) (by kernel_rfl) (by kernel_rfl) (fun _ _ _ h => h) k1 ?_
      simp only [Act.put, List.setIfInBounds_toArray, List.set_cons_zero, List.set_cons_succ]
      refine rg.take_op (i := 6) 29 rfl rfl (rg.yields_run (by kernel_rfl) (v := .bool false) (fun W h => by kernel_rfl)) (by kernel_rfl) (by kernel_rfl) (by kernel_rfl) (fun _ _ _ h => h) k1 ?_
      simp only [Act.put, List.setIfInBounds_toArray, List.set_cons_zero, List.set_cons_succ]
      refine rg.take_op (i := 7) 30 rfl rfl (rg.yields_run (by kernel_rfl) (v := .agg cs') (fun W h => x_row26 (x := .tmp 5) rfl rfl hcs (xL3.later h))) (by kernel_rfl) (by kernel_rfl) (by kernel_rfl) (fun _ _ _ h => h) k1 ?_
      simp only [Act.put, List.setIfInBounds_toArray, List.set_cons_zero, List.set_cons_succ]
      refine rg.take_op (i := 8) 31 rfl rfl (rg.yields_run (by kernel_rfl) (v := .agg cs) (fun W h => x_row26 (x := .tmp 2) rfl rfl hw8 (x3.later h))) (by kernel_rfl) (by kernel_rfl) (by kernel_rfl) (fun _ _ _ h => h) k1 ?_
      simp only [Act.put, List.setIfInBounds_toArray, List.set_cons_zero, List.set_cons_succ]
      refine rg.take_op (i := 9) 32 rfl rfl (rg.yields_run (by kernel_rfl) (v := .agg (ccs T)) (fun W h => x_arr22 (x := .tmp 3) rfl rfl hT ((h.block _ xT3.lt).trans xT3))) (by kernel_rfl) (by kernel_rfl) (by kernel_rfl) (fun _ _ _ h => h) k1 ?_
      simp only [Act.put, List.setIfInBounds_toArray, List.set_cons_zero, List.set_cons_succ]
      refine rg.call_op 10 33 (f := 14) (args := #[.agg cs, .agg (ccs T)]) (by kernel_rfl) rfl rfl (by kernel_rfl) (by kernel_rfl) ((rmap_any d hr T hT hT8 cs o ao cap acap W1 (HD.out.later (df.chain b13 k1))).mono ?_)
      rintro e W2 ⟨dr, csr, orr, aor, capr, acapr, rfl, hDr, hLr, hb2⟩
      have k2 : Kept w3 W2 := df.chain k1 hb2
      refine ⟨_, rfl, k2, ?_⟩
      simp only [Act.put, List.setIfInBounds_toArray, List.set_cons_zero, List.set_cons_succ]
      have hDr2 := dat_as HL.out hLr H8.out hDr
      have c10 := like_any d' cs' o' ao' cap' acap' csr orr aor capr acapr W2 (HD2.out.later (df.chain b3 k2)) (hDr2.carry (fun _ _ => rfl) (fun k hk => hk.2))
      refine rg.call_op 11 34 (f := 10) (args := #[.agg cs', .agg csr]) (by kernel_rfl) rfl rfl (by kernel_rfl) (by kernel_rfl) (c10.mono ?_)
      rintro e W3 ⟨rfl, hb3⟩
      have k3 : Kept w3 W3 := df.chain k2 hb3
      refine ⟨_, rfl, k3, ?_⟩
      simp only [Act.put, List.setIfInBounds_toArray, List.set_cons_zero, List.set_cons_succ]
      refine rg.take_op (i := 12) 35 rfl rfl (rg.yields_run (by kernel_rfl) (v := .bool true) (fun W h => by kernel_rfl)) (by kernel_rfl) (by kernel_rfl) (by kernel_rfl) (fun _ _ _ h => h) k3 ?_
      simp only [Act.put, List.setIfInBounds_toArray, List.set_cons_zero, List.set_cons_succ]
      refine rg.take_op (i := 13) 36 rfl rfl (rg.yields_run (by kernel_rfl) (v := .bool true) (fun W h => by kernel_rfl)) (by kernel_rfl) (by kernel_rfl) (by kernel_rfl) (fun _ _ _ h => h) k3 ?_
      simp only [Act.put, List.setIfInBounds_toArray, List.set_cons_zero, List.set_cons_succ]
      refine rg.take_op (i := 14) 4 rfl rfl (rg.yields_run (by kernel_rfl) (v := .bool true) (fun W h => by kernel_rfl)) (by kernel_rfl) (by kernel_rfl) (by kernel_rfl) (fun _ _ _ h => h) k3 ?_
      simp only [Act.put, List.setIfInBounds_toArray, List.set_cons_zero, List.set_cons_succ]
      refine rg.done_op (by kernel_rfl) ?_
      go_wp2_with (fail)
      go_ret
      exact ⟨rfl, df.chain HB.out k3⟩
end Go.Proofs.Ytkdkibnjfgcppaa.mi
