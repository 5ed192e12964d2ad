/-
  The laws MiniLeast and MiniMaps, walked.
-/
import Derived.Test.YtkdkibnjfgcppaaKNw
import Derived.Test.YtkdkibnjfgcppaaKNd
import Derived.Test.YtkdkibnjfgcppaaKNe
import Derived.Test.YtkdkibnjfgcppaaKNh
namespace Go.Proofs.Ytkdkibnjfgcppaa.mi
open Go.ChangeShapes Go.WideShapes Go.ChangeAt Go.RowKit Go.Shelf Go.Maps
set_option linter.unusedVariables false

theorem load_if {P : Program} {ops : Array Oper} {rest : List Oper} {o : Oper} {a : Act} {w : World} {Q : Exit → Act → World → Prop} (hw : Region.wanted o (yielded ops a.tmps) = true) (ty : TypeId) (x : Operand) (ho : o.op = .load ty x)
    (g : Nat) (hx : a.eval x = .pointer (some ⟨g, 0, none⟩)) (t : TypeId) (cs : Array Value) (fr : Nat × Nat) (d : TypeDesc) (hg : w.heap[g]? = some (.cells cs t fr))
    (hu : P.underlying ty = some d) (hd : (match d with | .struct _ | .array _ _ => true | _ => false) = true) (hi : (P.info? ty).map (·.size) = some cs.size)
    (h : wpList P ops Q rest (a.put o.dst (.agg cs)) w) : wpList P ops Q (o :: rest) a w :=
  wpList_step fun K hK => by rw [if_pos hw]; exact wp_load_row ty x ho g hx t cs fr d hg hu hd hi (hK _ _ h)
theorem x_arr22 {op : Oper} {a : Act} {w : World} {x : Operand} {g : Nat} {T : List Nat} (h : op.op = .load 22 x) (hx : a.eval x = .pointer (some ⟨g, 0, none⟩)) (hT : T.length = 256) (hb : CBox w g T) : (execOp a.eval op).run Try.prog w = .ok (.value (.agg (ccs T))) w := by
  unfold execOp
  simp only [h, hx, Instr.loadAt, Instr.sureAddr, Sem.run_bind, Sem.run_pure, Result.andThen_ok, run_loadVar_row (P := Try.prog) w g 22 22 (ccs T) (0, 0) _ hb Try.underlying22 rfl (sizeC T hT)]
def d0 : df.Dfa := ⟨fun _ => 0, [], []⟩
theorem dat_z (w : World) : df.DAt (df.In w) w d0 z26 none 0 none 0 := by
  refine ⟨z26_size, fun i hi => ?_, fun i => (show (0 : Nat) < 256 by omega), z26_nil 256 (by omega) (by omega), z26_nil 257 (by omega) (by omega), ⟨Nat.le_refl _, by omega, fun i hi => absurd hi (Nat.not_lt_zero _)⟩, ⟨Nat.le_refl _, by omega, fun i hi => absurd hi (Nat.not_lt_zero _)⟩⟩
  unfold z26
  rw [List.getElem?_toArray, List.getElem?_append_left (by rw [List.length_replicate]; exact hi), List.getElem?_replicate, if_pos hi]
  rfl
theorem few_any (d : df.Dfa) (cs : Array Value) (o ao : Option Addr) (cap acap : Nat) (w : World) (hD : df.DAt (df.In w) w d cs o cap ao acap) : Calls Try.prog 11 #[.agg cs] w fun e w' => e = .returned (.bool (decide (d.next.length ≤ 40))) ∧ Below w.heap.size w w' := by
  have x0 : df.DBox (w.alloc (.cells cs 26)) w.heap.size cs := df.dbox_new w cs
  have k1 := x0.nx hD
  have f1 := hD.rows.fit
  have f2 := hD.rows.top
  have B0 := below_alloc w (.cells cs 26)
  generalize d.next.length = n at *
  clear hD x0
  go_enter Try.func11, Try.ntmps11
  go_wp2_with (fail)
  go_ret
  refine ⟨?_, B0⟩
  congr 2
  simp
  omega
set_option maxHeartbeats 4000000 in
set_option maxRecDepth 100000 in
theorem leasts_walk (d : df.Dfa) (cs : Array Value) (o ao : Option Addr) (cap acap : Nat) (w : World) (hD : df.DAt (df.In w) w d cs o cap ao acap) :
    Calls Try.prog 3 #[.agg cs] w fun e w' => e = .returned (.bool true) ∧ Below w.heap.size w w' := by
  have hz := zero26
  have hw8 := hD.size
  obtain ⟨wA, hwA⟩ : ∃ wA, wA = w.alloc (.cells cs 26) := ⟨_, rfl⟩
  have B0 : Below w.heap.size w wA := by rw [hwA]; exact below_alloc w _
  have xA : df.DBox wA w.heap.size cs := by rw [hwA]; exact df.dbox_new w cs
  have cL := least8_any d cs o ao cap acap wA (hD.later B0)
  have HD := (show Hid (df.DAt (df.In wA) wA d cs o cap ao acap) from hD.later B0)
  clear hD
  go_enter Try.func3, Try.ntmps3
  go_wp2_with (fail)
  rw [← hwA]
  refine wp_load_row 26 (.tmp 1) rfl w.heap.size rfl 26 cs (0, 0) _ xA Try.underlying26 rfl (df.info26 cs hw8) ?_
  clear hwA
  go_wp2_with (fail)
  go_at_call 8
  refine cL.mono ?_
  intro e w1 hout
  clear cL
  rcases hout with ⟨hr, rfl, b1⟩ | ⟨hr, d', cs', o', ao', cap', acap', rfl, hD', hL, b1, hle⟩
  · have hzz := z26_size
    have hst := store26 w1 z26 z26_size z26_one
    obtain ⟨w2, hw2⟩ : ∃ w2, w2 = w1.alloc (.cells z26 26) := ⟨_, rfl⟩
    have b2 : Below w1.heap.size w1 w2 := by rw [hw2]; exact below_alloc w1 _
    have xL : df.DBox w2 w1.heap.size z26 := by rw [hw2]; exact df.dbox_new w1 z26
    have b12 := df.chain b1 b2
    have x2 : df.DBox w2 w.heap.size cs := xA.later b12
    have c9 := df.rright_any d _ rfl cs o cap ao acap w2 (HD.out.later b12)
    rw [hr] at c9
    go_wp2_with (fail)
    rw [← hw2]
    clear hw2 hst
    refine wp_load_row 26 (.tmp 1) rfl w.heap.size rfl 26 cs (0, 0) _ x2 Try.underlying26 rfl (df.info26 cs hw8) ?_
    go_wp2_with (fail)
    go_at_call 9
    refine c9.mono ?_
    rintro e w3 ⟨rfl, b3⟩
    have xL3 : df.DBox w3 w1.heap.size z26 := xL.later b3
    have hbd := run26_0
    have c10 := like_any d0 z26 none none 0 0 z26 none none 0 0 w3 (dat_z w3) (dat_z w3)
    have HB := (show Hid (Below w.heap.size w w3) from df.chain (df.chain B0 b12) b3)
    clear c9
    go_wp2_with (first | (refine load_if (by kernel_rfl) 26 (.tmp 3) rfl w1.heap.size rfl 26 z26 (0, 0) _ xL3 Try.underlying26 rfl (df.info26 z26 z26_size) ?_))
    go_at_call 10
    refine c10.mono ?_
    rintro e w4 ⟨rfl, b4⟩
    go_wp2_with (fail)
    go_ret
    exact ⟨rfl, df.chain HB.out b4⟩
  · have hcs := hD'.size
    have hone := dat_one hD'
    have hst := store26 w1 cs' hcs hone
    have hzz := z26_size
    obtain ⟨w2, hw2⟩ : ∃ w2, w2 = w1.alloc (.cells cs' 26) := ⟨_, rfl⟩
    have b2 : Below w1.heap.size w1 w2 := by rw [hw2]; exact below_alloc w1 _
    have xL : df.DBox w2 w1.heap.size cs' := by rw [hw2]; exact df.dbox_new w1 cs'
    have b12 := df.chain b1 b2
    have x2 : df.DBox w2 w.heap.size cs := xA.later b12
    have c9 := df.rright_any d _ rfl cs o cap ao acap w2 (HD.out.later b12)
    rw [hr] at c9
    have HD2 := (show Hid (df.DAt (df.In w2) w2 d' cs' o' cap' ao' acap') from dat_in hD' b2)
    have HL := (show Hid _ from hL)
    have H8 := (show Hid (∀ i, d'.cls i < 256) from hD'.c8)
    clear hD' hL hle
    go_wp2_with (fail)
    rw [← hw2]
    clear hw2 hst
    refine wp_load_row 26 (.tmp 1) rfl w.heap.size rfl 26 cs (0, 0) _ x2 Try.underlying26 rfl (df.info26 cs hw8) ?_
    go_wp2_with (fail)
    go_at_call 9
    refine c9.mono ?_
    rintro e w3 ⟨rfl, b3⟩
    have xL3 : df.DBox w3 w1.heap.size cs' := xL.later b3
    have b13 := df.chain b12 b3
    have x3 : df.DBox w3 w.heap.size cs := xA.later b13
    have HB := (show Hid (Below w.heap.size w w3) from df.chain B0 b13)
    have kR : Kept w3 w3 := Below.refl _ _
    have c11 := fun W (h : Kept w3 W) => few_any d cs o ao cap acap W (HD.out.later (df.chain b13 h))
    clear c9
    go_wp2_with (fail)
    refine wp_region_held (S := Kept w3) (by kernel_rfl) ?_
    refine rg.take_op (i := 0) 20 rfl rfl (rg.yields_run rfl (v := .int .i64 0) (fun W h => by kernel_rfl)) (by kernel_rfl) (by kernel_rfl) (by kernel_rfl) (fun _ _ _ h => h) kR.drew ?_
    simp only [Act.put, List.setIfInBounds_toArray, List.set_cons_zero, List.set_cons_succ]
    refine rg.take_op (i := 1) 21 rfl rfl (rg.yields_run rfl (v := .bool true) (fun W h => by kernel_rfl)) (by kernel_rfl) (by kernel_rfl) (by kernel_rfl) (fun _ _ _ h => h) kR.drew ?_
    simp only [Act.put, List.setIfInBounds_toArray, List.set_cons_zero, List.set_cons_succ]
    refine rg.take_op (i := 2) 22 rfl rfl (rg.yields_run rfl (v := .bool true) (fun W h => by kernel_rfl)) (by kernel_rfl) (by kernel_rfl) (by kernel_rfl) (fun _ _ _ h => h) kR.drew ?_
    simp only [Act.put, List.setIfInBounds_toArray, List.set_cons_zero, List.set_cons_succ]
    refine rg.take_op (i := 3) 23 rfl rfl (rg.yields_run (by kernel_rfl) (v := .agg cs) (fun W h => x_row26 (x := .tmp 1) rfl rfl hw8 (x3.later h))) (by kernel_rfl) (by kernel_rfl) (by kernel_rfl) (fun _ _ _ h => h) kR.drew ?_
    simp only [Act.put, List.setIfInBounds_toArray, List.set_cons_zero, List.set_cons_succ]
    refine rg.call_op 4 24 (f := 11) (args := #[.agg cs]) (by kernel_rfl) rfl rfl (by kernel_rfl) (by kernel_rfl) ((c11 _ kR.drew).mono ?_)
    rintro e W1 ⟨rfl, hb1⟩
    have k1 : Kept w3 W1 := df.chain kR.drew hb1
    refine ⟨_, rfl, k1, ?_⟩
    simp only [Act.put, List.setIfInBounds_toArray, List.set_cons_zero, List.set_cons_succ]
    cases hfew : decide (d.next.length ≤ 40) with
    | false =>
      refine rg.take_op (i := 5) 25 rfl rfl (rg.yields_run (by kernel_rfl) (v := .bool true) (fun W h => by kernel_rfl)) (by kernel_rfl) (by kernel_rfl) (by kernel_rfl) (fun _ _ _ h => h) k1 ?_
      simp only [Act.put, List.setIfInBounds_toArray, List.set_cons_zero, List.set_cons_succ]
      refine rg.take_op (i := 6) 26 rfl rfl (rg.yields_run (by kernel_rfl) (v := .bool true) (fun W h => by kernel_rfl)) (by kernel_rfl) (by kernel_rfl) (by kernel_rfl) (fun _ _ _ h => h) k1 ?_
      simp only [Act.put, List.setIfInBounds_toArray, List.set_cons_zero, List.set_cons_succ]
      refine rg.take_op (i := 7) 27 rfl rfl (rg.yields_not (by kernel_rfl)) (by kernel_rfl) (by kernel_rfl) (by kernel_rfl) (fun _ _ _ h => h) k1 ?_
      simp only [Act.put, List.setIfInBounds_toArray, List.set_cons_zero, List.set_cons_succ]
      refine rg.take_op (i := 8) 28 rfl rfl (rg.yields_not (by kernel_rfl)) (by kernel_rfl) (by kernel_rfl) (by kernel_rfl) (fun _ _ _ h => h) k1 ?_
      simp only [Act.put, List.setIfInBounds_toArray, List.set_cons_zero, List.set_cons_succ]
      refine rg.take_op (i := 9) 29 rfl rfl (rg.yields_not (by kernel_rfl)) (by kernel_rfl) (by kernel_rfl) (by kernel_rfl) (fun _ _ _ h => h) k1 ?_
      simp only [Act.put, List.setIfInBounds_toArray, List.set_cons_zero, List.set_cons_succ]
      refine rg.take_op (i := 10) 30 rfl rfl (rg.yields_not (by kernel_rfl)) (by kernel_rfl) (by kernel_rfl) (by kernel_rfl) (fun _ _ _ h => h) k1 ?_
      simp only [Act.put, List.setIfInBounds_toArray, List.set_cons_zero, List.set_cons_succ]
      refine rg.take_op (i := 11) 31 rfl rfl (rg.yields_run (by kernel_rfl) (v := .bool true) (fun W h => by kernel_rfl)) (by kernel_rfl) (by kernel_rfl) (by kernel_rfl) (fun _ _ _ h => h) k1 ?_
      simp only [Act.put, List.setIfInBounds_toArray, List.set_cons_zero, List.set_cons_succ]
      refine rg.take_op (i := 12) 32 rfl rfl (rg.yields_run (by kernel_rfl) (v := .bool true) (fun W h => by kernel_rfl)) (by kernel_rfl) (by kernel_rfl) (by kernel_rfl) (fun _ _ _ h => h) k1 ?_
      simp only [Act.put, List.setIfInBounds_toArray, List.set_cons_zero, List.set_cons_succ]
      refine rg.take_op (i := 13) 2 rfl rfl (rg.yields_run (by kernel_rfl) (v := .bool true) (fun W h => by kernel_rfl)) (by kernel_rfl) (by kernel_rfl) (by kernel_rfl) (fun _ _ _ h => h) k1 ?_
      simp only [Act.put, List.setIfInBounds_toArray, List.set_cons_zero, List.set_cons_succ]
      refine rg.done_op (by kernel_rfl) ?_
      go_wp2_with (fail)
      go_ret
      exact ⟨rfl, df.chain HB.out k1⟩
    | true =>
      refine rg.take_op (i := 5) 25 rfl rfl (rg.yields_run (by kernel_rfl) (v := .bool false) (fun W h => by kernel_rfl)) (by kernel_rfl) (by kernel_rfl) (by kernel_rfl) (fun _ _ _ h => h) k1 ?_
      simp only [Act.put, List.setIfInBounds_toArray, List.set_cons_zero, List.set_cons_succ]
      refine rg.take_op (i := 6) 26 rfl rfl (rg.yields_run (by kernel_rfl) (v := .bool false) (fun W h => by kernel_rfl)) (by kernel_rfl) (by kernel_rfl) (by kernel_rfl) (fun _ _ _ h => h) k1 ?_
      simp only [Act.put, List.setIfInBounds_toArray, List.set_cons_zero, List.set_cons_succ]
      refine rg.take_op (i := 7) 27 rfl rfl (rg.yields_run (by kernel_rfl) (v := .agg cs') (fun W h => x_row26 (x := .tmp 3) rfl rfl hcs (xL3.later h))) (by kernel_rfl) (by kernel_rfl) (by kernel_rfl) (fun _ _ _ h => h) k1 ?_
      simp only [Act.put, List.setIfInBounds_toArray, List.set_cons_zero, List.set_cons_succ]
      refine rg.take_op (i := 8) 28 rfl rfl (rg.yields_run (by kernel_rfl) (v := .agg cs) (fun W h => x_row26 (x := .tmp 1) rfl rfl hw8 (x3.later h))) (by kernel_rfl) (by kernel_rfl) (by kernel_rfl) (fun _ _ _ h => h) k1 ?_
      simp only [Act.put, List.setIfInBounds_toArray, List.set_cons_zero, List.set_cons_succ]
      refine rg.call_op 9 29 (f := 12) (args := #[.agg cs]) (by kernel_rfl) rfl rfl (by kernel_rfl) (by kernel_rfl) ((rleast_any d hr cs o ao cap acap W1 (HD.out.later (df.chain b13 k1))).mono ?_)
      rintro e W2 ⟨dr, csr, orr, aor, capr, acapr, rfl, hDr, hLr, hb2⟩
      have k2 : Kept w3 W2 := df.chain k1 hb2
      refine ⟨_, rfl, k2, ?_⟩
      simp only [Act.put, List.setIfInBounds_toArray, List.set_cons_zero, List.set_cons_succ]
      have hDr2 := dat_as HL.out hLr H8.out hDr
      have c10 := like_any d' cs' o' ao' cap' acap' csr orr aor capr acapr W2 (HD2.out.later (df.chain b3 k2)) (hDr2.carry (fun _ _ => rfl) (fun k hk => hk.2))
      refine rg.call_op 10 30 (f := 10) (args := #[.agg cs', .agg csr]) (by kernel_rfl) rfl rfl (by kernel_rfl) (by kernel_rfl) (c10.mono ?_)
      rintro e W3 ⟨rfl, hb3⟩
      have k3 : Kept w3 W3 := df.chain k2 hb3
      refine ⟨_, rfl, k3, ?_⟩
      simp only [Act.put, List.setIfInBounds_toArray, List.set_cons_zero, List.set_cons_succ]
      refine rg.take_op (i := 11) 31 rfl rfl (rg.yields_run (by kernel_rfl) (v := .bool true) (fun W h => by kernel_rfl)) (by kernel_rfl) (by kernel_rfl) (by kernel_rfl) (fun _ _ _ h => h) k3 ?_
      simp only [Act.put, List.setIfInBounds_toArray, List.set_cons_zero, List.set_cons_succ]
      refine rg.take_op (i := 12) 32 rfl rfl (rg.yields_run (by kernel_rfl) (v := .bool true) (fun W h => by kernel_rfl)) (by kernel_rfl) (by kernel_rfl) (by kernel_rfl) (fun _ _ _ h => h) k3 ?_
      simp only [Act.put, List.setIfInBounds_toArray, List.set_cons_zero, List.set_cons_succ]
      refine rg.take_op (i := 13) 2 rfl rfl (rg.yields_run (by kernel_rfl) (v := .bool true) (fun W h => by kernel_rfl)) (by kernel_rfl) (by kernel_rfl) (by kernel_rfl) (fun _ _ _ h => h) k3 ?_
      simp only [Act.put, List.setIfInBounds_toArray, List.set_cons_zero, List.set_cons_succ]
      refine rg.done_op (by kernel_rfl) ?_
      go_wp2_with (fail)
      go_ret
      exact ⟨rfl, df.chain HB.out k3⟩
end Go.Proofs.Ytkdkibnjfgcppaa.mi
