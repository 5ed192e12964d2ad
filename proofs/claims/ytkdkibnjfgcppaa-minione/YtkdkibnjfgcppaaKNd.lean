/-
  The law MiniSame, walked.
-/
import Derived.Test.YtkdkibnjfgcppaaKNc
import Derived.Test.YtkdkibnjfgcppaaKRg
namespace Go.Proofs.Ytkdkibnjfgcppaa.mi
open Go.ChangeShapes Go.WideShapes Go.ChangeAt Go.RowKit Go.Shelf Go.Maps
set_option linter.unusedVariables false

section
variable {op : Oper} {a : Act} {w : World}
theorem x_row26 {x : Operand} {g : Nat} {cs : Array Value} (h : op.op = .load 26 x) (hx : a.eval x = .pointer (some ⟨g, 0, none⟩)) (hs : cs.size = 258) (hb : df.DBox w g cs) : (execOp a.eval op).run Try.prog w = .ok (.value (.agg cs)) w := by
  unfold execOp
  simp only [h, hx, Instr.loadAt, Instr.sureAddr, Sem.run_bind, Sem.run_pure, Result.andThen_ok, run_loadVar_row (P := Try.prog) w g 26 26 cs (0, 0) _ hb Try.underlying26 rfl (df.info26 cs hs)]
theorem x_conv {x : Operand} {v : Value} {t : ByteArray} (h : op.op = .convert 37 9 x) (hx : a.eval x = v) (hc : (convert 37 9 v).run Try.prog w = .ok (.string t) w) : (execOp a.eval op).run Try.prog w = .ok (.value (.string t)) w := by
  unfold execOp
  simp only [h, hx, Sem.run_bind, hc, Result.andThen_ok, Sem.run_pure]
end
def Kept (w1 : World) (W : World) : Prop := Below w1.heap.size w1 W
theorem Kept.drew {w1 W : World} (h : Kept w1 W) : Kept w1 W.drew := Below.drew h
theorem dat_in {w w' : World} {B : Nat} {d : df.Dfa} {cs : Array Value} {o ao : Option Addr} {cap acap : Nat} (h : df.DAt (fun b => B ≤ b ∧ b < w.heap.size) w d cs o cap ao acap) (b : Below w.heap.size w w') : df.DAt (df.In w') w' d cs o cap ao acap :=
  h.carry (fun k hk => b.block k hk.2) (fun k hk => Nat.lt_of_lt_of_le hk.2 b.size)
set_option maxHeartbeats 4000000 in
set_option maxRecDepth 100000 in
theorem same_walk (d : df.Dfa) (T : List Nat) (hT : T.length = 256) (hT8 : ∀ x ∈ T, x < 256) (cs : Array Value) (o ao : Option Addr) (cap acap : Nat) (s : ByteArray) (hs : s.size ≤ 9223372036854775807) (at' : Int) (w : World) (hD : df.DAt (df.In w) w d cs o cap ao acap) :
    Calls Try.prog 5 #[.agg cs, .agg (ccs T), .string s, .int .i64 at'] w fun e w' => e = .returned (.bool true) ∧ Below w.heap.size w w' := by
  have hz := zero26
  have hw8 := hD.size
  obtain ⟨wA, hwA⟩ : ∃ wA, wA = (w.alloc (.cells cs 26)).alloc (.cells (ccs T) 22) := ⟨_, rfl⟩
  have B0 : Below w.heap.size w wA := by rw [hwA]; exact ((Below.refl _ _).alloc (Nat.le_refl _) _).alloc (by simp) _
  have xA : df.DBox wA w.heap.size cs := by rw [hwA]; exact (Below.heap_alloc _ _ _ (by simp)).trans (df.dbox_new w cs)
  have xT : CBox wA (w.heap.size + 1) T := by rw [hwA]; have := heap_alloc_new (w.alloc (.cells cs 26)) (.cells (ccs T) 22); rw [World.size_alloc] at this; exact this
  have c9 := df.rright_any d _ rfl cs o cap ao acap wA (hD.later B0)
  have HD := (show Hid _ from hD.later B0)
  have h15 := short15 s hs
  have hT2 : ∀ i, i < 256 → T.getD i 0 < 256 := fun i hi => by
    rw [List.getD_eq_getElem?_getD, List.getElem?_eq_getElem (by omega)]; exact hT8 _ (List.getElem_mem _)
  have hcut := df.cut_size s 500
  generalize df.cut s 500 = u at *
  clear hD
  go_enter Try.func5, Try.ntmps5
  go_wp2_with (fail)
  rw [← hwA]
  refine wp_load_row 26 (.tmp 4) rfl w.heap.size rfl 26 cs (0, 0) _ xA Try.underlying26 rfl (df.info26 cs hw8) ?_
  clear hwA
  go_wp2_with (fail)
  go_at_call 9
  refine c9.mono ?_
  rintro e w1 ⟨rfl, b1⟩
  cases hr : df.right d with
  | false =>
    go_wp2_with (fail)
    go_ret
    exact ⟨rfl, df.chain B0 b1⟩
  | true =>
    have x1 : df.DBox w1 w.heap.size cs := xA.later b1
    have c8 := least8_any d cs o ao cap acap w1 (HD.out.later b1)
    go_wp2_with (go_at_call 15; refine (h15 _).mono ?_; rintro e w2 ⟨rfl, hw2⟩; obtain rfl := hw2.symm)
    refine wp_load_row 26 (.tmp 4) rfl w.heap.size rfl 26 cs (0, 0) _ x1 Try.underlying26 rfl (df.info26 cs hw8) ?_
    go_wp2_with (fail)
    go_at_call 8
    refine c8.mono ?_
    rintro e w3 (⟨hf, _⟩ | ⟨_, m, mcs, mo, mao, mcap, macap, rfl, hDm, hLm, b3, hmle⟩)
    · rw [hr] at hf; cases hf
    have hms := hDm.size
    have hst := store26 w3 mcs hms (dat_one hDm)
    obtain ⟨w4, hw4⟩ : ∃ w4, w4 = w3.alloc (.cells mcs 26) := ⟨_, rfl⟩
    have b4 : Below w3.heap.size w3 w4 := by rw [hw4]; exact below_alloc w3 _
    have xm : df.DBox w4 w3.heap.size mcs := by rw [hw4]; exact df.dbox_new w3 mcs
    have hzz := z26_size
    go_wp2_with (fail)
    rw [← hw4]
    have x4 : df.DBox w4 w.heap.size cs := (x1.later b3).later b4
    have b14 := df.chain b1 (df.chain b3 b4)
    have xT4 : CBox w4 (w.heap.size + 1) T := (b14.block _ xT.lt).trans xT
    have c13 := map13_any d T hT hT8 cs o ao cap acap w4 (HD.out.later b14)
    have HDm := (show Hid _ from dat_in hDm b4)
    have HLm := (show Hid _ from hLm)
    clear hw4 hst hDm hLm
    refine wp_load_row 26 (.tmp 4) rfl w.heap.size rfl 26 cs (0, 0) _ x4 Try.underlying26 rfl (df.info26 cs hw8) ?_
    go_wp2_with (fail)
    refine wp_load_row 22 (.tmp 5) rfl (w.heap.size + 1) rfl 22 (ccs T) (0, 0) _ xT4 Try.underlying22 rfl (sizeC T hT) ?_
    go_wp2_with (fail)
    go_at_call 13
    refine c13.mono ?_
    rintro e w5 (⟨hf, _⟩ | ⟨_, n, ncs, no, nao, ncap, nacap, rfl, hDn, hLn, b5, hnle⟩)
    · rw [hr] at hf; cases hf
    have hns := hDn.size
    have hst := store26 w5 ncs hns (dat_one hDn)
    obtain ⟨w6, hw6⟩ : ∃ w6, w6 = w5.alloc (.cells ncs 26) := ⟨_, rfl⟩
    have b6 : Below w5.heap.size w5 w6 := by rw [hw6]; exact below_alloc w5 _
    have xn : df.DBox w6 w5.heap.size ncs := by rw [hw6]; exact df.dbox_new w5 ncs
    go_wp2_with (fail)
    rw [← hw6]
    have b46 := df.chain b5 b6
    have x6 : df.DBox w6 w.heap.size cs := x4.later b46
    have xm6 : df.DBox w6 w3.heap.size mcs := xm.later b46
    have xT6 : CBox w6 (w.heap.size + 1) T := (b46.block _ xT4.lt).trans xT4
    have hDm6 := HDm.out.later b46
    have hDn6 := dat_in hDn b6
    have hD6 := HD.out.later (df.chain b14 b46)
    have hmr : df.right m = true := HLm.out.right (by have := (df.ok_of d hr).most; omega)
    have hnr : df.right n = true := hLn.right (by have := (df.ok_of d hr).most; omega)
    have cm := df.rright_any m _ rfl mcs mo mcap mao macap w6 hDm6
    rw [hmr] at cm
    have HDN := (show Hid _ from hDn6)
    have HDM := (show Hid _ from hDm6)
    have HD6 := (show Hid _ from hD6)
    have HLn := (show Hid _ from hLn)
    have B6 := df.chain B0 (df.chain b14 b46)
    clear hw6 hst hDn hLn hDm6 hDn6 hD6 HDm
    refine wp_load_row 26 (.tmp 9) rfl w3.heap.size rfl 26 mcs (0, 0) _ xm6 Try.underlying26 rfl (df.info26 mcs hms) ?_
    go_wp2_with (fail)
    go_at_call 9
    refine cm.mono ?_
    rintro e w7 ⟨rfl, b7⟩
    have cn := df.rright_any n _ rfl ncs no ncap nao nacap w7 (HDN.out.later b7)
    rw [hnr] at cn
    have xn7 : df.DBox w7 w5.heap.size ncs := xn.later b7
    go_wp2_with (fail)
    refine wp_load_row 26 (.tmp 11) rfl w5.heap.size rfl 26 ncs (0, 0) _ xn7 Try.underlying26 rfl (df.info26 ncs hns) ?_
    go_wp2_with (fail)
    go_at_call 9
    refine cn.mono ?_
    rintro e w8 ⟨rfl, b8⟩
    have b68 := df.chain b7 b8
    have x8 : df.DBox w8 w.heap.size cs := x6.later b68
    have xm8 : df.DBox w8 w3.heap.size mcs := xm6.later b68
    have xn8 : df.DBox w8 w5.heap.size ncs := xn7.later b8
    have xT8 : CBox w8 (w.heap.size + 1) T := (b68.block _ xT6.lt).trans xT6
    have k8d := x8.nx HD.out
    have k8m := xm8.nx HDM.out
    have B8 := df.chain B6 b68
    have HDM8 := (show Hid _ from HDM.out.later b68)
    have HDN8 := (show Hid _ from HDN.out.later b68)
    have HD8 := (show Hid _ from HD6.out.later b68)
    obtain ⟨bc, w9, hcv, hBR, hbc1, hbc2, b9⟩ := conv37 T w8 u (by omega)
    have hd1 := HD8.out.rows.top
    have hd2 := HD8.out.rows.fit
    have hm1 := HDM8.out.rows.top
    have hm2 := HDM8.out.rows.fit
    clear HDM HDN HD6 HD xA xT x1 x4 xm xT4 xn xn7 x6 xm6 xT6 cn cm
    go_wp2_with (fail)
    clear hcv
    have HBR := (show Hid _ from hBR)
    clear hBR
    go_loopw [60] (fun y wr => ∃ k : Nat, y = .int .i64 (k : Int) ∧ k ≤ u.size ∧ Below w8.heap.size w8 wr ∧ Hid (BRow wr w8.heap.size (mixT T u k))) (fun y _ => u.size - (intOf y).toNat)
    case atStart => exact ⟨0, rfl, by omega, b9, HBR.out⟩
    case round =>
      obtain ⟨k, rfl, hk, hBk, HB⟩ := hrel
      by_cases hend : k < u.size
      · have hb8 := df.byte_lt u k
        have k1 := HB.out.cell (i := k) (x := df.byteAt u k) (by rw [mixT_get T u k k hend, if_neg (by omega)])
        have xTr : CBox wr (w.heap.size + 1) T := (hBk.block _ xT8.lt).trans xT8
        obtain ⟨x, hx⟩ : ∃ x, T[df.byteAt u k]? = some x := ⟨T[df.byteAt u k], List.getElem?_eq_getElem (by omega)⟩
        have k2 := xTr.cell hx
        have hxl := hT8 x (List.mem_of_getElem? hx)
        have fk := HB.out.fz (i := k) (by rw [mixT_len]; exact hend)
        have HB2 : Hid (BRow (wr.setCell ⟨w8.heap.size, k, none⟩ (.int .u8 (x : Int))) w8.heap.size (mixT T u (k + 1))) := by
          show BRow _ _ _
          have h1 := HB.out.set (i := k) (by rw [mixT_len]; exact hend) x
          rw [← mixT_set T u k hend, List.getD_eq_getElem?_getD, hx]
          exact h1
        have HB3 : Hid (Below w8.heap.size w8 (wr.setCell ⟨w8.heap.size, k, none⟩ (.int .u8 (x : Int)))) := hBk.setCell (p := ⟨w8.heap.size, k, none⟩) (by simp) _
        clear HB xTr hx HBR
        generalize df.byteAt u k = bb at *
        go_wp2_with (fail)
        go_roundw
        case rel => exact ⟨k + 1, by go_num, by omega, HB3.out, HB2.out⟩
        case measure => simp [intOf]; omega
      · obtain rfl : k = u.size := by omega
        have xr : df.DBox wr w.heap.size cs := x8.later hBk
        have xmr : df.DBox wr w3.heap.size mcs := xm8.later hBk
        have xnr : df.DBox wr w5.heap.size ncs := xn8.later hBk
        have HDr := (show Hid _ from HD8.out.later hBk)
        have HMr := (show Hid _ from HDM8.out.later hBk)
        have HNr := (show Hid _ from HDN8.out.later hBk)
        have HBr := (show Hid _ from df.chain B8 hBk)
        have hE1 : df.endsOf m u at' = df.endsOf d u at' := ends_same hr hmr HLm.out.lang u at'
        have hE2 : df.endsOf n u at' = df.endsOf d (tT T u) at' := ends_map hr hT2 hnr HLn.out.lang (tT_size T u) (fun i hi => tT_at T u hT2 i hi) at'
        have e1 : ∀ W, Kept wr W → Calls Try.prog 17 #[.agg cs, .string u, .int .i64 at'] W fun e w' => ∃ v, e = .returned v ∧ df.IntsV w' v (df.endsOf d u at') ∧ Below W.heap.size W w' := fun W h => df.ends_any d u at' (by omega) cs o cap ao acap W (HDr.out.later h)
        have e2 : ∀ W, Kept wr W → Calls Try.prog 17 #[.agg mcs, .string u, .int .i64 at'] W fun e w' => ∃ v, e = .returned v ∧ df.IntsV w' v (df.endsOf d u at') ∧ Below W.heap.size W w' := fun W h => by rw [← hE1]; exact df.ends_any m u at' (by omega) mcs mo mcap mao macap W (HMr.out.later h)
        have e3 : ∀ W, Kept wr W → Calls Try.prog 17 #[.agg cs, .string (tT T u), .int .i64 at'] W fun e w' => ∃ v, e = .returned v ∧ df.IntsV w' v (df.endsOf d (tT T u) at') ∧ Below W.heap.size W w' := fun W h => df.ends_any d (tT T u) at' (by rw [tT_size]; omega) cs o cap ao acap W (HDr.out.later h)
        have e4 : ∀ W, Kept wr W → Calls Try.prog 17 #[.agg ncs, .string u, .int .i64 at'] W fun e w' => ∃ v, e = .returned v ∧ df.IntsV w' v (df.endsOf d (tT T u) at') ∧ Below W.heap.size W w' := fun W h => by rw [← hE2]; exact df.ends_any n u at' (by omega) ncs no ncap nao nacap W (HNr.out.later h)
        have hcv : ∀ W, Kept wr W → (convert 37 9 (.slice (some ⟨w8.heap.size, 0, none⟩) u.size bc)).run Try.prog W = .ok (.string (tT T u)) W := fun W h => (HB.out.later h).conv hT2 bc
        have i1 := df.ints_any (df.endsOf d u at') (df.endsOf d u at') true (by simp)
        have i2 := df.ints_any (df.endsOf d (tT T u) at') (df.endsOf d (tT T u) at') true (by simp)
        have kR : Kept wr wr := Below.refl _ _
        generalize df.endsOf d u at' = E1 at *
        generalize df.endsOf d (tT T u) at' = E2 at *
        generalize tT T u = tt at *
        clear HB HBR hE1 hE2 HDr HMr HNr HD8 HDM8 HDN8 HLm HLn xT8 hT2 h15 hz
        go_wp2_with (fail)
        refine wp_region_held (S := Kept wr) (by kernel_rfl) ?_
        refine rg.take_op (i := 0) 73 rfl rfl (rg.yields_run rfl (fun W h => x_row26 (x := .tmp 4) rfl rfl hw8 (xr.later h))) (by kernel_rfl) (by kernel_rfl) (by kernel_rfl) (fun _ _ _ h => h) kR.drew ?_
        simp only [Act.put, List.setIfInBounds_toArray, List.set_cons_zero, List.set_cons_succ]
        refine rg.take_op (i := 1) 74 rfl rfl (rg.yields_run rfl (fun W h => rg.x_move (x := .tmp 2) rfl rfl)) (by kernel_rfl) (by kernel_rfl) (by kernel_rfl) (fun _ _ _ h => h) kR.drew ?_
        simp only [Act.put, List.setIfInBounds_toArray, List.set_cons_zero, List.set_cons_succ]
        refine rg.take_op (i := 2) 75 rfl rfl (rg.yields_run rfl (fun W h => rg.x_move (x := .tmp 3) rfl rfl)) (by kernel_rfl) (by kernel_rfl) (by kernel_rfl) (fun _ _ _ h => h) kR.drew ?_
        simp only [Act.put, List.setIfInBounds_toArray, List.set_cons_zero, List.set_cons_succ]
        refine rg.take_op (i := 4) 77 rfl rfl (rg.yields_run rfl (fun W h => x_row26 (x := .tmp 9) rfl rfl hms (xmr.later h))) (by kernel_rfl) (by kernel_rfl) (by kernel_rfl) (fun _ _ _ h => h) kR.drew ?_
        simp only [Act.put, List.setIfInBounds_toArray, List.set_cons_zero, List.set_cons_succ]
        refine rg.take_op (i := 5) 78 rfl rfl (rg.yields_run rfl (fun W h => rg.x_move (x := .tmp 2) rfl rfl)) (by kernel_rfl) (by kernel_rfl) (by kernel_rfl) (fun _ _ _ h => h) kR.drew ?_
        simp only [Act.put, List.setIfInBounds_toArray, List.set_cons_zero, List.set_cons_succ]
        refine rg.take_op (i := 6) 79 rfl rfl (rg.yields_run rfl (fun W h => rg.x_move (x := .tmp 3) rfl rfl)) (by kernel_rfl) (by kernel_rfl) (by kernel_rfl) (fun _ _ _ h => h) kR.drew ?_
        simp only [Act.put, List.setIfInBounds_toArray, List.set_cons_zero, List.set_cons_succ]
        refine rg.call_op 3 76 (f := 17) (args := #[.agg cs, .string u, .int .i64 at']) (by kernel_rfl) rfl rfl (by kernel_rfl) (by kernel_rfl) ((e1 _ kR.drew).mono ?_)
        rintro e W1 ⟨v1, rfl, hv1, hb1⟩
        have kr1 : Kept wr W1 := df.chain kR.drew hb1
        refine ⟨v1, rfl, kr1, ?_⟩
        simp only [Act.put, List.setIfInBounds_toArray, List.set_cons_zero, List.set_cons_succ]
        refine rg.call_op 7 80 (f := 17) (args := #[.agg mcs, .string u, .int .i64 at']) (by kernel_rfl) rfl rfl (by kernel_rfl) (by kernel_rfl) ((e2 _ kr1).mono ?_)
        rintro e W2 ⟨v2, rfl, hv2, hb2⟩
        have kr2 : Kept wr W2 := df.chain kr1 hb2
        refine ⟨v2, rfl, kr2, ?_⟩
        simp only [Act.put, List.setIfInBounds_toArray, List.set_cons_zero, List.set_cons_succ]
        refine rg.call_op 8 81 (f := 16) (args := #[v1, v2]) (by kernel_rfl) rfl rfl (by kernel_rfl) (by kernel_rfl) ((i1 v1 v2 W2 (hv1.later hb2) hv2).mono ?_)
        rintro e W3 ⟨rfl, hb3⟩
        have kr3 : Kept wr W3 := df.chain kr2 hb3
        refine ⟨_, rfl, kr3, ?_⟩
        simp only [Act.put, List.setIfInBounds_toArray, List.set_cons_zero, List.set_cons_succ]
        refine rg.take_op (i := 9) 82 rfl rfl (rg.yields_run (by kernel_rfl) (fun W h => rg.x_move (x := .tmp 81) rfl rfl)) (by kernel_rfl) (by kernel_rfl) (by kernel_rfl) (fun _ _ _ h => h) kr3 ?_
        simp only [Act.put, List.setIfInBounds_toArray, List.set_cons_zero, List.set_cons_succ]
        refine rg.take_op (i := 10) 83 rfl rfl (rg.yields_run (by kernel_rfl) (fun W h => x_row26 (x := .tmp 4) rfl rfl hw8 (xr.later h))) (by kernel_rfl) (by kernel_rfl) (by kernel_rfl) (fun _ _ _ h => h) kr3 ?_
        simp only [Act.put, List.setIfInBounds_toArray, List.set_cons_zero, List.set_cons_succ]
        refine rg.take_op (i := 11) 84 rfl rfl (rg.yields_run (by kernel_rfl) (fun W h => rg.x_move (x := .tmp 13) rfl rfl)) (by kernel_rfl) (by kernel_rfl) (by kernel_rfl) (fun _ _ _ h => h) kr3 ?_
        simp only [Act.put, List.setIfInBounds_toArray, List.set_cons_zero, List.set_cons_succ]
        refine rg.take_op (i := 12) 85 rfl rfl (rg.yields_run (by kernel_rfl) (fun W h => x_conv (x := .tmp 84) rfl rfl (hcv W h))) (by kernel_rfl) (by kernel_rfl) (by kernel_rfl) (fun _ _ _ h => h) kr3 ?_
        simp only [Act.put, List.setIfInBounds_toArray, List.set_cons_zero, List.set_cons_succ]
        refine rg.take_op (i := 13) 86 rfl rfl (rg.yields_run (by kernel_rfl) (fun W h => rg.x_move (x := .tmp 3) rfl rfl)) (by kernel_rfl) (by kernel_rfl) (by kernel_rfl) (fun _ _ _ h => h) kr3 ?_
        simp only [Act.put, List.setIfInBounds_toArray, List.set_cons_zero, List.set_cons_succ]
        refine rg.take_op (i := 15) 88 rfl rfl (rg.yields_run (by kernel_rfl) (fun W h => x_row26 (x := .tmp 11) rfl rfl hns (xnr.later h))) (by kernel_rfl) (by kernel_rfl) (by kernel_rfl) (fun _ _ _ h => h) kr3 ?_
        simp only [Act.put, List.setIfInBounds_toArray, List.set_cons_zero, List.set_cons_succ]
        refine rg.take_op (i := 16) 89 rfl rfl (rg.yields_run (by kernel_rfl) (fun W h => rg.x_move (x := .tmp 2) rfl rfl)) (by kernel_rfl) (by kernel_rfl) (by kernel_rfl) (fun _ _ _ h => h) kr3 ?_
        simp only [Act.put, List.setIfInBounds_toArray, List.set_cons_zero, List.set_cons_succ]
        refine rg.take_op (i := 17) 90 rfl rfl (rg.yields_run (by kernel_rfl) (fun W h => rg.x_move (x := .tmp 3) rfl rfl)) (by kernel_rfl) (by kernel_rfl) (by kernel_rfl) (fun _ _ _ h => h) kr3 ?_
        simp only [Act.put, List.setIfInBounds_toArray, List.set_cons_zero, List.set_cons_succ]
        refine rg.call_op 14 87 (f := 17) (args := #[.agg cs, .string tt, .int .i64 at']) (by kernel_rfl) rfl rfl (by kernel_rfl) (by kernel_rfl) ((e3 _ kr3).mono ?_)
        rintro e W4 ⟨v3, rfl, hv3, hb4⟩
        have kr4 : Kept wr W4 := df.chain kr3 hb4
        refine ⟨v3, rfl, kr4, ?_⟩
        simp only [Act.put, List.setIfInBounds_toArray, List.set_cons_zero, List.set_cons_succ]
        refine rg.call_op 18 91 (f := 17) (args := #[.agg ncs, .string u, .int .i64 at']) (by kernel_rfl) rfl rfl (by kernel_rfl) (by kernel_rfl) ((e4 _ kr4).mono ?_)
        rintro e W5 ⟨v4, rfl, hv4, hb5⟩
        have kr5 : Kept wr W5 := df.chain kr4 hb5
        refine ⟨v4, rfl, kr5, ?_⟩
        simp only [Act.put, List.setIfInBounds_toArray, List.set_cons_zero, List.set_cons_succ]
        refine rg.call_op 19 92 (f := 16) (args := #[v3, v4]) (by kernel_rfl) rfl rfl (by kernel_rfl) (by kernel_rfl) ((i2 v3 v4 W5 (hv3.later hb5) hv4).mono ?_)
        rintro e W6 ⟨rfl, hb6⟩
        have kr6 : Kept wr W6 := df.chain kr5 hb6
        refine ⟨_, rfl, kr6, ?_⟩
        simp only [Act.put, List.setIfInBounds_toArray, List.set_cons_zero, List.set_cons_succ]
        refine rg.take_op (i := 20) 93 rfl rfl (rg.yields_run (by kernel_rfl) (v := .bool true) (fun W h => by kernel_rfl)) (by kernel_rfl) (by kernel_rfl) (by kernel_rfl) (fun _ _ _ h => h) kr6 ?_
        simp only [Act.put, List.setIfInBounds_toArray, List.set_cons_zero, List.set_cons_succ]
        refine rg.take_op (i := 21) 8 rfl rfl (rg.yields_run (by kernel_rfl) (v := .bool true) (fun W h => by kernel_rfl)) (by kernel_rfl) (by kernel_rfl) (by kernel_rfl) (fun _ _ _ h => h) kr6 ?_
        simp only [Act.put, List.setIfInBounds_toArray, List.set_cons_zero, List.set_cons_succ]
        refine rg.done_op (by kernel_rfl) ?_
        go_wp2_with (fail)
        go_ret
        exact ⟨rfl, df.chain HBr.out kr6⟩
end Go.Proofs.Ytkdkibnjfgcppaa.mi
