/-
  Contracts over this program: Map.
-/
import Derived.Test.YtkdkibnjfgcppaaKMz
namespace Go.Proofs.Ytkdkibnjfgcppaa.mi
open Go.ChangeShapes Go.WideShapes Go.ChangeAt Go.RowKit Go.Shelf Go.Maps
set_option linter.unusedVariables false

theorem wp_build26_2 {oo : Oper} {a : Act} {w : World} {K : Act → World → Prop} {Q : Exit → Act → World → Prop} (x y : Operand) (ho : oo.op = .build 26 #[(1, x), (2, y)]) (v u : Value) (hx : a.eval x = v) (hy : a.eval y = u) (cells : Array Value) (hb : Try.prog.built 26 [(1, v), (2, u)] = some cells)
    (h : K (a.put oo.dst (.agg cells)) w) : oo.wp Try.prog a w K Q := by
  have e := run_build (P := Try.prog) w 26 #[(1, v), (2, u)] cells hb
  unfold Oper.wp execOp
  rw [ho]
  simp only [List.map_toArray, List.map_cons, List.map_nil, hx, hy, Sem.run_bind, e, Result.andThen_ok]
  exact h
theorem wpList_build26_2 {ops : Array Oper} {rest : List Oper} {oo : Oper} {a : Act} {w : World} {Q : Exit → Act → World → Prop} (hgd : oo.guard = none) (x y : Operand) (ho : oo.op = .build 26 #[(1, x), (2, y)]) (v u : Value) (hx : a.eval x = v) (hy : a.eval y = u) (cells : Array Value) (hb : Try.prog.built 26 [(1, v), (2, u)] = some cells)
    (h : wpList Try.prog ops Q rest (a.put oo.dst (.agg cells)) w) : wpList Try.prog ops Q (oo :: rest) a w :=
  wpList_plain hgd fun _ hK => wp_build26_2 x y ho v u hx hy cells hb (hK _ _ h)
/-- what Map answers -/
def Map13 (d : df.Dfa) (T : List Nat) (w : World) (e : Ending) (w' : World) : Prop :=
  (df.right d = false ∧ e = .returned (.tuple #[.agg z26, .int .i64 81]) ∧ Below w.heap.size w w') ∨
  (df.right d = true ∧ ∃ (d' : df.Dfa) (cs' : Array Value) (o' ao' : Option Addr) (cap' acap' : Nat), e = .returned (.tuple #[.agg cs', .int .i64 0]) ∧ df.DAt (fun b => w.heap.size ≤ b ∧ b < w'.heap.size) w' d' cs' o' cap' ao' acap' ∧ Least ((dm (mp d T)).lang (some 0)) ((List.range 256).map d'.cls) d'.next d'.acc ∧ Below w.heap.size w w' ∧ d'.next.length ≤ d.next.length)
set_option maxHeartbeats 2000000 in
set_option maxRecDepth 100000 in
theorem map13_any (d : df.Dfa) (T : List Nat) (hT : T.length = 256) (hT8 : ∀ x ∈ T, x < 256) (cs : Array Value) (o ao : Option Addr) (cap acap : Nat) (w : World) (hD : df.DAt (df.In w) w d cs o cap ao acap) :
    Calls Try.prog 13 #[.agg cs, .agg (ccs T)] w (Map13 d T w) := by
  have hz := zero26
  have hw8 := hD.size
  obtain ⟨wA, hwA⟩ : ∃ wA, wA = ((w.alloc (.cells cs 26)).alloc (.cells (ccs T) 22)).alloc (.cells z26 26) := ⟨_, rfl⟩
  have B0 : Below w.heap.size w wA := by rw [hwA]; exact (((Below.refl _ _).alloc (Nat.le_refl _) _).alloc (by simp) _).alloc (by simp; omega) _
  have hsA : wA.heap.size = w.heap.size + 1 + 1 + 1 := by rw [hwA]; simp
  have xA : df.DBox wA w.heap.size cs := by rw [hwA]; exact (Below.heap_alloc _ _ _ (by simp; omega)).trans ((Below.heap_alloc _ _ _ (by simp)).trans (df.dbox_new w cs))
  have xT : CBox wA (w.heap.size + 1) T := by rw [hwA]; have := heap_alloc_new (w.alloc (.cells cs 26)) (.cells (ccs T) 22); rw [World.size_alloc] at this; exact (Below.heap_alloc _ _ _ (by simp)).trans this
  have xR : df.DBox wA (w.heap.size + 1 + 1) z26 := by rw [hwA]; have := heap_alloc_new ((w.alloc (.cells cs 26)).alloc (.cells (ccs T) 22)) (.cells z26 26); rw [World.size_alloc, World.size_alloc] at this; exact this
  have c23 := df.right_any d _ rfl cs o cap ao acap wA (hD.later B0)
  have HD := (show Hid _ from hD)
  have HSA : Hid (wA.heap.size = w.heap.size + 1 + 1 + 1) := hsA
  clear hD
  go_enter Try.func13, Try.ntmps13
  go_wp2_with (fail)
  rw [← hwA]
  refine wp_load_row 26 (.tmp 2) rfl w.heap.size rfl 26 cs (0, 0) _ xA Try.underlying26 rfl (df.info26 cs hw8) ?_
  clear hwA
  go_wp2_with (fail)
  go_at_call 23
  refine c23.mono ?_
  rintro e w1 ⟨rfl, b1⟩
  have hb : Below w.heap.size w w1 := df.chain B0 b1
  have x1 : df.DBox w1 w.heap.size cs := xA.later b1
  have x2 : df.DBox w1 (w.heap.size + 1 + 1) z26 := xR.later b1
  have xT1 : CBox w1 (w.heap.size + 1) T := (b1.block _ xT.lt).trans xT
  have hs1 := b1.size
  cases hr : df.right d with
  | false =>
    have hbd := run26_0
    have hi26 := df.info26 z26 z26_size
    clear hz
    go_wp2_with (first | (refine wpList_store_row rfl 26 (.tmp 4) (.tmp 12) rfl (w.heap.size + 1 + 1) z26 rfl rfl 26 _ x2 hi26 rfl z26_one ?_))
    refine bodyPost_ret (by rw [results_cell_tmp Try.results13]; simp [asAddr, Result.andThen, run_loadVar_row (P := Try.prog) (w1.setRow (w.heap.size + 1 + 1) z26) (w.heap.size + 1 + 1) 26 26 z26 (0, 0) _ (setRow_heap w1 _ _ z26 _ _ x2) Try.underlying26 rfl hi26]; rfl) rfl ?_
    exact .inl ⟨hr, rfl, below_setRow hb (by omega) _⟩
  | true =>
    have k1 := x1.nx HD.out
    have k2 := x1.ac HD.out
    obtain ⟨M0, hbt, hDC⟩ := built26_2 (.slice o d.next.length cap) (.slice ao d.acc.length acap) rfl rfl d T
    have hst26 := store26 w1 M0 hDC.size hDC.one
    have hcc := hDC.size
    have hzz := z26_size
    obtain ⟨w2, hw2⟩ : ∃ w2, w2 = w1.alloc (.cells M0 26) := ⟨_, rfl⟩
    have b2 : Below w1.heap.size w1 w2 := by rw [hw2]; exact below_alloc w1 _
    have hs2 : w2.heap.size = w1.heap.size + 1 := by rw [hw2]; simp
    have hL2 : DL w2 w1.heap.size (xk d T 0) (.slice o d.next.length cap) (.slice ao d.acc.length acap) := by rw [hw2]; exact ⟨M0, heap_alloc_new w1 _, hDC⟩
    go_wp2_with (first | (refine wpList_build26_2 rfl (.tmp 14) (.tmp 16) rfl (.slice o d.next.length cap) (.slice ao d.acc.length acap) rfl rfl M0 hbt ?_) | (refine wp_build26_2 (.tmp 14) (.tmp 16) rfl (.slice o d.next.length cap) (.slice ao d.acc.length acap) rfl rfl M0 hbt ?_))
    rw [← hw2]
    have xT2 : CBox w2 (w.heap.size + 1) T := (b2.block _ xT1.lt).trans xT1
    refine wp_load_row 22 (.tmp 3) rfl (w.heap.size + 1) rfl 22 (ccs T) (0, 0) _ xT2 Try.underlying22 rfl (sizeC T hT) ?_
    clear hw2 hz hst26 hbt k1 k2 hcc hDC
    go_wp2_with (fail)
    go_loopw [19] (fun y W => ∃ k : Nat, y = .int .i64 (k : Int) ∧ k ≤ 256 ∧ Below w1.heap.size w1 W ∧ DL W w1.heap.size (xk d T k) (.slice o d.next.length cap) (.slice ao d.acc.length acap)) (fun y _ => 256 - (intOf y).toNat)
    case atStart => exact ⟨0, rfl, by omega, b2, hL2⟩
    case round =>
      obtain ⟨k, rfl, hk, hBk, hLk⟩ := hrel
      have x1k : df.DBox wr w.heap.size cs := x1.later hBk
      by_cases hlt : k < 256
      · obtain ⟨x, hx⟩ : ∃ x, T[k]? = some x := ⟨T[k], List.getElem?_eq_getElem (by omega)⟩
        have hidx := indexC T k hlt x hx
        have hx8 := hT8 x (List.mem_of_getElem? hx)
        have hcl := x1k.cl HD.out x hx8
        have hc8 := HD.out.c8 x
        obtain ⟨u, ku⟩ : ∃ u, wr.cell? ⟨w1.heap.size, k, none⟩ = some u := by
          obtain ⟨c, h1, h2⟩ := hLk
          exact ⟨_, by rw [Lib.cell_of_heap h1, h2.cl k hlt, xk_get _ _ _ _ hlt]; rfl⟩
        have fk := hLk.fz k
        have HL2 : Hid (DL (wr.setCell ⟨w1.heap.size, k, none⟩ (.int .u8 (d.cls x : Nat))) w1.heap.size (xk d T (k + 1)) (.slice o d.next.length cap) (.slice ao d.acc.length acap)) := by
          show DL _ _ _ _ _
          have h1 := hLk.setC k (d.cls x) hlt (xk_len _ _ _)
          rw [← xk_set d T k hlt, List.getD_eq_getElem?_getD, hx]
          exact h1
        have HB3 : Hid (Below w1.heap.size w1 (wr.setCell ⟨w1.heap.size, k, none⟩ (.int .u8 (d.cls x : Nat)))) := hBk.setCell (p := ⟨w1.heap.size, k, none⟩) (by simp) _
        clear hLk x1k
        generalize d.cls x = dx at *
        go_wp2_with (fail)
        go_roundw
        case rel => exact ⟨k + 1, by go_num, by omega, HB3.out, HL2.out⟩
        case measure => simp [intOf]; omega
      · obtain rfl : k = 256 := by omega
        obtain ⟨M, hM, hMC⟩ := hLk
        have hDr := HD.out.later (df.chain hb hBk)
        have hX8 : ∀ i, (mp d T).cls i < 256 := fun i => by
          show (xk d T 256).getD i 0 < 256
          rw [List.getD_eq_getElem?_getD]
          by_cases hi : i < 256
          · rw [xk_get _ _ _ _ hi, if_pos hi]; exact HD.out.c8 _
          · rw [List.getElem?_eq_none (by rw [xk_len]; omega)]; simp
        have hDM : df.DAt (df.In wr) wr (mp d T) M o cap ao acap := ⟨hMC.size, fun i hi => by
          rw [hMC.cl i hi, xk_get _ _ _ _ hi, mp_cls _ _ _ hi, if_pos hi]; rfl, hX8, hMC.nx, hMC.ac, hDr.rows, hDr.accs⟩
        have hT2 : ∀ i, i < 256 → T.getD i 0 < 256 := fun i hi => by
          rw [List.getD_eq_getElem?_getD, List.getElem?_eq_getElem (by omega)]; exact hT8 _ (List.getElem_mem _)
        have c24 := least_any (mp d T) (mp_right d T hr hT2) M o ao cap acap wr hDM
        have hM8 := hMC.size
        have hsk := hBk.size
        have x2k : df.DBox wr (w.heap.size + 1 + 1) z26 := x2.later hBk
        have HBk := (show Hid _ from df.chain hb hBk)
        clear hDM hX8 hDr hMC
        go_wp2_with (fail)
        refine wp_load_row 26 (.tmp 6) rfl w1.heap.size rfl 26 M (0, 0) _ hM Try.underlying26 rfl (df.info26 M hM8) ?_
        go_wp2_with (fail)
        go_at_call 24
        refine c24.mono ?_
        rintro e w4 ⟨d', cs', o', ao', cap', acap', rfl, hD', hL, b4, hle⟩
        have x3 : df.DBox w4 (w.heap.size + 1 + 1) z26 := x2k.later b4
        have hi26 := df.info26 cs' hD'.size
        have hcs := hD'.size
        have hon := dat_one hD'
        go_wp2_with (first | (refine wpList_store_row rfl 26 (.tmp 4) (.tmp 32) rfl (w.heap.size + 1 + 1) cs' rfl rfl 26 _ x3 hi26 (by rw [z26_size, hcs]) hon ?_))
        refine bodyPost_ret (by rw [results_cell_tmp Try.results13]; simp [asAddr, Result.andThen, run_loadVar_row (P := Try.prog) (w4.setRow (w.heap.size + 1 + 1) cs') (w.heap.size + 1 + 1) 26 26 cs' (0, 0) _ (setRow_heap w4 _ _ cs' _ _ x3) Try.underlying26 rfl hi26]; rfl) rfl ?_
        exact .inr ⟨hr, d', cs', o', ao', cap', acap', rfl, hD'.carry (fun k hk => setRow_other _ _ _ _ (by omega)) (fun k hk => ⟨by omega, by rw [setRow_size]; exact hk.2⟩), hL, below_setRow (df.chain HBk.out b4) (by omega) _, hle⟩
end Go.Proofs.Ytkdkibnjfgcppaa.mi
