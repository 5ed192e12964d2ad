/-
  Contracts over this program: the document's Like of two dfas that are the same.
-/
import Derived.Test.YtkdkibnjfgcppaaKNb
import Derived.Test.YtkdkibnjfgcppaaKDk
import Derived.ChangeKeysEq
namespace Go.Proofs.Ytkdkibnjfgcppaa.mi
open Go.ChangeShapes Go.WideShapes Go.ChangeAt Go.RowKit Go.Shelf Go.Maps
set_option linter.unusedVariables false

theorem info5 : (Try.prog.info? 5).isSome = true := by kernel_rfl
theorem eq_items (xs : Array Value) (W : World) : ∀ is : List Nat, (∀ j ∈ is, ∃ k : Nat, xs[j]? = some (.int .u8 (k : Int))) → (Op.eqItems 9999 5 1 xs xs is).run Try.prog W = .ok true W
  | [], _ => rfl
  | j :: is, h => by
    obtain ⟨k, hk⟩ := h j (by simp)
    have hp : (part 5 xs (j * 1)).run Try.prog W = .ok (.int .u8 (k : Int)) W := by
      have ha : (isAgg 5).run Try.prog W = .ok false W := Try.isAgg5 W
      simp [part, ha, hk]
    have he := run_equalIn_int (P := Try.prog) (w := W) 9998 5 .u8 .u8 (k : Int) (k : Int) Try.underlying5
    simp only [Op.eqItems, Sem.run_bind, hp, Result.andThen_ok, he]
    simp only [beq_self_eq_true, Bool.not_true, Bool.false_eq_true, if_false]
    exact eq_items xs W is fun j hj => h j (by simp [hj])
theorem eq_classes (xs : Array Value) (h : ∀ i, i < 256 → ∃ k : Nat, xs[i]? = some (.int .u8 (k : Int))) (W : World) : (Op.equalIn 10000 22 (.agg xs) (.agg xs)).run Try.prog W = .ok true W := by
  obtain ⟨i, hi⟩ := Option.isSome_iff_exists.1 info5
  have c5 : Try.prog.cellsOf 5 = 1 := by kernel_rfl
  rw [run_equalIn_array (P := Try.prog) (w := W) 9999 xs xs Try.underlying22 hi, c5]
  exact eq_items xs W _ fun j hj => h j (List.mem_range.1 hj)
theorem cls_ext {P Q : Nat → Prop} {w w' : World} {d : df.Dfa} {cs cs' : Array Value} {o ao o' ao' : Option Addr} {cap acap cap' acap' : Nat} (h : df.DAt P w d cs o cap ao acap) (h' : df.DAt Q w' d cs' o' cap' ao' acap') : cs'.extract 0 256 = cs.extract 0 256 := by
  apply Array.ext_getElem?
  intro i
  rw [Array.getElem?_extract, Array.getElem?_extract]
  have h1 := h.size
  have h2 := h'.size
  by_cases hi : i < 256
  · rw [if_pos (by omega), if_pos (by omega), Nat.zero_add, h.cl i hi, h'.cl i hi]
  · rw [if_neg (by omega), if_neg (by omega)]
theorem wp_load22 {oo : Oper} {a : Act} {w : World} {K : Act → World → Prop} {Q : Exit → Act → World → Prop} (x : Operand) (ho : oo.op = .load 22 x) (g : Nat) (hx : a.eval x = .pointer (some ⟨g, 0, none⟩)) (cs : Array Value) (hg : df.DBox w g cs) (hs : cs.size = 258)
    (h : K (a.put oo.dst (.agg (cs.extract 0 256))) w) : oo.wp Try.prog a w K Q := by
  unfold Oper.wp execOp
  simp only [ho, hx, Instr.loadAt, Instr.sureAddr, Sem.run_bind, Sem.run_pure, Result.andThen_ok, df.run_load22 w g cs hg hs]
  exact h
set_option maxHeartbeats 4000000 in
set_option maxRecDepth 100000 in
theorem like_any (d : df.Dfa) (cs : Array Value) (o ao : Option Addr) (cap acap : Nat) (cs' : Array Value) (o' ao' : Option Addr) (cap' acap' : Nat) (w : World) (hD : df.DAt (df.In w) w d cs o cap ao acap) (hD' : df.DAt (df.In w) w d cs' o' cap' ao' acap') :
    Calls Try.prog 10 #[.agg cs, .agg cs'] w fun e w' => e = .returned (.bool true) ∧ Below w.heap.size w w' := by
  have hs := hD.size
  have hs' := hD'.size
  obtain ⟨wA, hwA⟩ : ∃ wA, wA = (w.alloc (.cells cs 26)).alloc (.cells cs' 26) := ⟨_, rfl⟩
  have B0 : Below w.heap.size w wA := by rw [hwA]; exact ((Below.refl _ _).alloc (Nat.le_refl _) _).alloc (by simp) _
  have xA : df.DBox wA w.heap.size cs := by rw [hwA]; exact (Below.heap_alloc _ _ _ (by simp)).trans (df.dbox_new w cs)
  have xB : df.DBox wA (w.heap.size + 1) cs' := by rw [hwA]; have := heap_alloc_new (w.alloc (.cells cs 26)) (.cells cs' 26); rw [World.size_alloc] at this; exact this
  have hA := hD.later B0
  have hB := hD'.later B0
  have heq : ∀ W, (Op.equalIn 10000 22 (.agg (cs.extract 0 256)) (.agg (cs'.extract 0 256))).run Try.prog W = .ok true W := fun W => by
    rw [cls_ext hD hD']
    refine eq_classes _ (fun i hi => ⟨d.cls i, ?_⟩) W
    rw [Array.getElem?_extract, if_pos (by omega), Nat.zero_add, hD.cl i hi]
  have f1 := hA.rows.fit
  have f2 := hA.rows.top
  have f3 := hB.rows.fit
  have f4 := hB.rows.top
  have f5 := hA.accs.fit
  have f6 := hA.accs.top
  have f7 := hB.accs.fit
  have f8 := hB.accs.top
  have y1 := xA.nx hA
  have y2 := xB.nx hB
  have y3 := xA.ac hA
  have y4 := xB.ac hB
  have HA := (show Hid _ from hA)
  have HB := (show Hid _ from hB)
  have XA := (show Hid (df.DBox wA w.heap.size cs) from xA)
  have XB := (show Hid (df.DBox wA (w.heap.size + 1) cs') from xB)
  clear hD hD' hA hB
  go_enter Try.func10, Try.ntmps10
  go_wp2_with (fail)
  rw [← hwA]
  clear hwA
  refine wp_load22 (.tmp 8) rfl w.heap.size rfl cs xA hs ?_
  go_wp2_with (fail)
  refine wp_load22 (.tmp 10) rfl (w.heap.size + 1) rfl cs' xB hs' ?_
  go_wp2_with (fail)
  clear heq
  clear xA xB y1 y2 y3 y4
  go_loopw [34] (fun y wr => ∃ i : Nat, y = .int .i64 i ∧ i ≤ d.next.length ∧ Below wA.heap.size wA wr) (fun y _ => d.next.length - (intOf y).toNat)
  case atStart => exact ⟨0, rfl, by omega, Below.refl _ _⟩
  case round =>
    obtain ⟨i, rfl, hi, hBi⟩ := hrel
    by_cases hend : i < d.next.length
    · have z1 := (XA.out.later hBi).nx HA.out
      have z2 := (XB.out.later hBi).nx HB.out
      obtain ⟨b, off, oi, ci, rfl, hb, hc, hr⟩ := HA.out.rows.lie i hend
      obtain ⟨b', off', oi', ci', rfl, hb', hc', hr'⟩ := HB.out.rows.lie i hend
      have k1 := (hBi.cell (p := ⟨b, off + i, none⟩) hb).trans hc
      have k2 := (hBi.cell (p := ⟨b', off' + i, none⟩) hb').trans hc'
      have g1 := hr.fit
      have g2 := hr.top
      have g3 := hr'.fit
      have g4 := hr'.top
      have HRA := (show Hid (df.Row (df.In wA) wA df.iv oi ci d.next[i]) from hr)
      have HRB := (show Hid (df.Row (df.In wA) wA df.iv oi' ci' d.next[i]) from hr')
      have HC1 := (show Hid _ from hc)
      have HC2 := (show Hid _ from hc')
      clear hr hr' hc hc'
      generalize d.next[i] = R at *
      go_wp2_with (fail)
      go_quiet (fail)
      go_wp2_with (fail)
      clear z1 z2 k1 k2
      go_loopw [56] (fun y wr => ∃ j : Nat, y = .int .i64 j ∧ j ≤ R.length ∧ Below wA.heap.size wA wr) (fun y _ => R.length - (intOf y).toNat)
      case atStart => exact ⟨0, rfl, by omega, df.below_drewN hBi _⟩
      case round =>
        obtain ⟨j, rfl, hj, hBj⟩ := hrel
        by_cases hje : j < R.length
        · have z1 := (XA.out.later hBj).nx HA.out
          have z2 := (XB.out.later hBj).nx HB.out
          have k1 := (hBj.cell (p := ⟨b, off + i, none⟩) hb).trans HC1.out
          have k2 := (hBj.cell (p := ⟨b', off' + i, none⟩) hb').trans HC2.out
          obtain ⟨rb, roff, rfl, hrb, hrc⟩ := HRA.out.lie j hje
          obtain ⟨rb', roff', rfl, hrb', hrc'⟩ := HRB.out.lie j hje
          have k3 := (hBj.cell (p := ⟨rb, roff + j, none⟩) hrb).trans hrc
          have k4 := (hBj.cell (p := ⟨rb', roff' + j, none⟩) hrb').trans hrc'
          generalize R[j] = x at *
          clear hrc hrc'
          go_wp2_with (fail)
          go_quiet (fail)
          go_wp2_with (fail)
          go_roundw
          case rel => exact ⟨j + 1, by go_num, by omega, df.below_drewN hBj _⟩
          case measure => simp [intOf]; omega
        · go_wp2_with (fail)
          go_roundw
          case rel => exact ⟨i + 1, by go_num, by omega, hBj⟩
          case measure => simp [intOf]; omega
    · have z3 := (XA.out.later hBi).ac HA.out
      go_wp2_with (fail)
      clear z3
      go_loopw [81] (fun y wr => ∃ j : Nat, y = .int .i64 j ∧ j ≤ d.acc.length ∧ Below wA.heap.size wA wr) (fun y _ => d.acc.length - (intOf y).toNat)
      case atStart => exact ⟨0, rfl, by omega, hBi⟩
      case round =>
        obtain ⟨j, rfl, hj, hBj⟩ := hrel
        by_cases hje : j < d.acc.length
        · have z3 := (XA.out.later hBj).ac HA.out
          have z4 := (XB.out.later hBj).ac HB.out
          obtain ⟨rb, roff, rfl, hrb, hrc⟩ := HA.out.accs.lie j hje
          obtain ⟨rb', roff', rfl, hrb', hrc'⟩ := HB.out.accs.lie j hje
          have k3 := (hBj.cell (p := ⟨rb, roff + j, none⟩) hrb).trans hrc
          have k4 := (hBj.cell (p := ⟨rb', roff' + j, none⟩) hrb').trans hrc'
          have hxx : (d.acc[j] == d.acc[j]) = true := by simp
          generalize d.acc[j] = x at *
          clear hrc hrc'
          go_wp2_with (fail)
          go_quiet (fail)
          go_wp2_with (fail)
          go_roundw
          case rel => exact ⟨j + 1, by go_num, by omega, df.below_drewN hBj _⟩
          case measure => simp [intOf]; omega
        · go_wp2_with (fail)
          go_ret
          exact ⟨rfl, df.chain B0 hBj⟩
end Go.Proofs.Ytkdkibnjfgcppaa.mi
