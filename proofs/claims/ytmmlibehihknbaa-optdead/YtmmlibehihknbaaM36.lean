/-
  Texts put together: Contracts over this program: the document's Right, Ends and Longest (fretsawref08). A region that draws its order, at letters: one invariant over what is done, for any operations whose slots lie apart.
-/
import Derived.Test.YtmmlibehihknbaaM13
import Derived.BigQuiet
import Derived.Deep.MidRow
import Derived.Deep.QuietTactic
import Derived.Deep.RegionHeld3
import Derived.Laws.OwnMore
import Derived.LoopIn
import Derived.LoopNIn
import Derived.Maps.AppendAt
import Derived.OwnWalk
import Derived.OwnWalkIn
import Derived.RangeFuncBound
import Derived.RangeFuncBox
import Derived.RangeFuncCalls
import Derived.RangeFuncLeaves
import Derived.RangeFuncNested
import Derived.Shelf.Abstract
import Derived.Shelf.RegionOpen
import Derived.Sort.QuietIn
import Derived.TacticsInMore
import Derived.Test.YtmmlibehihknbaaM00
import Derived.RegionTactic
namespace Go.Proofs.Ytmmlibehihknbaa.df
open Go.ChangeShapes Go.WideShapes Go.ChangeAt Go.RowKit Go.Shelf
set_option linter.unusedVariables false
theorem rright_0 (d : Dfa) (g0 : d.next.length < 1) : RtIs 19 d false := by
  intro cs o cap ao acap w hD
  have hw8 := hD.size
  have hnx := hD.nx
  have hac := hD.ac
  have b0 := dbox_new w cs
  have k0 := b0.nx hD
  have k1 := b0.ac hD
  have hfit := hD.rows.fit
  have htop := hD.rows.top
  have hafit := hD.accs.fit
  have hatop := hD.accs.top
  clear hD
  generalize d.next.length = n at *
  generalize d.acc.length = m at *
  go_enter Try.func19, Try.ntmps19
  go_wp2_with (fail)
  go_ret
  exact ⟨rfl, below_alloc _ _⟩
theorem rright_1 (d : Dfa) (g0 : ¬ d.next.length < 1) (g1 : 400 < d.next.length) : RtIs 19 d false := by
  intro cs o cap ao acap w hD
  have hw8 := hD.size
  have hnx := hD.nx
  have hac := hD.ac
  have b0 := dbox_new w cs
  have k0 := b0.nx hD
  have k1 := b0.ac hD
  have hfit := hD.rows.fit
  have htop := hD.rows.top
  have hafit := hD.accs.fit
  have hatop := hD.accs.top
  clear hD
  generalize d.next.length = n at *
  generalize d.acc.length = m at *
  go_enter Try.func19, Try.ntmps19
  go_wp2_with (fail)
  go_ret
  exact ⟨rfl, below_alloc _ _⟩
theorem rright_2 (d : Dfa) (g0 : ¬ d.next.length < 1) (g1 : ¬ 400 < d.next.length) (g2 : d.acc.length ≠ d.next.length) : RtIs 19 d false := by
  intro cs o cap ao acap w hD
  have hw8 := hD.size
  have hnx := hD.nx
  have hac := hD.ac
  have b0 := dbox_new w cs
  have k0 := b0.nx hD
  have k1 := b0.ac hD
  have hfit := hD.rows.fit
  have htop := hD.rows.top
  have hafit := hD.accs.fit
  have hatop := hD.accs.top
  have f2 : ((d.acc.length : Int) == (d.next.length : Int)) = false := beq_eq_false_iff_ne.2 (by omega)
  have f3 : ((d.acc.length : Int) != (d.next.length : Int)) = true := bne_iff_ne.2 (by omega)
  clear hD
  generalize d.next.length = n at *
  generalize d.acc.length = m at *
  go_enter Try.func19, Try.ntmps19
  go_wp2_with (fail)
  go_ret
  exact ⟨rfl, below_alloc _ _⟩
theorem rright_3 (d : Dfa) (g0 : ¬ d.next.length < 1) (g1 : ¬ 400 < d.next.length) (g2 : d.acc.length = d.next.length) (g3 : width d < 1) : RtIs 19 d false := by
  intro cs o cap ao acap w hD
  have hw8 := hD.size
  have hnx := hD.nx
  have hac := hD.ac
  have b0 := dbox_new w cs
  have k0 := b0.nx hD
  have k1 := b0.ac hD
  have hfit := hD.rows.fit
  have htop := hD.rows.top
  have hafit := hD.accs.fit
  have hatop := hD.accs.top
  have f2 : ((d.acc.length : Int) == (d.next.length : Int)) = true := beq_iff_eq.2 (by omega)
  have f3 : ((d.acc.length : Int) != (d.next.length : Int)) = false := by rw [bne, f2]; rfl
  have f3' : (!((d.acc.length : Int) == (d.next.length : Int))) = false := by rw [f2]; rfl
  obtain ⟨b, off, oi, ci, rfl, hb, hc, hr⟩ := first_row hD.rows (by omega)
  have hrf := hr.fit
  have hrt := hr.top
  have hn1 : 1 ≤ d.next.length := by omega
  unfold width at *
  clear hD hr
  generalize (d.next[0]?.getD []).length = k at *
  generalize d.next.length = n at *
  generalize d.acc.length = m at *
  go_enter Try.func19, Try.ntmps19
  go_wp2_with (fail)
  go_ret
  exact ⟨rfl, below_alloc _ _⟩
theorem rright_4 (d : Dfa) (g0 : ¬ d.next.length < 1) (g1 : ¬ 400 < d.next.length) (g2 : d.acc.length = d.next.length) (g3 : ¬ width d < 1) (g4 : 256 < width d) : RtIs 19 d false := by
  intro cs o cap ao acap w hD
  have hw8 := hD.size
  have hnx := hD.nx
  have hac := hD.ac
  have b0 := dbox_new w cs
  have k0 := b0.nx hD
  have k1 := b0.ac hD
  have hfit := hD.rows.fit
  have htop := hD.rows.top
  have hafit := hD.accs.fit
  have hatop := hD.accs.top
  have f2 : ((d.acc.length : Int) == (d.next.length : Int)) = true := beq_iff_eq.2 (by omega)
  have f3 : ((d.acc.length : Int) != (d.next.length : Int)) = false := by rw [bne, f2]; rfl
  have f3' : (!((d.acc.length : Int) == (d.next.length : Int))) = false := by rw [f2]; rfl
  obtain ⟨b, off, oi, ci, rfl, hb, hc, hr⟩ := first_row hD.rows (by omega)
  have hrf := hr.fit
  have hrt := hr.top
  have hn1 : 1 ≤ d.next.length := by omega
  unfold width at *
  clear hD hr
  generalize (d.next[0]?.getD []).length = k at *
  generalize d.next.length = n at *
  generalize d.acc.length = m at *
  go_enter Try.func19, Try.ntmps19
  go_wp2_with (fail)
  go_ret
  exact ⟨rfl, below_alloc _ _⟩
open Go.ChangeShapes Go.WideShapes Go.ChangeAt Go.RowKit
set_option linter.unusedVariables false
set_option maxRecDepth 100000 in
set_option maxHeartbeats 2000000 in
theorem rright_loop (d : Dfa) (g0 : ¬ d.next.length < 1) (g1 : ¬ 400 < d.next.length) (g2 : d.acc.length = d.next.length) (g3 : ¬ width d < 1) (g4 : ¬ 256 < width d) (r : Bool) (hr : r = (d.next.all (rowOk d.next.length (width d)) && clsOk d)) : RtIs 19 d r := by
  intro cs o cap ao acap w hD
  have hw8 := hD.size
  have hnx := hD.nx
  have hac := hD.ac
  have b0 := dbox_new w cs
  have k0 := b0.nx hD
  have k1 := b0.ac hD
  have hfit := hD.rows.fit
  have htop := hD.rows.top
  have hafit := hD.accs.fit
  have hatop := hD.accs.top
  have f2 : ((d.acc.length : Int) == (d.next.length : Int)) = true := beq_iff_eq.2 (by omega)
  have f3 : ((d.acc.length : Int) != (d.next.length : Int)) = false := by rw [bne, f2]; rfl
  have f3' : (!((d.acc.length : Int) == (d.next.length : Int))) = false := by rw [f2]; rfl
  obtain ⟨b, off, oi, ci, rfl, hb, hc, hrw⟩ := first_row hD.rows (by omega)
  have hrf := hrw.fit
  have hrt := hrw.top
  have hn1 : 1 ≤ d.next.length := by omega
  have HK : Hid (width d = (d.next[0]?.getD []).length) := rfl
  rw [← HK.out] at hc hrf
  have HR : Hid (r = (d.next.all (rowOk d.next.length (width d)) && clsOk d)) := hr
  have HB := below_alloc w (.cells cs 36)
  have HD : Hid (DAt (In (w.alloc (.cells cs 36))) (w.alloc (.cells cs 36)) d cs (some ⟨b, off, none⟩) cap ao acap) := hD.later HB
  have hc1 : (w.alloc (.cells cs 36)).cell? ⟨b, off, none⟩ = some (.slice oi (width d) ci) := by rw [HK.out, (HB.cell (p := ⟨b, off, none⟩) hb)]; rw [← HK.out]; exact hc
  clear hD hr hrw HK
  have HW : Hid (∀ k, width d = k → (d.next.all (rowOk d.next.length k) && clsOk d) = r) := fun k hk => by rw [← hk]; exact HR.out.symm
  have HCK : Hid (∀ k, width d = k → ∀ j, (∀ i, i < j → d.cls i < k) → 256 ≤ j → clsOk d = true) := fun k hk j => cls_take d j k hk.symm
  have HCN : Hid (∀ k, width d = k → ∀ j, k ≤ d.cls j → j < 256 → clsOk d = false) := fun k hk j => cls_no d j k hk.symm
  obtain ⟨k, hk⟩ : ∃ k, width d = k := ⟨_, rfl⟩
  rw [hk] at g3 g4 hc hrf hc1
  have HW2 : Hid ((d.next.all (rowOk d.next.length k) && clsOk d) = r) := HW.out k hk
  have HCK2 := (show Hid (∀ j, (∀ i, i < j → d.cls i < k) → 256 ≤ j → clsOk d = true) from HCK.out k hk)
  have HCN2 := (show Hid (∀ j, k ≤ d.cls j → j < 256 → clsOk d = false) from HCN.out k hk)
  clear HW HCK HCN HR hk
  have h8 := HD.out.c8
  go_enter Try.func19, Try.ntmps19
  go_wp2_with (fail)
  obtain ⟨w1, hw1⟩ : ∃ x, x = w.alloc (.cells cs 36) := ⟨_, rfl⟩
  rw [← hw1] at HD HB b0 k0 k1 hc1 ⊢
  clear hb hc
  clear hw1
  go_loop [44] (fun y => ∃ i : Nat, y = .int .i64 i ∧ i ≤ d.next.length ∧ Hid ((d.next.take i).all (rowOk d.next.length k) = true)) (fun y => d.next.length - (intOf y).toNat)
  case atStart => exact ⟨0, rfl, by omega, by show _ = _; simp⟩
  case round =>
    obtain ⟨i, rfl, hil, HI⟩ := hrel
    by_cases hend : i < d.next.length
    · obtain ⟨oj, cj, hc, hrw⟩ := row_at HD.out.rows i hend
      have hjf := hrw.fit
      have hjt := hrw.top
      have hall := all_take (rowOk d.next.length k) d.next i hend
      have hno := all_no (rowOk d.next.length k) d.next i hend
      rw [HI.out, Bool.true_and] at hall
      obtain ⟨x, hx⟩ : ∃ x, x = d.next[i] := ⟨_, rfl⟩
      rw [← hx] at hc hall hno hrw hjf
      clear hx
      have HNO : Hid (rowOk d.next.length k x = false → r = false) := fun h => by rw [← HW2.out, hno h]; rfl
      have HALL : Hid ((d.next.take (i + 1)).all (rowOk d.next.length k) = rowOk d.next.length k x) := hall
      have HRW : Hid (Row (In w1) w1 iv oj cj x) := hrw
      clear hno hall HI hrw
      have hxk : x.length = k ∨ x.length ≠ k := Nat.decEq _ _ |>.em
      rcases hxk with hxk | hxk
      · have q1 : ((x.length : Int) == (k : Int)) = true := beq_iff_eq.2 (by omega)
        have q2 : ((x.length : Int) != (k : Int)) = false := by rw [bne, q1]; rfl
        have q3 : (x.length == k) = true := beq_iff_eq.2 hxk
        have HX : Hid (rowOk d.next.length k x = goOn d.next.length x) := by show _ = _; unfold rowOk; rw [q3, Bool.true_and]
        clear q3 hxk
        generalize d.next.length = n at *
        go_wp2_with (fail)
        go_loop [58] (fun y => ∃ j : Nat, y = .int .i64 j ∧ j ≤ x.length ∧ Hid ((x.take j).all (fun x => decide (-1 ≤ x) && decide (x < (n : Int))) = true)) (fun y => x.length - (intOf y).toNat)
        case atStart => exact ⟨0, rfl, by omega, by show _ = _; simp⟩
        case round =>
          obtain ⟨j, rfl, hjl, HJ⟩ := hrel
          by_cases hje : j < x.length
          · obtain ⟨b', off', rfl, hb', hcj⟩ := HRW.out.lie j hje
            have hall := all_take (fun x => decide (-1 ≤ x) && decide (x < (n : Int))) x j hje
            have hno := all_no (fun x => decide (-1 ≤ x) && decide (x < (n : Int))) x j hje
            rw [HJ.out, Bool.true_and] at hall
            unfold In at hb'
            obtain ⟨y, hy⟩ : ∃ y, y = x[j] := ⟨_, rfl⟩
            rw [← hy] at hcj hall hno
            clear hy
            have HNO2 : Hid ((decide (-1 ≤ y) && decide (y < (n : Int))) = false → r = false) := fun h => HNO.out (HX.out.trans (hno h))
            have HALL2 : Hid ((x.take (j + 1)).all (fun x => decide (-1 ≤ x) && decide (x < (n : Int))) = (decide (-1 ≤ y) && decide (y < (n : Int)))) := hall
            clear hno hall
            by_cases e0 : y < -1
            · have HF : Hid (r = false) := HNO2.out (by simp; omega)
              clear HNO2 HALL2
              go_wp2_with (fail)
              go_ret
              exact ⟨by rw [HF.out]; rfl, HB⟩
            · by_cases e1 : (n : Int) ≤ y
              · have HF : Hid (r = false) := HNO2.out (by simp; omega)
                clear HNO2 HALL2
                go_wp2_with (fail)
                go_ret
                exact ⟨by rw [HF.out]; rfl, HB⟩
              · have HT : Hid ((x.take (j + 1)).all (fun x => decide (-1 ≤ x) && decide (x < (n : Int))) = true) := by show _ = _; rw [HALL2.out]; simp; omega
                clear HNO2 HALL2
                go_wp2_with (fail)
                go_round
                case rel => exact ⟨j + 1, by go_num, by omega, HT⟩
                case measure => simp [intOf]; omega
          · have HT : Hid ((d.next.take (i + 1)).all (rowOk n k) = true) := by
              show _ = _
              have := HJ.out
              rw [List.take_of_length_le (by omega)] at this
              rw [HALL.out, HX.out]
              exact this
            go_wp2_with (fail)
            go_round
            case rel => exact ⟨i + 1, by go_num, by omega, HT⟩
            case measure => simp [intOf]; omega
      · have q1 : ((x.length : Int) == (k : Int)) = false := beq_eq_false_iff_ne.2 (by omega)
        have q2 : ((x.length : Int) != (k : Int)) = true := bne_iff_ne.2 (by omega)
        have HF : Hid (r = false) := HNO.out (by unfold rowOk; rw [beq_eq_false_iff_ne.2 hxk]; rfl)
        clear HNO HALL hxk
        go_wp2_with (fail)
        go_ret
        exact ⟨by rw [HF.out]; rfl, HB⟩
    · have HA : Hid (clsOk d = r) := by
        show _ = _
        have := HI.out
        rw [List.take_of_length_le (by omega)] at this
        rw [← HW2.out, this, Bool.true_and]
      clear HI HW2
      go_wp2_with (fail)
      go_loopw [8] (fun y wr => ∃ j : Nat, y = .int .i64 j ∧ j ≤ 256 ∧ Hid (∀ i, i < j → d.cls i < k) ∧ Below w1.heap.size w1 wr) (fun y _ => 256 - (intOf y).toNat)
      case atStart => exact ⟨0, rfl, by omega, fun i hi => by omega, Below.refl _ _⟩
      case round =>
        obtain ⟨j, rfl, hj, HJ, hBr⟩ := hrel
        by_cases hlt : j < 256
        · have hcl := (b0.later hBr).cl HD.out j hlt
          have hk0 := (b0.later hBr).nx HD.out
          have hc8 := h8 j
          have hbl : b < w1.heap.size := by obtain ⟨b', off', oi', ci', e, hb, _⟩ := HD.out.rows.lie 0 (by omega); cases e; exact hb
          have hc2 := (hBr.cell (p := ⟨b, off, none⟩) hbl).trans hc1
          have HC1 : Hid (k ≤ d.cls j → r = false) := fun h => HA.out.symm.trans (HCN2.out j h hlt)
          have HC2 : Hid (d.cls j < k → ∀ i, i < j + 1 → d.cls i < k) := fun h i hi => by
            rcases Nat.lt_succ_iff_lt_or_eq.1 hi with h2 | h2
            · exact HJ.out i h2
            · rw [h2]; exact h
          clear HJ
          generalize d.cls j = c at *
          by_cases hck : k ≤ c
          · have HF : Hid (r = false) := HC1.out hck
            go_wp2_with (fail)
            go_quiet (fail)
            go_wp2_with (fail)
            go_ret
            exact ⟨by rw [HF.out]; rfl, chain HB (below_drewN hBr _)⟩
          · have HT : Hid (∀ i, i < j + 1 → d.cls i < k) := HC2.out (by omega)
            clear HC1 HC2
            go_wp2_with (fail)
            go_quiet (fail)
            go_wp2_with (fail)
            go_roundw
            case rel => exact ⟨j + 1, by go_num, by omega, HT, below_drewN hBr _⟩
            case measure => simp [intOf]; omega
        · have HF : Hid (r = true) := HA.out.symm.trans (HCK2.out j HJ.out (by omega))
          go_wp2_with (fail)
          go_ret
          exact ⟨by rw [HF.out]; rfl, chain HB hBr⟩
theorem rright_any (d : Dfa) (r : Bool) (hr : r = right d) : RtIs 19 d r := by
  have no : (right d = false) → RtIs 19 d false → RtIs 19 d r := fun h h2 => by rw [hr, h]; exact h2
  by_cases g0 : d.next.length < 1
  · exact no (by unfold right; rw [decide_eq_false (by omega)]; simp) (rright_0 d g0)
  by_cases g1 : 400 < d.next.length
  · exact no (by unfold right; rw [decide_eq_false (p := d.next.length ≤ 400) (by omega)]; simp) (rright_1 d g0 g1)
  by_cases g2 : d.acc.length = d.next.length
  · by_cases g3 : width d < 1
    · exact no (by unfold right; rw [decide_eq_false (p := 1 ≤ width d) (by omega)]; simp) (rright_3 d g0 g1 g2 g3)
    by_cases g4 : 256 < width d
    · exact no (by unfold right; rw [decide_eq_false (p := width d ≤ 256) (by omega)]; simp) (rright_4 d g0 g1 g2 g3 g4)
    refine rright_loop d g0 g1 g2 g3 g4 r ?_
    rw [hr]
    unfold right
    rw [decide_eq_true (by omega), decide_eq_true (by omega), decide_eq_true (by omega), decide_eq_true (by omega), beq_iff_eq.2 g2]
    simp
  · exact no (by unfold right; rw [beq_eq_false_iff_ne.2 g2]; simp) (rright_2 d g0 g1 g2)
open Go.RowKit Go.Shelf
set_option linter.unusedVariables false
set_option maxRecDepth 100000 in
set_option maxHeartbeats 2000000 in
theorem rends_any (d : Dfa) (s : ByteArray) (at' : Nat) (hr : right d = true) (hat : at' ≤ s.size) (hs : s.size ≤ 1000000000000) : EdIs 37 d s at' := by
  intro cs o cap ao acap w hD
  have hok := ok_of d hr
  have hw8 := hD.size
  have b0 := dbox_new w cs
  have HB0 := below_alloc w (.cells cs 36)
  have hn1 := hok.one
  have hn4 := hok.most
  have hna := hok.accs
  have hafit := hD.accs.fit
  have hatop := hD.accs.top
  have hfit := hD.rows.fit
  have htop := hD.rows.top
  have HOK : Hid (Ok d) := hok
  have HD : Hid (DAt (In (w.alloc (.cells cs 36))) (w.alloc (.cells cs 36)) d cs o cap ao acap) := hD.later HB0
  have HL : Hid ((ends d s (s.size - at') 0 at').length ≤ s.size + 1) := Nat.le_trans (ends_len _ _ _ _ _) (by omega)
  have e0 : endsOf d s at' = ends d s (s.size - at') 0 at' := by unfold endsOf; rw [if_pos ⟨hr, by omega, by omega⟩]; simp
  rw [e0]
  clear hok hD e0
  obtain ⟨full, hfull⟩ : ∃ full, full = ends d s (s.size - at') 0 at' := ⟨_, rfl⟩
  have HI : Hid (full = [] ++ ends d s (s.size - at') (0 : Int) at') := hfull
  rw [← hfull] at HL ⊢
  clear hfull
  go_enter Try.func37, Try.ntmps37
  go_wp2_with (fail)
  have hw1s : (w.alloc (.cells cs 36)).heap.size = w.heap.size + 1 := by simp
  have HBx : Hid (∀ W, Below (w.heap.size + 1) (w.alloc (.cells cs 36)) W → DBox W w.heap.size cs) := fun W hW => (hW.block _ (by omega)).trans b0
  have HDx : Hid (∀ W, Below (w.heap.size + 1) (w.alloc (.cells cs 36)) W → DAt (In (w.alloc (.cells cs 36))) W d cs o cap ao acap) := fun W hW => HD.out.carry (fun b hb => hW.block b (by unfold In at hb; omega)) (fun _ => id)
  have HBf : Hid (∀ W, Below (w.heap.size + 1) (w.alloc (.cells cs 36)) W → Below w.heap.size w W) := fun W hW => chain HB0 (by rw [hw1s]; exact hW)
  have hst : Owns ((w.alloc (.cells cs 36)).alloc (.cells #[] 3)) (w.heap.size + 1) (.slice (some ⟨w.heap.size + 1, 0, none⟩) 0 0) [] := by
    refine ⟨rfl, .inr ⟨w.heap.size + 1, 0, #[], rfl, Nat.le_refl _, ?_, Nat.le_refl _, Nat.zero_le _, rfl, rfl⟩⟩
    have := World.alloc_heap_new (w.alloc (.cells cs 36)) (.cells #[] 3)
    rwa [hw1s] at this
  go_loopw [2, 7, 8] (fun y v x wr => ∃ (q t : Nat) (pre : List Int), x = .int .i64 q ∧ y = .int .i64 t ∧ q < d.next.length ∧ t ≤ s.size ∧ Hid (full = pre ++ ends d s (s.size - t) q t) ∧ Owns wr (w.heap.size + 1) v pre ∧ Below (w.heap.size + 1) (w.alloc (.cells cs 36)) wr) (fun y _ _ _ => s.size + 1 - (intOf y).toNat)
  case atStart => exact ⟨0, at', [], rfl, rfl, by omega, hat, HI, hst, (Below.refl _ _).alloc (by omega) _⟩
  case round =>
    obtain ⟨q, t, pre, rfl, rfl, hq, ht, HE, hrow, hB⟩ := hrel
    have hpl : pre.length ≤ 1000000000001 := by have := HL.out; rw [HE.out, List.length_append] at this; omega
    have hrow0 := hrow
    have kb := HBx.out wr hB
    have kx := kb.ac HD.out
    have ky := kb.nx HD.out
    obtain ⟨ab, aoff, rfl, hpa, hca⟩ := acc_at (HDx.out wr hB) q (by omega)
    obtain ⟨gv, cv, rfl⟩ := own_slice hrow
    clear kb b0
    cases hacc : acpt d q with
    | true =>
      rw [hacc] at hca
      have hh := here_yes d q t hacc
      by_cases htt : s.size ≤ t
      · have HF : Hid (full = pre ++ [(t : Int)]) := by show _ = _; rw [HE.out, ends_end d s q t (by omega), hh]
        clear HE hh
        go_wp2_with (at_builtin; refine wpList_append_int rfl _ _ rfl (w.heap.size + 1) _ pre (t : Int) wr.heap.size rfl rfl (hrow.alloc _) (by simp) (by omega) (by have := hB.size; simp at this; simp; omega) ?_; intro g' cap' w2 hown2 hgr2; clear hrow; have hB2 : Below (w.heap.size + 1) (w.alloc (.cells cs 36)) w2 := (hB.alloc (by have := hB.size; simp at this; omega) _).grown hgr2 (by have := hB.size; simp at this; simp; omega) (own_ge hrow0); have kb2 := HBx.out w2 hB2; have kx2 := kb2.ac HD.out; have ky2 := kb2.nx HD.out)
        go_ret
        exact ⟨_, rfl, by rw [HF.out]; exact ints_of_owns hown2, HBf.out _ hB2⟩
      · have htt2 : t < s.size := by omega
        have HF : Hid (full = (pre ++ [(t : Int)]) ++ ends d s (s.size - (t + 1)) (nxt d q (d.cls s[t].toNat)) (t + 1)) := by show _ = _; rw [HE.out, ends_more d s q t htt2, hh, List.append_assoc]
        clear HE hh
        go_wp2_with (at_builtin; refine wpList_append_int rfl _ _ rfl (w.heap.size + 1) _ pre (t : Int) wr.heap.size rfl rfl (hrow.alloc _) (by simp) (by omega) (by have := hB.size; simp at this; simp; omega) ?_; intro g' cap' w2 hown2 hgr2; clear hrow; have hB2 : Below (w.heap.size + 1) (w.alloc (.cells cs 36)) w2 := (hB.alloc (by have := hB.size; simp at this; omega) _).grown hgr2 (by have := hB.size; simp at this; simp; omega) (own_ge hrow0); have kb2 := HBx.out w2 hB2; have kx2 := kb2.ac HD.out; have ky2 := kb2.nx HD.out)
        have hcw := HOK.out.cl s[t].toNat (UInt8.toNat_lt _)
        have hno := nxt_ok HOK.out q _ hq hcw
        have D2 := HDx.out _ hB2
        have j0 := kb2.cl D2 s[t].toNat (UInt8.toNat_lt _)
        have h8 := D2.c8 s[t].toNat
        obtain ⟨b, off, b', off', ci, e1, hc1, hw1, hw2, hc2⟩ := nxt_at D2 HOK.out q _ hq hcw
        subst e1
        have hb8 : s[t].toNat < 256 := UInt8.toNat_lt _
        clear D2 HBx HDx
        generalize width d = k at *
        go_quiet (fail)
        by_cases hneg : nxt d q (d.cls s[t].toNat) < 0
        · have HG : Hid (full = pre ++ [(t : Int)]) := by show _ = _; rw [HF.out, ends_neg d s _ _ _ hneg, List.append_nil]
          have g1 : (nxt d q (d.cls s[t].toNat) == -1) = true := beq_iff_eq.2 (by omega)
          clear HF
          generalize nxt d q (d.cls s[t].toNat) = z at *
          go_wp2_with (fail)
          go_ret
          exact ⟨_, rfl, by rw [HG.out]; exact ints_of_owns (owns_drewN hown2 _), below_drewN (HBf.out _ hB2) _⟩
        · have g1 : (nxt d q (d.cls s[t].toNat) == -1) = false := beq_eq_false_iff_ne.2 (by omega)
          obtain ⟨z, hz⟩ : ∃ z : Nat, nxt d q (d.cls s[t].toNat) = (z : Int) := ⟨(nxt d q (d.cls s[t].toNat)).toNat, by omega⟩
          rw [hz] at HF hno g1 hc2 ⊢
          clear hz hneg
          go_wp2_with (fail)
          go_roundw
          case rel => exact ⟨z, t + 1, _, rfl, by go_num, by omega, by omega, HF, owns_drewN hown2 _, below_drewN hB2 _⟩
          case measure => simp [intOf]; omega
    | false =>
      rw [hacc] at hca
      have hh := here_no d q t hacc
      by_cases htt : s.size ≤ t
      · have HF : Hid (full = pre) := by show _ = _; rw [HE.out, ends_end d s q t (by omega), hh, List.append_nil]
        clear HE hh
        go_wp2_with (fail)
        go_ret
        exact ⟨_, rfl, by rw [HF.out]; exact ints_of_owns hrow0, HBf.out _ hB⟩
      · have htt2 : t < s.size := by omega
        have HF : Hid (full = pre ++ ends d s (s.size - (t + 1)) (nxt d q (d.cls s[t].toNat)) (t + 1)) := by show _ = _; rw [HE.out, ends_more d s q t htt2, hh, List.nil_append]
        clear HE hh
        have hown2 := hrow0
        have hB2 := hB
        have kb2 := HBx.out _ hB
        go_wp2_with (fail)
        have hcw := HOK.out.cl s[t].toNat (UInt8.toNat_lt _)
        have hno := nxt_ok HOK.out q _ hq hcw
        have D2 := HDx.out _ hB2
        have j0 := kb2.cl D2 s[t].toNat (UInt8.toNat_lt _)
        have h8 := D2.c8 s[t].toNat
        obtain ⟨b, off, b', off', ci, e1, hc1, hw1, hw2, hc2⟩ := nxt_at D2 HOK.out q _ hq hcw
        subst e1
        have hb8 : s[t].toNat < 256 := UInt8.toNat_lt _
        clear D2 HBx HDx
        generalize width d = k at *
        go_quiet (fail)
        by_cases hneg : nxt d q (d.cls s[t].toNat) < 0
        · have HG : Hid (full = pre) := by show _ = _; rw [HF.out, ends_neg d s _ _ _ hneg, List.append_nil]
          have g1 : (nxt d q (d.cls s[t].toNat) == -1) = true := beq_iff_eq.2 (by omega)
          clear HF
          generalize nxt d q (d.cls s[t].toNat) = z at *
          go_wp2_with (fail)
          go_ret
          exact ⟨_, rfl, by rw [HG.out]; exact ints_of_owns (owns_drewN hown2 _), below_drewN (HBf.out _ hB2) _⟩
        · have g1 : (nxt d q (d.cls s[t].toNat) == -1) = false := beq_eq_false_iff_ne.2 (by omega)
          obtain ⟨z, hz⟩ : ∃ z : Nat, nxt d q (d.cls s[t].toNat) = (z : Int) := ⟨(nxt d q (d.cls s[t].toNat)).toNat, by omega⟩
          rw [hz] at HF hno g1 hc2 ⊢
          clear hz hneg
          go_wp2_with (fail)
          go_roundw
          case rel => exact ⟨z, t + 1, _, rfl, by go_num, by omega, by omega, HF, owns_drewN hown2 _, below_drewN hB2 _⟩
          case measure => simp [intOf]; omega
open Go.RowKit Go.Shelf
set_option linter.unusedVariables false
set_option maxRecDepth 100000 in
set_option maxHeartbeats 1000000 in
theorem rlongest_any (d : Dfa) (s : ByteArray) (at' : Nat) (hr : right d = true) (hat : at' ≤ s.size) (hs : s.size ≤ 1000000000000) (r : Int) (hR : r = (endsOf d s at').getLast?.getD (-1)) : LgIs 32 d s at' r := by
  intro cs o cap ao acap w hD
  have hw8 := hD.size
  have b0 := dbox_new w cs
  have HB0 := below_alloc w (.cells cs 36)
  have h23 := rends_any d s at' hr hat hs cs o cap ao acap _ (hD.later HB0)
  have hlen := endsOf_len d s at'
  obtain ⟨full, hfull⟩ : ∃ full, full = endsOf d s at' := ⟨_, rfl⟩
  rw [← hfull] at h23 hR hlen
  have HR : Hid (r = full.getLast?.getD (-1)) := hR
  clear hD hfull hR
  by_cases h0 : full.length = 0
  · have e : full = [] := List.length_eq_zero_iff.1 h0
    subst e
    have HE : Hid (r = -1) := HR.out
    clear HR h0
    go_enter Try.func32, Try.ntmps32
    go_wp2_with (first | (refine wpList_load_row rfl 36 (.tmp 3) rfl w.heap.size rfl 36 cs (0, 0) _ b0 Try.underlying36 rfl (info36 cs hw8) ?_) | (go_at_call 37; (refine h23.mono ?_); rintro e w3 ⟨v, rfl, ⟨vo, vc, rfl, hv⟩, b3⟩))
    go_ret
    exact ⟨by rw [HE.out]; rfl, chain HB0 b3⟩
  · have f0 : ((full.length : Int) == 0) = false := beq_eq_false_iff_ne.2 (by omega)
    have hl1 : 1 ≤ full.length := by omega
    have hw : IntKind.i64.wrap ((full.length : Int) - 1) = ((full.length - 1 : Nat) : Int) := by
      have : (full.length : Int) - 1 = ((full.length - 1 : Nat) : Int) := by omega
      rw [this]
      exact IntWalk.i64_in _ (by omega)
    clear h0
    go_enter Try.func32, Try.ntmps32
    go_wp2_with (first | (refine wpList_load_row rfl 36 (.tmp 3) rfl w.heap.size rfl 36 cs (0, 0) _ b0 Try.underlying36 rfl (info36 cs hw8) ?_) | (go_at_call 37; (refine h23.mono ?_); rintro e w3 ⟨v, rfl, ⟨vo, vc, rfl, hv⟩, b3⟩; have hvf := hv.fit; have hvt := hv.top; obtain ⟨vb, voff, rfl, hvb, hvc⟩ := ints_last hv hl1; rw [← HR.out] at hvc))
    go_ret
    exact ⟨rfl, chain HB0 b3⟩
end Go.Proofs.Ytmmlibehihknbaa.df

namespace Go.Proofs.Ytmmlibehihknbaa.dw
open Go.RowKit
set_option linter.unusedVariables false

def Lst (listed : Array Bool) (i : Nat) : Prop := listed.getD i false = true
def slot (ops : Array Oper) (i : Nat) : Option Nat := ops[i]?.bind (·.dst)
def need (ops : Array Oper) (i j : Nat) : Bool := ((ops[i]?.map (·.after)).getD #[]).any fun e => e.on == j && Region.binds .any e
def okAt (ops : Array Oper) (M i : Nat) : Bool :=
  (match slot ops i with
    | some t => decide (t < M) && (List.range ops.size).all fun j => i == j || slot ops j != some t
    | none => true) &&
  (((ops[i]?.map (·.after)).getD #[]).all fun e => !Region.binds .any e || decide (e.on < i))
def okB (ops : Array Oper) (M : Nat) : Bool := (List.range ops.size).all (okAt ops M)
section
variable {ops : Array Oper} {M : Nat}
theorem ok_at (h : okB ops M = true) {i : Nat} (hi : i < ops.size) : okAt ops M i = true := List.all_eq_true.1 h i (List.mem_range.2 hi)
theorem slot_lt (h : okB ops M = true) {i t : Nat} (hi : i < ops.size) (ht : slot ops i = some t) : t < M := by
  have h1 := ok_at h hi
  unfold okAt at h1
  rw [ht] at h1
  simp only [Bool.and_eq_true, decide_eq_true_eq] at h1
  exact h1.1.1
theorem slot_inj (h : okB ops M = true) {i j t : Nat} (hi : i < ops.size) (hj : j < ops.size) (ht : slot ops i = some t) (hu : slot ops j = some t) : i = j := by
  have h1 := ok_at h hi
  unfold okAt at h1
  rw [ht] at h1
  simp only [Bool.and_eq_true, List.all_eq_true, List.mem_range, Bool.or_eq_true, beq_iff_eq, bne_iff_ne] at h1
  rcases h1.1.2 j hj with h2 | h2
  · exact h2
  · exact absurd hu h2
theorem ready_of {listed : Array Bool} {i : Nat} (h : i ∈ Region.ready .any ops listed) : i < ops.size ∧ listed.getD i true = false ∧ ∀ j, need ops i j = true → Lst listed j := by
  unfold Region.ready at h
  rw [List.mem_filter] at h
  obtain ⟨h1, h2⟩ := h
  have hi : i < ops.size := by simpa using h1
  simp only [Bool.and_eq_true, Bool.not_eq_true'] at h2
  refine ⟨hi, h2.1, fun j hj => ?_⟩
  have h3 := h2.2
  unfold need at hj
  rw [Array.getElem?_eq_getElem hi] at h3 hj
  simp only [Option.map_some, Option.getD_some] at h3 hj
  rw [Array.any_eq_true'] at hj
  obtain ⟨e, he, hb⟩ := hj
  simp only [Bool.and_eq_true, beq_iff_eq] at hb
  have h4 := (Array.all_eq_true_iff_forall_mem.1 h3) e he
  rw [hb.2, hb.1] at h4
  unfold Lst
  simpa using h4
theorem all_of (hok : okB ops M = true) {listed : Array Bool} (hs : listed.size = ops.size) (h : Region.ready .any ops listed = []) : ∀ i, i < ops.size → Lst listed i := by
  intro i
  induction i using Nat.strongRecOn with
  | ind i ih =>
    intro hi
    by_cases hl : Lst listed i
    · exact hl
    · exfalso
      have hm : i ∈ Region.ready .any ops listed := by
        unfold Region.ready
        rw [List.mem_filter]
        refine ⟨by simpa using hi, ?_⟩
        simp only [Bool.and_eq_true, Bool.not_eq_true']
        refine ⟨?_, ?_⟩
        · unfold Lst at hl
          rw [Array.getD_eq_getD_getElem?] at hl ⊢
          rw [Array.getElem?_eq_getElem (by omega)] at hl ⊢
          simpa using hl
        · have h8 := ok_at hok hi
          unfold okAt at h8
          rw [Bool.and_eq_true] at h8
          have h9 := h8.2
          rw [Array.getElem?_eq_getElem hi] at h9 ⊢
          simp only [Option.map_some, Option.getD_some] at h9 ⊢
          rw [Array.all_eq_true_iff_forall_mem]
          intro e he
          have h5 := (Array.all_eq_true_iff_forall_mem.1 h9) e he
          cases hb : Region.binds .any e with
          | false => rfl
          | true =>
            rw [hb] at h5
            have h6 : e.on < i := by simpa using h5
            have h7 := ih e.on h6 (by omega)
            unfold Lst at h7
            simp [h7]
      rw [h] at hm
      cases hm
theorem lst_set {listed : Array Bool} {n : Nat} (hs : listed.size = n) {i : Nat} (hi : i < n) (j : Nat) : Lst (listed.setIfInBounds i true) j ↔ j = i ∨ Lst listed j := by
  unfold Lst
  rw [Array.getD_eq_getD_getElem?, Array.getD_eq_getD_getElem?, Array.getElem?_setIfInBounds]
  by_cases h : i = j
  · subst h; simp [hs, hi]
  · rw [if_neg h]
    constructor
    · exact .inr
    · rintro (e | e)
      · exact absurd e.symm h
      · exact e
theorem not_lst {listed : Array Bool} {n : Nat} (hs : listed.size = n) {i : Nat} (hi : i < n) (h : listed.getD i true = false) : ¬ Lst listed i := by
  unfold Lst
  rw [Array.getD_eq_getD_getElem?] at h ⊢
  rw [Array.getElem?_eq_getElem (by omega)] at h ⊢
  simp at h ⊢
  exact h
theorem lst_lt {listed : Array Bool} {n : Nat} (hs : listed.size = n) {i : Nat} (h : Lst listed i) : i < n := by
  unfold Lst at h
  rcases Nat.lt_or_ge i n with h1 | h1
  · exact h1
  · rw [Array.getD_eq_getD_getElem?, Array.getElem?_eq_none (by omega)] at h
    cases h
end
def upd (f : Nat → Value) (i : Nat) (v : Value) : Nat → Value := fun j => if j = i then v else f j
theorem upd_same (f : Nat → Value) (i : Nat) (v : Value) : upd f i v i = v := by simp [upd]
theorem upd_ne (f : Nat → Value) {i j : Nat} (v : Value) (h : j ≠ i) : upd f i v j = f j := by simp [upd, h]

/-- what the frame holds -/
structure Fr (ops : Array Oper) (a0 a : Act) (d : Nat → Prop) (vals : Nat → Value) : Prop where
  size : a.tmps.size = a0.tmps.size
  defers : a.defers = a0.defers
  done : ∀ i t, d i → slot ops i = some t → a.tmps[t]? = some (vals i)
  other : ∀ t, (∀ i, d i → slot ops i ≠ some t) → a.tmps[t]? = a0.tmps[t]?
section
variable {ops : Array Oper} {a0 a : Act} {d : Nat → Prop} {vals : Nat → Value}
theorem Fr.put (hok : okB ops a0.tmps.size = true) (h : Fr ops a0 a d vals) (hd : ∀ j, d j → j < ops.size) {i : Nat} (hi : i < ops.size) (hn : ¬ d i) (v : Value) : Fr ops a0 (a.put (slot ops i) v) (fun j => j = i ∨ d j) (upd vals i v) := by
  cases ht : slot ops i with
  | none =>
    refine ⟨h.size, h.defers, fun j t hj hs => ?_, fun t ht' => h.other t fun j hj => ht' j (.inr hj)⟩
    rcases hj with e | hj
    · rw [e, ht] at hs; cases hs
    · rw [upd_ne _ _ (fun e : j = i => hn (e ▸ hj))]; exact h.done j t hj hs
  | some t =>
    have htl := slot_lt hok hi ht
    refine ⟨by simp [Act.put, h.size], h.defers, fun j t' hj hs => ?_, fun t' ht' => ?_⟩
    · show (a.tmps.setIfInBounds t v)[t']? = _
      rcases hj with e | hj
      · rw [e, ht] at hs
        cases hs
        rw [e, Array.getElem?_setIfInBounds, if_pos rfl, if_pos (by rw [h.size]; exact htl), upd_same]
      · have hne : j ≠ i := fun e => hn (e ▸ hj)
        have htn : t ≠ t' := fun e => hne (slot_inj hok (hd j hj) hi (by rw [hs, e]) ht)
        rw [Array.getElem?_setIfInBounds, if_neg htn, upd_ne _ _ hne]
        exact h.done j t' hj hs
    · show (a.tmps.setIfInBounds t v)[t']? = _
      have htn : t ≠ t' := fun e => ht' i (.inl rfl) (by rw [ht, e])
      rw [Array.getElem?_setIfInBounds, if_neg htn]
      exact h.other t' fun j hj => ht' j (.inr hj)
theorem Fr.eval (h : Fr ops a0 a d vals) (i : Nat) {t : Nat} (hi : d i) (ht : slot ops i = some t) : a.eval (.tmp t) = vals i := by
  have := h.done i t hi ht
  simp [Act.eval, this]
theorem Fr.base (h : Fr ops a0 a d vals) (t : Nat) (ht : ∀ i, d i → slot ops i ≠ some t) : a.eval (.tmp t) = a0.eval (.tmp t) := by
  have := h.other t ht
  simp [Act.eval, this]
theorem Fr.uniq {b : Act} (h : Fr ops a0 a d vals) (k : Fr ops a0 b d vals) : a = b := by
  have ht : a.tmps = b.tmps := by
    apply Array.ext_getElem?
    intro t
    by_cases e : ∃ i, d i ∧ slot ops i = some t
    · obtain ⟨i, h1, h2⟩ := e
      rw [h.done i t h1 h2, k.done i t h1 h2]
    · rw [h.other t fun i h1 h2 => e ⟨i, h1, h2⟩, k.other t fun i h1 h2 => e ⟨i, h1, h2⟩]
  have hd : a.defers = b.defers := h.defers.trans k.defers.symm
  cases a; cases b; simp_all
end
/-- the frame behind the region -/
def fold : List Oper → Nat → (Nat → Value) → Act → Act
  | [], _, _, a => a
  | o :: os, i, vals, a => fold os (i + 1) vals (a.put o.dst (vals i))
theorem put_none (a : Act) (v : Value) : a.put none v = a := rfl
theorem Fr.congr {ops : Array Oper} {a0 a : Act} {d e : Nat → Prop} {vals ws : Nat → Value} (h : Fr ops a0 a d vals) (he : ∀ i, d i ↔ e i) (hv : ∀ i, d i → vals i = ws i) : Fr ops a0 a e ws :=
  ⟨h.size, h.defers, fun i t hi hs => by rw [h.done i t ((he i).2 hi) hs, hv i ((he i).2 hi)], fun t ht => h.other t fun i hi => ht i ((he i).1 hi)⟩
theorem fold_fr {ops : Array Oper} {a0 : Act} (hok : okB ops a0.tmps.size = true) (vals : Nat → Value) : ∀ (os : List Oper) (i : Nat) (a : Act), i + os.length = ops.size → (∀ j, os[j]? = ops[i + j]?) → Fr ops a0 a (fun j => j < i) vals → Fr ops a0 (fold os i vals a) (fun j => j < ops.size) vals
  | [], i, a, hl, hg, h => by
    have : i = ops.size := by simpa using hl
    rw [this] at h
    exact h
  | o :: os, i, a, hl, hg, h => by
    have hi : i < ops.size := by simp at hl; omega
    have h0 := hg 0
    simp at h0
    have hs : slot ops i = o.dst := by unfold slot; rw [← h0]; rfl
    have h1 := Fr.put hok h (fun j hj => by omega) hi (by omega) (vals i)
    rw [hs] at h1
    refine fold_fr hok vals os (i + 1) _ (by simp at hl; omega) (fun j => ?_) (h1.congr (fun j => by omega) (fun j hj => ?_))
    · have := hg (j + 1)
      simp at this
      rw [this]
      congr 1
      omega
    · by_cases e : j = i
      · rw [e, upd_same]
      · rw [upd_ne _ _ e]
theorem frame_all {ops : Array Oper} {a0 a : Act} (hok : okB ops a0.tmps.size = true) {vals : Nat → Value} (h : Fr ops a0 a (fun j => j < ops.size) vals) : a = fold ops.toList 0 vals a0 :=
  h.uniq (fold_fr hok vals ops.toList 0 a0 (by simp) (fun j => by simp) ⟨rfl, rfl, fun i t hi => absurd hi (by omega), fun t _ => rfl⟩)

theorem count_step {listed : Array Bool} {n : Nat} (hs : listed.size = n) {i : Nat} (hi : i < n) (hf : listed.getD i true = false) {fuel : Nat} (h : listed.toList.count false ≤ fuel + 1) : (listed.setIfInBounds i true).toList.count false ≤ fuel := by
  have hl : i < listed.toList.length := by simpa [hs] using hi
  have he : listed.toList[i] = false := by
    rw [Array.getD_eq_getD_getElem?, Array.getElem?_eq_getElem (by omega)] at hf
    simpa using hf
  rw [Array.toList_setIfInBounds, List.count_set hl]
  simp [he, -Array.count_toList]
  omega
theorem none_ready {ops : Array Oper} {listed : Array Bool} (hs : listed.size = ops.size) (h : listed.toList.count false ≤ 0) : Region.ready .any ops listed = [] := by
  have h0 : listed.toList.count false = 0 := by omega
  rw [List.count_eq_zero] at h0
  cases hr : Region.ready .any ops listed with
  | nil => rfl
  | cons i r =>
    exfalso
    have hm : i ∈ Region.ready .any ops listed := by rw [hr]; exact List.mem_cons_self
    obtain ⟨hi, hf, _⟩ := ready_of hm
    rw [Array.getD_eq_getD_getElem?, Array.getElem?_eq_getElem (by omega)] at hf
    exact h0 (by rw [← show listed[i] = false by simpa using hf]; exact Array.getElem_mem_toList _)

/-- one operation keeps what is said of memory -/
def StepOk (ops : Array Oper) (a0 : Act) (fix : Nat → Option Value) (Wd : (Nat → Prop) → (Nat → Value) → World → Prop) (i : Nat) : Prop :=
  ∀ (d : Nat → Prop) (vals : Nat → Value) (a : Act) (w : World) (o : Oper), ops[i]? = some o → ¬ d i → (∀ j, need ops i j = true → d j) → (∀ j, d j → j < ops.size) → (∀ k j, d k → need ops k j = true → d j) → Fr ops a0 a d vals → (∀ j, d j → ∀ u, fix j = some u → vals j = u) → Wd d vals w →
    ∀ (K : Act → World → Prop) (Q : Exit → Act → World → Prop) (E : Prop), (∀ v w', (∀ u, fix i = some u → v = u) → Wd (fun j => j = i ∨ d j) (upd vals i v) w' → K (a.put o.dst v) w') → if Region.wanted o (yielded ops a.tmps) = true then Oper.wp Try.prog o a w K Q else E
theorem walk {ops : Array Oper} {a0 : Act} {Q : Exit → Act → World → Prop} (hok : okB ops a0.tmps.size = true) {fix : Nat → Option Value} {Wd : (Nat → Prop) → (Nat → Value) → World → Prop} (step : ∀ i, i < ops.size → StepOk ops a0 fix Wd i)
    (fin : ∀ vals w, (∀ j, j < ops.size → ∀ u, fix j = some u → vals j = u) → Wd (fun j => j < ops.size) vals w → Q .normal (fold ops.toList 0 vals a0) w) :
    ∀ (fuel : Nat) (listed : Array Bool) (a : Act) (w : World) (vals : Nat → Value), listed.size = ops.size → (∀ k j, Lst listed k → need ops k j = true → Lst listed j) → Fr ops a0 a (Lst listed) vals → (∀ j, Lst listed j → ∀ u, fix j = some u → vals j = u) → Wd (Lst listed) vals w → listed.toList.count false ≤ fuel → wpAny Try.prog .any ops Q fuel listed a w := by
  have done : ∀ (listed : Array Bool) (a : Act) (w : World) (vals : Nat → Value), listed.size = ops.size → Fr ops a0 a (Lst listed) vals → (∀ j, Lst listed j → ∀ u, fix j = some u → vals j = u) → Wd (Lst listed) vals w → Region.ready .any ops listed = [] → Q .normal a w := fun listed a w vals hs hf hx hw hr => by
    have hall := all_of hok hs hr
    have e : Lst listed = fun j => j < ops.size := funext fun j => propext ⟨fun h => lst_lt hs h, fun h => hall j h⟩
    rw [e] at hf hx hw
    rw [frame_all hok hf]
    exact fin vals w hx hw
  intro fuel
  induction fuel with
  | zero =>
    intro listed a w vals hs hcl hf hx hw hc
    have hr := none_ready hs hc
    exact ⟨hr, done listed a w vals hs hf hx hw hr⟩
  | succ fuel ih =>
    intro listed a w vals hs hcl hf hx hw hc
    refine ⟨fun hr => done listed a w vals hs hf hx hw hr, fun i hm => ?_⟩
    obtain ⟨hi, hl, hn⟩ := ready_of hm
    have hnl := not_lst hs hi hl
    have e : Lst (listed.setIfInBounds i true) = fun j => j = i ∨ Lst listed j := funext fun j => propext (lst_set hs hi j)
    refine wpOp_step (Array.getElem?_eq_getElem hi) fun K' hK => ?_
    refine step i hi (Lst listed) vals a w _ (Array.getElem?_eq_getElem hi) hnl hn (fun j hj => lst_lt hs hj) hcl hf hx hw K' Q _ fun v w' hv hw' => hK _ _ ?_
    refine ih (listed.setIfInBounds i true) _ w' (upd vals i v) (by simpa using hs) ?_ ?_ ?_ (by rw [e]; exact hw') (count_step hs hi hl hc)
    · rw [e]
      rintro k j (rfl | hk) hkj
      · exact .inr (hn j hkj)
      · exact .inr (hcl k j hk hkj)
    · rw [e]
      have := Fr.put hok hf (fun j hj => lst_lt hs hj) hi hnl v
      have hsl : slot ops i = ops[i].dst := by unfold slot; rw [Array.getElem?_eq_getElem hi]; rfl
      rw [hsl] at this
      exact this
    · rw [e]
      rintro j (rfl | hj) u hu
      · rw [upd_same]; exact hv u hu
      · rw [upd_ne _ _ (fun e2 : j = i => hnl (e2 ▸ hj))]; exact hx j hj u hu
theorem region {ops : Array Oper} {id : Nat} {a0 : Act} {w0 : World} {Q : Exit → Act → World → Prop} (hP : Try.prog.follows .mixedOrders = true) (hok : okB ops a0.tmps.size = true) (fix : Nat → Option Value) (Wd : (Nat → Prop) → (Nat → Value) → World → Prop) (start : ∀ vals, Wd (fun _ => False) vals w0.drew) (step : ∀ i, i < ops.size → StepOk ops a0 fix Wd i)
    (fin : ∀ vals w, (∀ j, j < ops.size → ∀ u, fix j = some u → vals j = u) → Wd (fun j => j < ops.size) vals w → Q .normal (fold ops.toList 0 vals a0) w) : (Code.region id ops true).wp Try.prog Q a0 w0 := by
  have no : ∀ i, ¬ Lst (Array.replicate ops.size false) i := fun i h => by
    unfold Lst at h
    rw [Array.getD_eq_getD_getElem?, Array.getElem?_replicate] at h
    split at h <;> cases h
  have e : Lst (Array.replicate ops.size false) = fun _ => False := funext fun j => propext ⟨fun h => no j h, fun h => h.elim⟩
  refine wp_region_any hP ?_
  refine walk hok step fin ops.size _ a0 _ (fun _ => undef) (by simp) (fun k j hk => absurd hk (no k)) ⟨rfl, rfl, fun i t hi => absurd hi (no i), fun t _ => rfl⟩ (fun j hj => absurd hj (no j)) (by rw [e]; exact start _) (by simp)

theorem op_of {ops : Array Oper} {i : Nat} {o : Oper} {p : Op} (ho : ops[i]? = some o) (h : ops[i]?.map (·.op) = some p) : o.op = p := by
  rw [ho] at h; exact Option.some.inj h
theorem gd_of {ops : Array Oper} {i : Nat} {o : Oper} (ho : ops[i]? = some o) (h : ops[i]?.map (·.guard.isNone) = some true) : o.guard = none := by
  rw [ho] at h; exact Option.isNone_iff_eq_none.1 (Option.some.inj h)
section
variable {o : Oper} {a : Act} {w : World}
theorem x_move {x : Operand} (h : o.op = .move x) : (execOp a.eval o).run Try.prog w = .ok (.value (a.eval x)) w := by
  unfold execOp; rw [h]; rfl
theorem x_assign {x : Operand} (h : o.op = .assign x) : (execOp a.eval o).run Try.prog w = .ok (.value (a.eval x)) w := by
  unfold execOp; rw [h]; rfl
theorem x_nil {x : Operand} {p : Addr} (h : o.op = .nilCheck x) (hx : a.eval x = .pointer (some p)) : (execOp a.eval o).run Try.prog w = .ok (.value (.pointer (some p))) w := by
  unfold execOp; rw [h]; simp only [hx]; rfl
theorem x_field {x : Operand} {T f : Nat} {p q : Addr} (h : o.op = .fieldAddr T x f) (hx : a.eval x = .pointer (some p)) (hf : (Instr.fieldAt T (.pointer (some p)) f).run Try.prog w = .ok (.pointer (some q)) w) : (execOp a.eval o).run Try.prog w = .ok (.value (.pointer (some q))) w := by
  unfold execOp; rw [h]; simp only [hx, Sem.run_bind, hf, Result.andThen_ok, Sem.run_pure]
end
section
variable {o : Oper} {a : Act} {w : World} {ops : Array Oper} {K : Act → World → Prop} {Q : Exit → Act → World → Prop} {E : Prop}
theorem s_val {v : Value} {w' : World} (hg : o.guard = none) (h : (execOp a.eval o).run Try.prog w = .ok (.value v) w') (hk : K (a.put o.dst v) w') : if Region.wanted o (yielded ops a.tmps) = true then Oper.wp Try.prog o a w K Q else E := by
  have hw : Region.wanted o (yielded ops a.tmps) = true := by simp [Region.wanted, hg]
  rw [if_pos hw]; unfold Oper.wp; rw [h]; exact hk
theorem s_skip {w' : World} (hg : o.guard = none) (h : (execOp a.eval o).run Try.prog w = .ok .skip w') (hk : K (a.put o.dst undef) w') : if Region.wanted o (yielded ops a.tmps) = true then Oper.wp Try.prog o a w K Q else E := by
  have hw : Region.wanted o (yielded ops a.tmps) = true := by simp [Region.wanted, hg]
  rw [if_pos hw]; unfold Oper.wp; rw [h]; exact hk
theorem s_call {f : Nat} {args : Array Value} {R : Ending → World → Prop} (hg : o.guard = none) (h : (execOp a.eval o).run Try.prog w = .ok (.enter f args) w) (hc : Calls Try.prog f args w R)
    (hk : ∀ e w', R e w' → ∃ v, e = .returned v ∧ K (a.put o.dst v) w') : if Region.wanted o (yielded ops a.tmps) = true then Oper.wp Try.prog o a w K Q else E := by
  have hw : Region.wanted o (yielded ops a.tmps) = true := by simp [Region.wanted, hg]
  rw [if_pos hw]; unfold Oper.wp; rw [h, Oper.upon_enter]
  refine hc.mono ?_
  intro e w' hr
  obtain ⟨v, rfl, hk'⟩ := hk e w' hr
  exact hk'
end
end Go.Proofs.Ytmmlibehihknbaa.dw
