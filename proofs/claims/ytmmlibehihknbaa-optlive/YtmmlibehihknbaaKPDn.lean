/-
  Contracts over this program: the document's Right, Ends and Longest (fretsawref08).
-/
import Derived.Test.YtmmlibehihknbaaM13
import Derived.BigQuiet
import Derived.Deep.MidRow
import Derived.Deep.QuietTactic
import Derived.Deep.RegionHeld3
import Derived.Laws.OwnMore
import Derived.LoopIn
import Derived.LoopNIn
import Derived.Maps.AppendAt
import Derived.OwnWalk
import Derived.OwnWalkIn
import Derived.RangeFuncBound
import Derived.RangeFuncBox
import Derived.RangeFuncCalls
import Derived.RangeFuncLeaves
import Derived.RangeFuncNested
import Derived.Shelf.Abstract
import Derived.Shelf.RegionOpen
import Derived.Sort.QuietIn
import Derived.TacticsInMore
namespace Go.Proofs.Ytmmlibehihknbaa.df
open Go.ChangeShapes Go.WideShapes Go.ChangeAt Go.RowKit Go.Shelf
set_option linter.unusedVariables false
theorem rright_0 (d : Dfa) (g0 : d.next.length < 1) : RtIs 19 d false := by
  intro cs o cap ao acap w hD
  have hw8 := hD.size
  have hnx := hD.nx
  have hac := hD.ac
  have b0 := dbox_new w cs
  have k0 := b0.nx hD
  have k1 := b0.ac hD
  have hfit := hD.rows.fit
  have htop := hD.rows.top
  have hafit := hD.accs.fit
  have hatop := hD.accs.top
  clear hD
  generalize d.next.length = n at *
  generalize d.acc.length = m at *
  go_enter Try.func19, Try.ntmps19
  go_wp2_with (fail)
  go_ret
  exact ⟨rfl, below_alloc _ _⟩
theorem rright_1 (d : Dfa) (g0 : ¬ d.next.length < 1) (g1 : 400 < d.next.length) : RtIs 19 d false := by
  intro cs o cap ao acap w hD
  have hw8 := hD.size
  have hnx := hD.nx
  have hac := hD.ac
  have b0 := dbox_new w cs
  have k0 := b0.nx hD
  have k1 := b0.ac hD
  have hfit := hD.rows.fit
  have htop := hD.rows.top
  have hafit := hD.accs.fit
  have hatop := hD.accs.top
  clear hD
  generalize d.next.length = n at *
  generalize d.acc.length = m at *
  go_enter Try.func19, Try.ntmps19
  go_wp2_with (fail)
  go_ret
  exact ⟨rfl, below_alloc _ _⟩
theorem rright_2 (d : Dfa) (g0 : ¬ d.next.length < 1) (g1 : ¬ 400 < d.next.length) (g2 : d.acc.length ≠ d.next.length) : RtIs 19 d false := by
  intro cs o cap ao acap w hD
  have hw8 := hD.size
  have hnx := hD.nx
  have hac := hD.ac
  have b0 := dbox_new w cs
  have k0 := b0.nx hD
  have k1 := b0.ac hD
  have hfit := hD.rows.fit
  have htop := hD.rows.top
  have hafit := hD.accs.fit
  have hatop := hD.accs.top
  have f2 : ((d.acc.length : Int) == (d.next.length : Int)) = false := beq_eq_false_iff_ne.2 (by omega)
  have f3 : ((d.acc.length : Int) != (d.next.length : Int)) = true := bne_iff_ne.2 (by omega)
  clear hD
  generalize d.next.length = n at *
  generalize d.acc.length = m at *
  go_enter Try.func19, Try.ntmps19
  go_wp2_with (fail)
  go_ret
  exact ⟨rfl, below_alloc _ _⟩
theorem rright_3 (d : Dfa) (g0 : ¬ d.next.length < 1) (g1 : ¬ 400 < d.next.length) (g2 : d.acc.length = d.next.length) (g3 : width d < 1) : RtIs 19 d false := by
  intro cs o cap ao acap w hD
  have hw8 := hD.size
  have hnx := hD.nx
  have hac := hD.ac
  have b0 := dbox_new w cs
  have k0 := b0.nx hD
  have k1 := b0.ac hD
  have hfit := hD.rows.fit
  have htop := hD.rows.top
  have hafit := hD.accs.fit
  have hatop := hD.accs.top
  have f2 : ((d.acc.length : Int) == (d.next.length : Int)) = true := beq_iff_eq.2 (by omega)
  have f3 : ((d.acc.length : Int) != (d.next.length : Int)) = false := by rw [bne, f2]; rfl
  have f3' : (!((d.acc.length : Int) == (d.next.length : Int))) = false := by rw [f2]; rfl
  obtain ⟨b, off, oi, ci, rfl, hb, hc, hr⟩ := first_row hD.rows (by omega)
  have hrf := hr.fit
  have hrt := hr.top
  have hn1 : 1 ≤ d.next.length := by omega
  unfold width at *
  clear hD hr
  generalize (d.next[0]?.getD []).length = k at *
  generalize d.next.length = n at *
  generalize d.acc.length = m at *
  go_enter Try.func19, Try.ntmps19
  go_wp2_with (fail)
  go_ret
  exact ⟨rfl, below_alloc _ _⟩
theorem rright_4 (d : Dfa) (g0 : ¬ d.next.length < 1) (g1 : ¬ 400 < d.next.length) (g2 : d.acc.length = d.next.length) (g3 : ¬ width d < 1) (g4 : 256 < width d) : RtIs 19 d false := by
  intro cs o cap ao acap w hD
  have hw8 := hD.size
  have hnx := hD.nx
  have hac := hD.ac
  have b0 := dbox_new w cs
  have k0 := b0.nx hD
  have k1 := b0.ac hD
  have hfit := hD.rows.fit
  have htop := hD.rows.top
  have hafit := hD.accs.fit
  have hatop := hD.accs.top
  have f2 : ((d.acc.length : Int) == (d.next.length : Int)) = true := beq_iff_eq.2 (by omega)
  have f3 : ((d.acc.length : Int) != (d.next.length : Int)) = false := by rw [bne, f2]; rfl
  have f3' : (!((d.acc.length : Int) == (d.next.length : Int))) = false := by rw [f2]; rfl
  obtain ⟨b, off, oi, ci, rfl, hb, hc, hr⟩ := first_row hD.rows (by omega)
  have hrf := hr.fit
  have hrt := hr.top
  have hn1 : 1 ≤ d.next.length := by omega
  unfold width at *
  clear hD hr
  generalize (d.next[0]?.getD []).length = k at *
  generalize d.next.length = n at *
  generalize d.acc.length = m at *
  go_enter Try.func19, Try.ntmps19
  go_wp2_with (fail)
  go_ret
  exact ⟨rfl, below_alloc _ _⟩
open Go.ChangeShapes Go.WideShapes Go.ChangeAt Go.RowKit
set_option linter.unusedVariables false
set_option maxRecDepth 100000 in
set_option maxHeartbeats 2000000 in
theorem rright_loop (d : Dfa) (g0 : ¬ d.next.length < 1) (g1 : ¬ 400 < d.next.length) (g2 : d.acc.length = d.next.length) (g3 : ¬ width d < 1) (g4 : ¬ 256 < width d) (r : Bool) (hr : r = (d.next.all (rowOk d.next.length (width d)) && clsOk d)) : RtIs 19 d r := by
  intro cs o cap ao acap w hD
  have hw8 := hD.size
  have hnx := hD.nx
  have hac := hD.ac
  have b0 := dbox_new w cs
  have k0 := b0.nx hD
  have k1 := b0.ac hD
  have hfit := hD.rows.fit
  have htop := hD.rows.top
  have hafit := hD.accs.fit
  have hatop := hD.accs.top
  have f2 : ((d.acc.length : Int) == (d.next.length : Int)) = true := beq_iff_eq.2 (by omega)
  have f3 : ((d.acc.length : Int) != (d.next.length : Int)) = false := by rw [bne, f2]; rfl
  have f3' : (!((d.acc.length : Int) == (d.next.length : Int))) = false := by rw [f2]; rfl
  obtain ⟨b, off, oi, ci, rfl, hb, hc, hrw⟩ := first_row hD.rows (by omega)
  have hrf := hrw.fit
  have hrt := hrw.top
  have hn1 : 1 ≤ d.next.length := by omega
  have HK : Hid (width d = (d.next[0]?.getD []).length) := rfl
  rw [← HK.out] at hc hrf
  have HR : Hid (r = (d.next.all (rowOk d.next.length (width d)) && clsOk d)) := hr
  have HB := below_alloc w (.cells cs 36)
  have HD : Hid (DAt (In (w.alloc (.cells cs 36))) (w.alloc (.cells cs 36)) d cs (some ⟨b, off, none⟩) cap ao acap) := hD.later HB
  have hc1 : (w.alloc (.cells cs 36)).cell? ⟨b, off, none⟩ = some (.slice oi (width d) ci) := by rw [HK.out, (HB.cell (p := ⟨b, off, none⟩) hb)]; rw [← HK.out]; exact hc
  clear hD hr hrw HK
  have HW : Hid (∀ k, width d = k → (d.next.all (rowOk d.next.length k) && clsOk d) = r) := fun k hk => by rw [← hk]; exact HR.out.symm
  have HCK : Hid (∀ k, width d = k → ∀ j, (∀ i, i < j → d.cls i < k) → 256 ≤ j → clsOk d = true) := fun k hk j => cls_take d j k hk.symm
  have HCN : Hid (∀ k, width d = k → ∀ j, k ≤ d.cls j → j < 256 → clsOk d = false) := fun k hk j => cls_no d j k hk.symm
  obtain ⟨k, hk⟩ : ∃ k, width d = k := ⟨_, rfl⟩
  rw [hk] at g3 g4 hc hrf hc1
  have HW2 : Hid ((d.next.all (rowOk d.next.length k) && clsOk d) = r) := HW.out k hk
  have HCK2 := (show Hid (∀ j, (∀ i, i < j → d.cls i < k) → 256 ≤ j → clsOk d = true) from HCK.out k hk)
  have HCN2 := (show Hid (∀ j, k ≤ d.cls j → j < 256 → clsOk d = false) from HCN.out k hk)
  clear HW HCK HCN HR hk
  have h8 := HD.out.c8
  go_enter Try.func19, Try.ntmps19
  go_wp2_with (fail)
  obtain ⟨w1, hw1⟩ : ∃ x, x = w.alloc (.cells cs 36) := ⟨_, rfl⟩
  rw [← hw1] at HD HB b0 k0 k1 hc1 ⊢
  clear hb hc
  clear hw1
  go_loop [44] (fun y => ∃ i : Nat, y = .int .i64 i ∧ i ≤ d.next.length ∧ Hid ((d.next.take i).all (rowOk d.next.length k) = true)) (fun y => d.next.length - (intOf y).toNat)
  case atStart => exact ⟨0, rfl, by omega, by show _ = _; simp⟩
  case round =>
    obtain ⟨i, rfl, hil, HI⟩ := hrel
    by_cases hend : i < d.next.length
    · obtain ⟨oj, cj, hc, hrw⟩ := row_at HD.out.rows i hend
      have hjf := hrw.fit
      have hjt := hrw.top
      have hall := all_take (rowOk d.next.length k) d.next i hend
      have hno := all_no (rowOk d.next.length k) d.next i hend
      rw [HI.out, Bool.true_and] at hall
      obtain ⟨x, hx⟩ : ∃ x, x = d.next[i] := ⟨_, rfl⟩
      rw [← hx] at hc hall hno hrw hjf
      clear hx
      have HNO : Hid (rowOk d.next.length k x = false → r = false) := fun h => by rw [← HW2.out, hno h]; rfl
      have HALL : Hid ((d.next.take (i + 1)).all (rowOk d.next.length k) = rowOk d.next.length k x) := hall
      have HRW : Hid (Row (In w1) w1 iv oj cj x) := hrw
      clear hno hall HI hrw
      have hxk : x.length = k ∨ x.length ≠ k := Nat.decEq _ _ |>.em
      rcases hxk with hxk | hxk
      · have q1 : ((x.length : Int) == (k : Int)) = true := beq_iff_eq.2 (by omega)
        have q2 : ((x.length : Int) != (k : Int)) = false := by rw [bne, q1]; rfl
        have q3 : (x.length == k) = true := beq_iff_eq.2 hxk
        have HX : Hid (rowOk d.next.length k x = goOn d.next.length x) := by show _ = _; unfold rowOk; rw [q3, Bool.true_and]
        clear q3 hxk
        generalize d.next.length = n at *
        go_wp2_with (fail)
        go_loop [58] (fun y => ∃ j : Nat, y = .int .i64 j ∧ j ≤ x.length ∧ Hid ((x.take j).all (fun x => decide (-1 ≤ x) && decide (x < (n : Int))) = true)) (fun y => x.length - (intOf y).toNat)
        case atStart => exact ⟨0, rfl, by omega, by show _ = _; simp⟩
        case round =>
          obtain ⟨j, rfl, hjl, HJ⟩ := hrel
          by_cases hje : j < x.length
          · obtain ⟨b', off', rfl, hb', hcj⟩ := HRW.out.lie j hje
            have hall := all_take (fun x => decide (-1 ≤ x) && decide (x < (n : Int))) x j hje
            have hno := all_no (fun x => decide (-1 ≤ x) && decide (x < (n : Int))) x j hje
            rw [HJ.out, Bool.true_and] at hall
            unfold In at hb'
            obtain ⟨y, hy⟩ : ∃ y, y = x[j] := ⟨_, rfl⟩
            rw [← hy] at hcj hall hno
            clear hy
            have HNO2 : Hid ((decide (-1 ≤ y) && decide (y < (n : Int))) = false → r = false) := fun h => HNO.out (HX.out.trans (hno h))
            have HALL2 : Hid ((x.take (j + 1)).all (fun x => decide (-1 ≤ x) && decide (x < (n : Int))) = (decide (-1 ≤ y) && decide (y < (n : Int)))) := hall
            clear hno hall
            by_cases e0 : y < -1
            · have HF : Hid (r = false) := HNO2.out (by simp; omega)
              clear HNO2 HALL2
              go_wp2_with (fail)
              go_ret
              exact ⟨by rw [HF.out]; rfl, HB⟩
            · by_cases e1 : (n : Int) ≤ y
              · have HF : Hid (r = false) := HNO2.out (by simp; omega)
                clear HNO2 HALL2
                go_wp2_with (fail)
                go_ret
                exact ⟨by rw [HF.out]; rfl, HB⟩
              · have HT : Hid ((x.take (j + 1)).all (fun x => decide (-1 ≤ x) && decide (x < (n : Int))) = true) := by show _ = _; rw [HALL2.out]; simp; omega
                clear HNO2 HALL2
                go_wp2_with (fail)
                go_round
                case rel => exact ⟨j + 1, by go_num, by omega, HT⟩
                case measure => simp [intOf]; omega
          · have HT : Hid ((d.next.take (i + 1)).all (rowOk n k) = true) := by
              show _ = _
              have := HJ.out
              rw [List.take_of_length_le (by omega)] at this
              rw [HALL.out, HX.out]
              exact this
            go_wp2_with (fail)
            go_round
            case rel => exact ⟨i + 1, by go_num, by omega, HT⟩
            case measure => simp [intOf]; omega
      · have q1 : ((x.length : Int) == (k : Int)) = false := beq_eq_false_iff_ne.2 (by omega)
        have q2 : ((x.length : Int) != (k : Int)) = true := bne_iff_ne.2 (by omega)
        have HF : Hid (r = false) := HNO.out (by unfold rowOk; rw [beq_eq_false_iff_ne.2 hxk]; rfl)
        clear HNO HALL hxk
        go_wp2_with (fail)
        go_ret
        exact ⟨by rw [HF.out]; rfl, HB⟩
    · have HA : Hid (clsOk d = r) := by
        show _ = _
        have := HI.out
        rw [List.take_of_length_le (by omega)] at this
        rw [← HW2.out, this, Bool.true_and]
      clear HI HW2
      go_wp2_with (fail)
      go_loopw [8] (fun y wr => ∃ j : Nat, y = .int .i64 j ∧ j ≤ 256 ∧ Hid (∀ i, i < j → d.cls i < k) ∧ Below w1.heap.size w1 wr) (fun y _ => 256 - (intOf y).toNat)
      case atStart => exact ⟨0, rfl, by omega, fun i hi => by omega, Below.refl _ _⟩
      case round =>
        obtain ⟨j, rfl, hj, HJ, hBr⟩ := hrel
        by_cases hlt : j < 256
        · have hcl := (b0.later hBr).cl HD.out j hlt
          have hk0 := (b0.later hBr).nx HD.out
          have hc8 := h8 j
          have hbl : b < w1.heap.size := by obtain ⟨b', off', oi', ci', e, hb, _⟩ := HD.out.rows.lie 0 (by omega); cases e; exact hb
          have hc2 := (hBr.cell (p := ⟨b, off, none⟩) hbl).trans hc1
          have HC1 : Hid (k ≤ d.cls j → r = false) := fun h => HA.out.symm.trans (HCN2.out j h hlt)
          have HC2 : Hid (d.cls j < k → ∀ i, i < j + 1 → d.cls i < k) := fun h i hi => by
            rcases Nat.lt_succ_iff_lt_or_eq.1 hi with h2 | h2
            · exact HJ.out i h2
            · rw [h2]; exact h
          clear HJ
          generalize d.cls j = c at *
          by_cases hck : k ≤ c
          · have HF : Hid (r = false) := HC1.out hck
            go_wp2_with (fail)
            go_quiet (fail)
            go_wp2_with (fail)
            go_ret
            exact ⟨by rw [HF.out]; rfl, chain HB (below_drewN hBr _)⟩
          · have HT : Hid (∀ i, i < j + 1 → d.cls i < k) := HC2.out (by omega)
            clear HC1 HC2
            go_wp2_with (fail)
            go_quiet (fail)
            go_wp2_with (fail)
            go_roundw
            case rel => exact ⟨j + 1, by go_num, by omega, HT, below_drewN hBr _⟩
            case measure => simp [intOf]; omega
        · have HF : Hid (r = true) := HA.out.symm.trans (HCK2.out j HJ.out (by omega))
          go_wp2_with (fail)
          go_ret
          exact ⟨by rw [HF.out]; rfl, chain HB hBr⟩
theorem rright_any (d : Dfa) (r : Bool) (hr : r = right d) : RtIs 19 d r := by
  have no : (right d = false) → RtIs 19 d false → RtIs 19 d r := fun h h2 => by rw [hr, h]; exact h2
  by_cases g0 : d.next.length < 1
  · exact no (by unfold right; rw [decide_eq_false (by omega)]; simp) (rright_0 d g0)
  by_cases g1 : 400 < d.next.length
  · exact no (by unfold right; rw [decide_eq_false (p := d.next.length ≤ 400) (by omega)]; simp) (rright_1 d g0 g1)
  by_cases g2 : d.acc.length = d.next.length
  · by_cases g3 : width d < 1
    · exact no (by unfold right; rw [decide_eq_false (p := 1 ≤ width d) (by omega)]; simp) (rright_3 d g0 g1 g2 g3)
    by_cases g4 : 256 < width d
    · exact no (by unfold right; rw [decide_eq_false (p := width d ≤ 256) (by omega)]; simp) (rright_4 d g0 g1 g2 g3 g4)
    refine rright_loop d g0 g1 g2 g3 g4 r ?_
    rw [hr]
    unfold right
    rw [decide_eq_true (by omega), decide_eq_true (by omega), decide_eq_true (by omega), decide_eq_true (by omega), beq_iff_eq.2 g2]
    simp
  · exact no (by unfold right; rw [beq_eq_false_iff_ne.2 g2]; simp) (rright_2 d g0 g1 g2)
open Go.RowKit Go.Shelf
set_option linter.unusedVariables false
set_option maxRecDepth 100000 in
set_option maxHeartbeats 2000000 in
theorem rends_any (d : Dfa) (s : ByteArray) (at' : Nat) (hr : right d = true) (hat : at' ≤ s.size) (hs : s.size ≤ 1000000000000) : EdIs 37 d s at' := by
  intro cs o cap ao acap w hD
  have hok := ok_of d hr
  have hw8 := hD.size
  have b0 := dbox_new w cs
  have HB0 := below_alloc w (.cells cs 36)
  have hn1 := hok.one
  have hn4 := hok.most
  have hna := hok.accs
  have hafit := hD.accs.fit
  have hatop := hD.accs.top
  have hfit := hD.rows.fit
  have htop := hD.rows.top
  have HOK : Hid (Ok d) := hok
  have HD : Hid (DAt (In (w.alloc (.cells cs 36))) (w.alloc (.cells cs 36)) d cs o cap ao acap) := hD.later HB0
  have HL : Hid ((ends d s (s.size - at') 0 at').length ≤ s.size + 1) := Nat.le_trans (ends_len _ _ _ _ _) (by omega)
  have e0 : endsOf d s at' = ends d s (s.size - at') 0 at' := by unfold endsOf; rw [if_pos ⟨hr, by omega, by omega⟩]; simp
  rw [e0]
  clear hok hD e0
  obtain ⟨full, hfull⟩ : ∃ full, full = ends d s (s.size - at') 0 at' := ⟨_, rfl⟩
  have HI : Hid (full = [] ++ ends d s (s.size - at') (0 : Int) at') := hfull
  rw [← hfull] at HL ⊢
  clear hfull
  go_enter Try.func37, Try.ntmps37
  go_wp2_with (fail)
  have hw1s : (w.alloc (.cells cs 36)).heap.size = w.heap.size + 1 := by simp
  have HBx : Hid (∀ W, Below (w.heap.size + 1) (w.alloc (.cells cs 36)) W → DBox W w.heap.size cs) := fun W hW => (hW.block _ (by omega)).trans b0
  have HDx : Hid (∀ W, Below (w.heap.size + 1) (w.alloc (.cells cs 36)) W → DAt (In (w.alloc (.cells cs 36))) W d cs o cap ao acap) := fun W hW => HD.out.carry (fun b hb => hW.block b (by unfold In at hb; omega)) (fun _ => id)
  have HBf : Hid (∀ W, Below (w.heap.size + 1) (w.alloc (.cells cs 36)) W → Below w.heap.size w W) := fun W hW => chain HB0 (by rw [hw1s]; exact hW)
  have hst : Owns ((w.alloc (.cells cs 36)).alloc (.cells #[] 3)) (w.heap.size + 1) (.slice (some ⟨w.heap.size + 1, 0, none⟩) 0 0) [] := by
    refine ⟨rfl, .inr ⟨w.heap.size + 1, 0, #[], rfl, Nat.le_refl _, ?_, Nat.le_refl _, Nat.zero_le _, rfl, rfl⟩⟩
    have := World.alloc_heap_new (w.alloc (.cells cs 36)) (.cells #[] 3)
    rwa [hw1s] at this
  go_loopw [2, 7, 8] (fun y v x wr => ∃ (q t : Nat) (pre : List Int), x = .int .i64 q ∧ y = .int .i64 t ∧ q < d.next.length ∧ t ≤ s.size ∧ Hid (full = pre ++ ends d s (s.size - t) q t) ∧ Owns wr (w.heap.size + 1) v pre ∧ Below (w.heap.size + 1) (w.alloc (.cells cs 36)) wr) (fun y _ _ _ => s.size + 1 - (intOf y).toNat)
  case atStart => exact ⟨0, at', [], rfl, rfl, by omega, hat, HI, hst, (Below.refl _ _).alloc (by omega) _⟩
  case round =>
    obtain ⟨q, t, pre, rfl, rfl, hq, ht, HE, hrow, hB⟩ := hrel
    have hpl : pre.length ≤ 1000000000001 := by have := HL.out; rw [HE.out, List.length_append] at this; omega
    have hrow0 := hrow
    have kb := HBx.out wr hB
    have kx := kb.ac HD.out
    have ky := kb.nx HD.out
    obtain ⟨ab, aoff, rfl, hpa, hca⟩ := acc_at (HDx.out wr hB) q (by omega)
    obtain ⟨gv, cv, rfl⟩ := own_slice hrow
    clear kb b0
    cases hacc : acpt d q with
    | true =>
      rw [hacc] at hca
      have hh := here_yes d q t hacc
      by_cases htt : s.size ≤ t
      · have HF : Hid (full = pre ++ [(t : Int)]) := by show _ = _; rw [HE.out, ends_end d s q t (by omega), hh]
        clear HE hh
        go_wp2_with (at_builtin; refine wpList_append_int rfl _ _ rfl (w.heap.size + 1) _ pre (t : Int) wr.heap.size rfl rfl (hrow.alloc _) (by simp) (by omega) (by have := hB.size; simp at this; simp; omega) ?_; intro g' cap' w2 hown2 hgr2; clear hrow; have hB2 : Below (w.heap.size + 1) (w.alloc (.cells cs 36)) w2 := (hB.alloc (by have := hB.size; simp at this; omega) _).grown hgr2 (by have := hB.size; simp at this; simp; omega) (own_ge hrow0); have kb2 := HBx.out w2 hB2; have kx2 := kb2.ac HD.out; have ky2 := kb2.nx HD.out)
        go_ret
        exact ⟨_, rfl, by rw [HF.out]; exact ints_of_owns hown2, HBf.out _ hB2⟩
      · have htt2 : t < s.size := by omega
        have HF : Hid (full = (pre ++ [(t : Int)]) ++ ends d s (s.size - (t + 1)) (nxt d q (d.cls s[t].toNat)) (t + 1)) := by show _ = _; rw [HE.out, ends_more d s q t htt2, hh, List.append_assoc]
        clear HE hh
        go_wp2_with (at_builtin; refine wpList_append_int rfl _ _ rfl (w.heap.size + 1) _ pre (t : Int) wr.heap.size rfl rfl (hrow.alloc _) (by simp) (by omega) (by have := hB.size; simp at this; simp; omega) ?_; intro g' cap' w2 hown2 hgr2; clear hrow; have hB2 : Below (w.heap.size + 1) (w.alloc (.cells cs 36)) w2 := (hB.alloc (by have := hB.size; simp at this; omega) _).grown hgr2 (by have := hB.size; simp at this; simp; omega) (own_ge hrow0); have kb2 := HBx.out w2 hB2; have kx2 := kb2.ac HD.out; have ky2 := kb2.nx HD.out)
        have hcw := HOK.out.cl s[t].toNat (UInt8.toNat_lt _)
        have hno := nxt_ok HOK.out q _ hq hcw
        have D2 := HDx.out _ hB2
        have j0 := kb2.cl D2 s[t].toNat (UInt8.toNat_lt _)
        have h8 := D2.c8 s[t].toNat
        obtain ⟨b, off, b', off', ci, e1, hc1, hw1, hw2, hc2⟩ := nxt_at D2 HOK.out q _ hq hcw
        subst e1
        have hb8 : s[t].toNat < 256 := UInt8.toNat_lt _
        clear D2 HBx HDx
        generalize width d = k at *
        go_quiet (fail)
        by_cases hneg : nxt d q (d.cls s[t].toNat) < 0
        · have HG : Hid (full = pre ++ [(t : Int)]) := by show _ = _; rw [HF.out, ends_neg d s _ _ _ hneg, List.append_nil]
          have g1 : (nxt d q (d.cls s[t].toNat) == -1) = true := beq_iff_eq.2 (by omega)
          clear HF
          generalize nxt d q (d.cls s[t].toNat) = z at *
          go_wp2_with (fail)
          go_ret
          exact ⟨_, rfl, by rw [HG.out]; exact ints_of_owns (owns_drewN hown2 _), below_drewN (HBf.out _ hB2) _⟩
        · have g1 : (nxt d q (d.cls s[t].toNat) == -1) = false := beq_eq_false_iff_ne.2 (by omega)
          obtain ⟨z, hz⟩ : ∃ z : Nat, nxt d q (d.cls s[t].toNat) = (z : Int) := ⟨(nxt d q (d.cls s[t].toNat)).toNat, by omega⟩
          rw [hz] at HF hno g1 hc2 ⊢
          clear hz hneg
          go_wp2_with (fail)
          go_roundw
          case rel => exact ⟨z, t + 1, _, rfl, by go_num, by omega, by omega, HF, owns_drewN hown2 _, below_drewN hB2 _⟩
          case measure => simp [intOf]; omega
    | false =>
      rw [hacc] at hca
      have hh := here_no d q t hacc
      by_cases htt : s.size ≤ t
      · have HF : Hid (full = pre) := by show _ = _; rw [HE.out, ends_end d s q t (by omega), hh, List.append_nil]
        clear HE hh
        go_wp2_with (fail)
        go_ret
        exact ⟨_, rfl, by rw [HF.out]; exact ints_of_owns hrow0, HBf.out _ hB⟩
      · have htt2 : t < s.size := by omega
        have HF : Hid (full = pre ++ ends d s (s.size - (t + 1)) (nxt d q (d.cls s[t].toNat)) (t + 1)) := by show _ = _; rw [HE.out, ends_more d s q t htt2, hh, List.nil_append]
        clear HE hh
        have hown2 := hrow0
        have hB2 := hB
        have kb2 := HBx.out _ hB
        go_wp2_with (fail)
        have hcw := HOK.out.cl s[t].toNat (UInt8.toNat_lt _)
        have hno := nxt_ok HOK.out q _ hq hcw
        have D2 := HDx.out _ hB2
        have j0 := kb2.cl D2 s[t].toNat (UInt8.toNat_lt _)
        have h8 := D2.c8 s[t].toNat
        obtain ⟨b, off, b', off', ci, e1, hc1, hw1, hw2, hc2⟩ := nxt_at D2 HOK.out q _ hq hcw
        subst e1
        have hb8 : s[t].toNat < 256 := UInt8.toNat_lt _
        clear D2 HBx HDx
        generalize width d = k at *
        go_quiet (fail)
        by_cases hneg : nxt d q (d.cls s[t].toNat) < 0
        · have HG : Hid (full = pre) := by show _ = _; rw [HF.out, ends_neg d s _ _ _ hneg, List.append_nil]
          have g1 : (nxt d q (d.cls s[t].toNat) == -1) = true := beq_iff_eq.2 (by omega)
          clear HF
          generalize nxt d q (d.cls s[t].toNat) = z at *
          go_wp2_with (fail)
          go_ret
          exact ⟨_, rfl, by rw [HG.out]; exact ints_of_owns (owns_drewN hown2 _), below_drewN (HBf.out _ hB2) _⟩
        · have g1 : (nxt d q (d.cls s[t].toNat) == -1) = false := beq_eq_false_iff_ne.2 (by omega)
          obtain ⟨z, hz⟩ : ∃ z : Nat, nxt d q (d.cls s[t].toNat) = (z : Int) := ⟨(nxt d q (d.cls s[t].toNat)).toNat, by omega⟩
          rw [hz] at HF hno g1 hc2 ⊢
          clear hz hneg
          go_wp2_with (fail)
          go_roundw
          case rel => exact ⟨z, t + 1, _, rfl, by go_num, by omega, by omega, HF, owns_drewN hown2 _, below_drewN hB2 _⟩
          case measure => simp [intOf]; omega
open Go.RowKit Go.Shelf
set_option linter.unusedVariables false
set_option maxRecDepth 100000 in
set_option maxHeartbeats 1000000 in
theorem rlongest_any (d : Dfa) (s : ByteArray) (at' : Nat) (hr : right d = true) (hat : at' ≤ s.size) (hs : s.size ≤ 1000000000000) (r : Int) (hR : r = (endsOf d s at').getLast?.getD (-1)) : LgIs 32 d s at' r := by
  intro cs o cap ao acap w hD
  have hw8 := hD.size
  have b0 := dbox_new w cs
  have HB0 := below_alloc w (.cells cs 36)
  have h23 := rends_any d s at' hr hat hs cs o cap ao acap _ (hD.later HB0)
  have hlen := endsOf_len d s at'
  obtain ⟨full, hfull⟩ : ∃ full, full = endsOf d s at' := ⟨_, rfl⟩
  rw [← hfull] at h23 hR hlen
  have HR : Hid (r = full.getLast?.getD (-1)) := hR
  clear hD hfull hR
  by_cases h0 : full.length = 0
  · have e : full = [] := List.length_eq_zero_iff.1 h0
    subst e
    have HE : Hid (r = -1) := HR.out
    clear HR h0
    go_enter Try.func32, Try.ntmps32
    go_wp2_with (first | (refine wpList_load_row rfl 36 (.tmp 3) rfl w.heap.size rfl 36 cs (0, 0) _ b0 Try.underlying36 rfl (info36 cs hw8) ?_) | (go_at_call 37; (refine h23.mono ?_); rintro e w3 ⟨v, rfl, ⟨vo, vc, rfl, hv⟩, b3⟩))
    go_ret
    exact ⟨by rw [HE.out]; rfl, chain HB0 b3⟩
  · have f0 : ((full.length : Int) == 0) = false := beq_eq_false_iff_ne.2 (by omega)
    have hl1 : 1 ≤ full.length := by omega
    have hw : IntKind.i64.wrap ((full.length : Int) - 1) = ((full.length - 1 : Nat) : Int) := by
      have : (full.length : Int) - 1 = ((full.length - 1 : Nat) : Int) := by omega
      rw [this]
      exact IntWalk.i64_in _ (by omega)
    clear h0
    go_enter Try.func32, Try.ntmps32
    go_wp2_with (first | (refine wpList_load_row rfl 36 (.tmp 3) rfl w.heap.size rfl 36 cs (0, 0) _ b0 Try.underlying36 rfl (info36 cs hw8) ?_) | (go_at_call 37; (refine h23.mono ?_); rintro e w3 ⟨v, rfl, ⟨vo, vc, rfl, hv⟩, b3⟩; have hvf := hv.fit; have hvt := hv.top; obtain ⟨vb, voff, rfl, hvb, hvc⟩ := ints_last hv hl1; rw [← HR.out] at hvc))
    go_ret
    exact ⟨rfl, chain HB0 b3⟩
end Go.Proofs.Ytmmlibehihknbaa.df
