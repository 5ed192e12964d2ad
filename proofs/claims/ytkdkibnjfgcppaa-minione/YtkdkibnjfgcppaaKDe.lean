/-
  Contracts over this program: which dfa may be, as the document has it (fretsawref08's Right).
-/
import Derived.Test.YtkdkibnjfgcppaaM01
import Derived.BigQuiet
import Derived.Deep.QuietTactic
namespace Go.Proofs.Ytkdkibnjfgcppaa.df
open Go.ChangeShapes Go.WideShapes Go.ChangeAt Go.RowKit
set_option linter.unusedVariables false

set_option maxRecDepth 100000 in
set_option maxHeartbeats 2000000 in
theorem rright_loop (d : Dfa) (g0 : ¬ d.next.length < 1) (g1 : ¬ 400 < d.next.length) (g2 : d.acc.length = d.next.length) (g3 : ¬ width d < 1) (g4 : ¬ 256 < width d) (r : Bool) (hr : r = (d.next.all (rowOk d.next.length (width d)) && clsOk d)) : RtIs 9 d r := by
  intro cs o cap ao acap w hD
  have hw8 := hD.size
  have hnx := hD.nx
  have hac := hD.ac
  have b0 := dbox_new w cs
  have k0 := b0.nx hD
  have k1 := b0.ac hD
  have hfit := hD.rows.fit
  have htop := hD.rows.top
  have hafit := hD.accs.fit
  have hatop := hD.accs.top
  have f2 : ((d.acc.length : Int) == (d.next.length : Int)) = true := beq_iff_eq.2 (by omega)
  have f3 : ((d.acc.length : Int) != (d.next.length : Int)) = false := by rw [bne, f2]; rfl
  have f3' : (!((d.acc.length : Int) == (d.next.length : Int))) = false := by rw [f2]; rfl
  obtain ⟨b, off, oi, ci, rfl, hb, hc, hrw⟩ := first_row hD.rows (by omega)
  have hrf := hrw.fit
  have hrt := hrw.top
  have hn1 : 1 ≤ d.next.length := by omega
  have HK : Hid (width d = (d.next[0]?.getD []).length) := rfl
  rw [← HK.out] at hc hrf
  have HR : Hid (r = (d.next.all (rowOk d.next.length (width d)) && clsOk d)) := hr
  have HB := below_alloc w (.cells cs 26)
  have HD : Hid (DAt (In (w.alloc (.cells cs 26))) (w.alloc (.cells cs 26)) d cs (some ⟨b, off, none⟩) cap ao acap) := hD.later HB
  have hc1 : (w.alloc (.cells cs 26)).cell? ⟨b, off, none⟩ = some (.slice oi (width d) ci) := by rw [HK.out, (HB.cell (p := ⟨b, off, none⟩) hb)]; rw [← HK.out]; exact hc
  clear hD hr hrw HK
  have HW : Hid (∀ k, width d = k → (d.next.all (rowOk d.next.length k) && clsOk d) = r) := fun k hk => by rw [← hk]; exact HR.out.symm
  have HCK : Hid (∀ k, width d = k → ∀ j, (∀ i, i < j → d.cls i < k) → 256 ≤ j → clsOk d = true) := fun k hk j => cls_take d j k hk.symm
  have HCN : Hid (∀ k, width d = k → ∀ j, k ≤ d.cls j → j < 256 → clsOk d = false) := fun k hk j => cls_no d j k hk.symm
  obtain ⟨k, hk⟩ : ∃ k, width d = k := ⟨_, rfl⟩
  rw [hk] at g3 g4 hc hrf hc1
  have HW2 : Hid ((d.next.all (rowOk d.next.length k) && clsOk d) = r) := HW.out k hk
  have HCK2 := (show Hid (∀ j, (∀ i, i < j → d.cls i < k) → 256 ≤ j → clsOk d = true) from HCK.out k hk)
  have HCN2 := (show Hid (∀ j, k ≤ d.cls j → j < 256 → clsOk d = false) from HCN.out k hk)
  clear HW HCK HCN HR hk
  have h8 := HD.out.c8
  go_enter Try.func9, Try.ntmps9
  go_wp2_with (fail)
  obtain ⟨w1, hw1⟩ : ∃ x, x = w.alloc (.cells cs 26) := ⟨_, rfl⟩
  rw [← hw1] at HD HB b0 k0 k1 hc1 ⊢
  clear hb hc
  clear hw1
  go_loop [44] (fun y => ∃ i : Nat, y = .int .i64 i ∧ i ≤ d.next.length ∧ Hid ((d.next.take i).all (rowOk d.next.length k) = true)) (fun y => d.next.length - (intOf y).toNat)
  case atStart => exact ⟨0, rfl, by omega, by show _ = _; simp⟩
  case round =>
    obtain ⟨i, rfl, hil, HI⟩ := hrel
    by_cases hend : i < d.next.length
    · obtain ⟨oj, cj, hc, hrw⟩ := row_at HD.out.rows i hend
      have hjf := hrw.fit
      have hjt := hrw.top
      have hall := all_take (rowOk d.next.length k) d.next i hend
      have hno := all_no (rowOk d.next.length k) d.next i hend
      rw [HI.out, Bool.true_and] at hall
      obtain ⟨x, hx⟩ : ∃ x, x = d.next[i] := ⟨_, rfl⟩
      rw [← hx] at hc hall hno hrw hjf
      clear hx
      have HNO : Hid (rowOk d.next.length k x = false → r = false) := fun h => by rw [← HW2.out, hno h]; rfl
      have HALL : Hid ((d.next.take (i + 1)).all (rowOk d.next.length k) = rowOk d.next.length k x) := hall
      have HRW : Hid (Row (In w1) w1 iv oj cj x) := hrw
      clear hno hall HI hrw
      have hxk : x.length = k ∨ x.length ≠ k := Nat.decEq _ _ |>.em
      rcases hxk with hxk | hxk
      · have q1 : ((x.length : Int) == (k : Int)) = true := beq_iff_eq.2 (by omega)
        have q2 : ((x.length : Int) != (k : Int)) = false := by rw [bne, q1]; rfl
        have q3 : (x.length == k) = true := beq_iff_eq.2 hxk
        have HX : Hid (rowOk d.next.length k x = goOn d.next.length x) := by show _ = _; unfold rowOk; rw [q3, Bool.true_and]
        clear q3 hxk
        generalize d.next.length = n at *
        go_wp2_with (fail)
        go_loop [58] (fun y => ∃ j : Nat, y = .int .i64 j ∧ j ≤ x.length ∧ Hid ((x.take j).all (fun x => decide (-1 ≤ x) && decide (x < (n : Int))) = true)) (fun y => x.length - (intOf y).toNat)
        case atStart => exact ⟨0, rfl, by omega, by show _ = _; simp⟩
        case round =>
          obtain ⟨j, rfl, hjl, HJ⟩ := hrel
          by_cases hje : j < x.length
          · obtain ⟨b', off', rfl, hb', hcj⟩ := HRW.out.lie j hje
            have hall := all_take (fun x => decide (-1 ≤ x) && decide (x < (n : Int))) x j hje
            have hno := all_no (fun x => decide (-1 ≤ x) && decide (x < (n : Int))) x j hje
            rw [HJ.out, Bool.true_and] at hall
            unfold In at hb'
            obtain ⟨y, hy⟩ : ∃ y, y = x[j] := ⟨_, rfl⟩
            rw [← hy] at hcj hall hno
            clear hy
            have HNO2 : Hid ((decide (-1 ≤ y) && decide (y < (n : Int))) = false → r = false) := fun h => HNO.out (HX.out.trans (hno h))
            have HALL2 : Hid ((x.take (j + 1)).all (fun x => decide (-1 ≤ x) && decide (x < (n : Int))) = (decide (-1 ≤ y) && decide (y < (n : Int)))) := hall
            clear hno hall
            by_cases e0 : y < -1
            · have HF : Hid (r = false) := HNO2.out (by simp; omega)
              clear HNO2 HALL2
              go_wp2_with (fail)
              go_ret
              exact ⟨by rw [HF.out]; rfl, HB⟩
            · by_cases e1 : (n : Int) ≤ y
              · have HF : Hid (r = false) := HNO2.out (by simp; omega)
                clear HNO2 HALL2
                go_wp2_with (fail)
                go_ret
                exact ⟨by rw [HF.out]; rfl, HB⟩
              · have HT : Hid ((x.take (j + 1)).all (fun x => decide (-1 ≤ x) && decide (x < (n : Int))) = true) := by show _ = _; rw [HALL2.out]; simp; omega
                clear HNO2 HALL2
                go_wp2_with (fail)
                go_round
                case rel => exact ⟨j + 1, by go_num, by omega, HT⟩
                case measure => simp [intOf]; omega
          · have HT : Hid ((d.next.take (i + 1)).all (rowOk n k) = true) := by
              show _ = _
              have := HJ.out
              rw [List.take_of_length_le (by omega)] at this
              rw [HALL.out, HX.out]
              exact this
            go_wp2_with (fail)
            go_round
            case rel => exact ⟨i + 1, by go_num, by omega, HT⟩
            case measure => simp [intOf]; omega
      · have q1 : ((x.length : Int) == (k : Int)) = false := beq_eq_false_iff_ne.2 (by omega)
        have q2 : ((x.length : Int) != (k : Int)) = true := bne_iff_ne.2 (by omega)
        have HF : Hid (r = false) := HNO.out (by unfold rowOk; rw [beq_eq_false_iff_ne.2 hxk]; rfl)
        clear HNO HALL hxk
        go_wp2_with (fail)
        go_ret
        exact ⟨by rw [HF.out]; rfl, HB⟩
    · have HA : Hid (clsOk d = r) := by
        show _ = _
        have := HI.out
        rw [List.take_of_length_le (by omega)] at this
        rw [← HW2.out, this, Bool.true_and]
      clear HI HW2
      go_wp2_with (fail)
      go_loopw [8] (fun y wr => ∃ j : Nat, y = .int .i64 j ∧ j ≤ 256 ∧ Hid (∀ i, i < j → d.cls i < k) ∧ Below w1.heap.size w1 wr) (fun y _ => 256 - (intOf y).toNat)
      case atStart => exact ⟨0, rfl, by omega, fun i hi => by omega, Below.refl _ _⟩
      case round =>
        obtain ⟨j, rfl, hj, HJ, hBr⟩ := hrel
        by_cases hlt : j < 256
        · have hcl := (b0.later hBr).cl HD.out j hlt
          have hk0 := (b0.later hBr).nx HD.out
          have hc8 := h8 j
          have hbl : b < w1.heap.size := by obtain ⟨b', off', oi', ci', e, hb, _⟩ := HD.out.rows.lie 0 (by omega); cases e; exact hb
          have hc2 := (hBr.cell (p := ⟨b, off, none⟩) hbl).trans hc1
          have HC1 : Hid (k ≤ d.cls j → r = false) := fun h => HA.out.symm.trans (HCN2.out j h hlt)
          have HC2 : Hid (d.cls j < k → ∀ i, i < j + 1 → d.cls i < k) := fun h i hi => by
            rcases Nat.lt_succ_iff_lt_or_eq.1 hi with h2 | h2
            · exact HJ.out i h2
            · rw [h2]; exact h
          clear HJ
          generalize d.cls j = c at *
          by_cases hck : k ≤ c
          · have HF : Hid (r = false) := HC1.out hck
            go_wp2_with (fail)
            go_quiet (fail)
            go_wp2_with (fail)
            go_ret
            exact ⟨by rw [HF.out]; rfl, chain HB (below_drewN hBr _)⟩
          · have HT : Hid (∀ i, i < j + 1 → d.cls i < k) := HC2.out (by omega)
            clear HC1 HC2
            go_wp2_with (fail)
            go_quiet (fail)
            go_wp2_with (fail)
            go_roundw
            case rel => exact ⟨j + 1, by go_num, by omega, HT, below_drewN hBr _⟩
            case measure => simp [intOf]; omega
        · have HF : Hid (r = true) := HA.out.symm.trans (HCK2.out j HJ.out (by omega))
          go_wp2_with (fail)
          go_ret
          exact ⟨by rw [HF.out]; rfl, chain HB hBr⟩
theorem rright_any (d : Dfa) (r : Bool) (hr : r = right d) : RtIs 9 d r := by
  have no : (right d = false) → RtIs 9 d false → RtIs 9 d r := fun h h2 => by rw [hr, h]; exact h2
  by_cases g0 : d.next.length < 1
  · exact no (by unfold right; rw [decide_eq_false (by omega)]; simp) (rright_0 d g0)
  by_cases g1 : 400 < d.next.length
  · exact no (by unfold right; rw [decide_eq_false (p := d.next.length ≤ 400) (by omega)]; simp) (rright_1 d g0 g1)
  by_cases g2 : d.acc.length = d.next.length
  · by_cases g3 : width d < 1
    · exact no (by unfold right; rw [decide_eq_false (p := 1 ≤ width d) (by omega)]; simp) (rright_3 d g0 g1 g2 g3)
    by_cases g4 : 256 < width d
    · exact no (by unfold right; rw [decide_eq_false (p := width d ≤ 256) (by omega)]; simp) (rright_4 d g0 g1 g2 g3 g4)
    refine rright_loop d g0 g1 g2 g3 g4 r ?_
    rw [hr]
    unfold right
    rw [decide_eq_true (by omega), decide_eq_true (by omega), decide_eq_true (by omega), decide_eq_true (by omega), beq_iff_eq.2 g2]
    simp
  · exact no (by unfold right; rw [beq_eq_false_iff_ne.2 g2]; simp) (rright_2 d g0 g1 g2)
end Go.Proofs.Ytkdkibnjfgcppaa.df
