/-
  Texts put together: Contracts over this program: the document's Right and Grow. Contracts over this program: the document's Grow and begins.
-/
import Derived.Test.YthmecbonjkcnmaaGreatM11
namespace Go.Proofs.YthmecbonjkcnmaaGreat.ru
open Go.ChangeShapes Go.WideShapes Go.ChangeAt Go.RowKit
set_option linter.unusedVariables false

theorem good_take {l : List Ru} (h : l.length ≤ 64) (hb : ∀ r ∈ l, bad r = false) (ho : Once l) : Good l := ⟨h, hb, ho⟩
/-- the first rules are right -/
def Upto (l : List Ru) (i : Nat) : Prop := (∀ r ∈ l.take i, bad r = false) ∧ Once (l.take i)
theorem upto_bad {l : List Ru} {i : Nat} (h : l.length ≤ 64) (hi : i < l.length) (hb : bad (nth l i) = true) : rightE l = 110 :=
  rightE_bad h (List.any_eq_true.2 ⟨_, nth_mem l i hi, hb⟩)
theorem once_take {l : List Ru} (h : Once l) (i : Nat) : Once (l.take i) := by
  unfold Once at *
  exact h.sublist ((List.take_sublist i l).map _)
theorem upto_twice {l : List Ru} {i j : Nat} (h : l.length ≤ 64) (hi : i < l.length) (hj : j < i) (e : (nth l j).fr = (nth l i).fr) : rightE l = 110 := by
  refine rightE_twice h fun ho => ?_
  have h1 := once_take ho (i + 1)
  rw [take_nth l i hi, once_snoc] at h1
  have hm : nth l j ∈ l.take i := by
    unfold nth
    rw [List.getD_eq_getElem?_getD, List.getElem?_eq_getElem (by omega)]
    exact List.mem_take_iff_getElem.2 ⟨j, by omega, rfl⟩
  have h2 := List.any_eq_false.1 h1.2 _ hm
  apply h2
  unfold Ru.f
  rw [e]
  simp
theorem upto_step {l : List Ru} {i : Nat} (hi : i < l.length) (h : Upto l i) (hb : bad (nth l i) = false) (hn : ∀ j, j < i → (nth l j).fr ≠ (nth l i).fr) : Upto l (i + 1) := by
  refine ⟨fun r hr => ?_, ?_⟩
  · rw [take_nth l i hi] at hr
    rcases List.mem_append.1 hr with hr | hr
    · exact h.1 r hr
    · rw [List.mem_singleton] at hr
      rw [hr]
      exact hb
  · rw [take_nth l i hi, once_snoc]
    refine ⟨h.2, List.any_eq_false.2 fun x hx => ?_⟩
    obtain ⟨j, hj, e⟩ := List.mem_take_iff_getElem.1 hx
    have hjl : j < l.length := by omega
    have hx2 : nth l j = x := by
      unfold nth
      rw [List.getD_eq_getElem?_getD, List.getElem?_eq_getElem hjl]
      exact e
    have := hn j (by omega)
    rw [hx2] at this
    simp only [beq_iff_eq]
    exact fun e => this (ba_ext e)
theorem upto_all {l : List Ru} (h : l.length ≤ 64) (hu : Upto l l.length) : rightE l = 0 := by
  have h1 := hu.1
  have h2 := hu.2
  rw [List.take_length] at h1 h2
  exact rightE_ok ⟨h, h1, h2⟩
theorem bad_lt (r : Ru) : bad r = (decide ((r.fr.size : Int) < 1) || decide (16 < (r.fr.size : Int)) || decide (32 < (r.to.size : Int))) := by
  unfold bad
  congr 1
  · congr 1
    · rw [Bool.eq_iff_iff, beq_iff_eq, decide_eq_true_iff]
      omega
    · exact decide_eq_decide.2 (by omega)
  · exact decide_eq_decide.2 (by omega)

section
variable {op : Oper} {a : Act} {w : World}
theorem x_index47 {x y : Operand} {b off n cap i : Nat} (h : op.op = .indexAddr 47 x y) (hx : a.eval x = .slice (some ⟨b, off, none⟩) n cap) (hy : a.eval y = .int .i64 (i : Int)) (hi : i < n) : (execOp a.eval op).run Tryz.prog w = .ok (.value (.pointer (some ⟨b, off + i * 2, none⟩))) w := by
  unfold execOp; rw [h]
  have hs : (sizeOf 80).run Tryz.prog w = .ok 2 w := by kernel_rfl
  have hb : (0 : Int) ≤ (i : Int) ∧ (i : Int) < (n : Int) := by omega
  simp only [Instr.indexAt, hx, hy, asIntOf, Sem.run_bind, Sem.run_pure, Result.andThen_ok, run_underlying Tryz.underlying47, hb, and_self, if_true, hs, Int.toNat_natCast, Addr.add_mid]
theorem x_eq9 {x y : Operand} {s t : ByteArray} {b : Bool} (h : op.op = .binOp .eql 9 x y 9) (hx : a.eval x = .string s) (hy : a.eval y = .string t) (hb : (s.toList == t.toList) = b) : (execOp a.eval op).run Tryz.prog w = .ok (.value (.bool b)) w := by
  unfold execOp; rw [h]; simp only [hx, hy]; go_simp
end
def RRightIs (l : List Ru) (x : Nat) : Prop := ∀ v w, Rus w v l → Calls Tryz.prog 17 #[v] w fun e w' => e = .returned (.int .i64 (x : Int)) ∧ Below w.heap.size w w'
set_option maxHeartbeats 4000000 in
set_option maxRecDepth 100000 in
theorem rright_any (l : List Ru) (x : Nat) (hx : x = rightE l) : RRightIs l x := by
  intro v w hv
  have hsm := hv.small
  obtain ⟨av, cap, rfl, _, _⟩ := hv.form
  by_cases h1 : 64 < l.length
  · obtain rfl : x = 2 := by rw [hx, rightE_long h1]
    clear hx hv
    go_enter Tryz.func17, Tryz.ntmps17
    go_wp2
    go_ret
    exact ⟨rfl, Below.refl _ _⟩
  · have h1' : l.length ≤ 64 := by omega
    have HX := (show Hid (x = rightE l) from hx)
    clear hx
    go_enter Tryz.func17, Tryz.ntmps17
    go_wp2
    go_loopw [11] (fun y wr => ∃ (i : Nat), y = .int .i64 i ∧ i ≤ l.length ∧ Below w.heap.size w wr ∧ Hid (Upto l i)) (fun y _ => l.length - (intOf y).toNat)
    case atStart => exact ⟨0, rfl, by omega, Below.refl _ _, fun r hr => absurd hr (by simp), by rw [List.take_zero]; exact List.nodup_nil⟩
    case round =>
      obtain ⟨i, rfl, hi, hB, HU⟩ := hrel
      by_cases hend : i < l.length
      · obtain ⟨rb, roff, rcap', hre, hrl, hrm, hrlt, hr1, hr2⟩ := hv.at hend
        obtain ⟨rfl, rfl⟩ : av = some ⟨rb, roff, none⟩ ∧ cap = rcap' := by simpa using hre
        rw [← hB.cell (p := ⟨rb, roff + i * 2, none⟩) hrlt] at hr1
        rw [← hB.cell (p := ⟨rb, roff + i * 2 + 1, none⟩) hrlt] at hr2
        have HBAD := (show Hid (bad (nth l i) = true → x = 110) from fun h => by rw [HX.out, upto_bad h1' hend h])
        have HTW := (show Hid (∀ j, j < i → (nth l j).fr = (nth l i).fr → x = 110) from fun j hj e => by rw [HX.out, upto_twice h1' hend hj e])
        have HST := (show Hid (bad (nth l i) = false → (∀ j, j < i → (nth l j).fr ≠ (nth l i).fr) → Upto l (i + 1)) from fun hb hn => upto_step hend HU.out hb hn)
        have HBL := (show Hid _ from bad_lt (nth l i))
        generalize hri : nth l i = r at *
        obtain ⟨wA, HWA⟩ : ∃ wA, Hid (wA = wr.alloc (.cells #[.string r.fr, .string r.to] 80)) := ⟨_, rfl⟩
        have hBA : Below w.heap.size w wA := by rw [HWA.out]; exact hB.alloc hB.size _
        have hnA : wA.heap[wr.heap.size]? = some (.cells #[.string r.fr, .string r.to] 80 (0, 0)) := by rw [HWA.out]; exact heap_alloc_new wr _
        have hltA : wr.heap.size < wA.heap.size := (Array.getElem?_eq_some_iff.1 hnA).1
        have hcA : wA.cell? ⟨wr.heap.size, 0, none⟩ = some (.string r.fr) := by rw [Lib.cell_of_heap hnA]; rfl
        have HHR := (show Hid (nth l i = r) from hri)
        have HRE := (show Hid _ from hnA)
        clear hre hnA HU hri
        cases hbr : bad r
        · obtain ⟨hb1, hb2, hb3⟩ := bad_no.1 hbr
          have HST2 := (show Hid _ from HST.out hbr)
          have g1 : decide ((r.fr.size : Int) < 1) = false := decide_eq_false (by omega)
          have g2 : decide (16 < (r.fr.size : Int)) = false := decide_eq_false (by omega)
          have g3 : ¬ (32 : Int) < (r.to.size : Int) := by omega
          clear HST HBAD hbr HBL
          go_wp2
          rw [← HWA.out]
          obtain ⟨wb, hwb⟩ : ∃ wb, wb = wr.heap.size := ⟨_, rfl⟩
          rw [← hwb] at hltA hcA ⊢
          have kAA : Kept wA wA := Below.refl _ _
          have HRS := (show Hid (∀ W, Kept wA W → Rus W (.slice (some ⟨rb, roff, none⟩) l.length cap) l) from fun W h => hv.below (chain hBA h))
          have hrlA : rb < wA.heap.size := Nat.lt_of_lt_of_le hrlt hBA.size
          clear hr1 hr2 hwb
          go_loopw [5] (fun y wr => ∃ (j : Nat), y = .int .i64 j ∧ j ≤ i ∧ Kept wA wr ∧ Hid (∀ k, k < j → (nth l k).fr ≠ r.fr)) (fun y _ => i - (intOf y).toNat)
          case atStart => exact ⟨0, rfl, by omega, kAA, fun k hk => by omega⟩
          case round =>
            obtain ⟨j, rfl, hj, hK, HN⟩ := hrel
            by_cases hje : j < i
            · have hjl : j < l.length := by omega
              obtain ⟨rb2, roff2, rcap2, hre2, _, _, hrlt2, hq1, _⟩ := (HRS.out wr hK).at hjl
              obtain ⟨⟨rfl, rfl⟩, rfl⟩ : (rb = rb2 ∧ roff = roff2) ∧ cap = rcap2 := by simpa using hre2
              have HTW2 := (show Hid _ from HTW.out j hje)
              have HNX := (show Hid ((nth l j).fr ≠ r.fr → ∀ k, k < j + 1 → (nth l k).fr ≠ r.fr) from fun h k hk => by
                by_cases e : k = j
                · rw [e]; exact h
                · exact HN.out k (by omega))
              generalize nth l j = q at *
              have hrltR : rb < wr.heap.size := hrlt2
              have hltR : wb < wr.heap.size := Nat.lt_of_lt_of_le hltA hK.size
              have hcR : wr.cell? ⟨wb, 0, none⟩ = some (.string r.fr) := by rw [Below.cell hK hltA]; exact hcA
              have kR : Kept wr wr := Below.refl _ _
              have hji : (j : Int) < (i : Int) := by omega
              clear hre2 HN
              by_cases he : q.fr = r.fr
              · obtain rfl : x = 110 := HTW2.out he
                have hq : (q.fr.toList == r.fr.toList) = true := by rw [he]; simp
                clear he HTW2 HNX
                go_wp2
                refine wp_region_held (S := Kept wr) (by kernel_rfl) ?_
                refine df.take_op (i := 0) 37 rfl rfl (df.yields_move rfl (.tmp 0) rfl) (by kernel_rfl) (by kernel_rfl) (by kernel_rfl) (fun _ _ _ h => h) kR.drew ?_
                simp only [Act.put, List.setIfInBounds_toArray, List.set_cons_zero, List.set_cons_succ]
                refine df.take_op (i := 1) 38 rfl rfl (df.yields_move rfl (.tmp 5) rfl) (by kernel_rfl) (by kernel_rfl) (by kernel_rfl) (fun _ _ _ h => h) kR.drew ?_
                simp only [Act.put, List.setIfInBounds_toArray, List.set_cons_zero, List.set_cons_succ]
                refine df.take_op (i := 2) 39 rfl rfl (df.yields_run rfl (fun W h => x_index47 (x := .tmp 37) (y := .tmp 38) rfl rfl rfl (by omega))) (by kernel_rfl) (by kernel_rfl) (by kernel_rfl) (fun _ _ _ h => h) kR.drew ?_
                simp only [Act.put, List.setIfInBounds_toArray, List.set_cons_zero, List.set_cons_succ]
                refine df.take_op (i := 3) 40 rfl rfl (df.yields_run rfl (v := .pointer (some ⟨rb, roff + j * 2, none⟩)) (fun W h => by kernel_rfl)) (by kernel_rfl) (by kernel_rfl) (by kernel_rfl) (fun _ _ _ h => h) kR.drew ?_
                simp only [Act.put, List.setIfInBounds_toArray, List.set_cons_zero, List.set_cons_succ]
                refine df.take_op (i := 4) 41 rfl rfl (df.yields_run rfl (v := .string q.fr) (fun W h => x_load9 (x := .tmp 40) rfl rfl (by rw [Below.cell h hrltR]; exact hq1))) (by kernel_rfl) (by kernel_rfl) (by kernel_rfl) (fun _ _ _ h => h) kR.drew ?_
                simp only [Act.put, List.setIfInBounds_toArray, List.set_cons_zero, List.set_cons_succ]
                refine df.take_op (i := 5) 42 rfl rfl (df.yields_run rfl (v := .pointer (some ⟨wb, 0, none⟩)) (fun W h => by kernel_rfl)) (by kernel_rfl) (by kernel_rfl) (by kernel_rfl) (fun _ _ _ h => h) kR.drew ?_
                simp only [Act.put, List.setIfInBounds_toArray, List.set_cons_zero, List.set_cons_succ]
                refine df.take_op (i := 6) 43 rfl rfl (df.yields_run rfl (v := .string r.fr) (fun W h => x_load9 (x := .tmp 42) rfl rfl (by rw [Below.cell h hltR]; exact hcR))) (by kernel_rfl) (by kernel_rfl) (by kernel_rfl) (fun _ _ _ h => h) kR.drew ?_
                simp only [Act.put, List.setIfInBounds_toArray, List.set_cons_zero, List.set_cons_succ]
                refine df.take_op (i := 7) 44 rfl rfl (df.yields_run rfl (v := .bool true) (fun W h => x_eq9 (x := .tmp 41) (y := .tmp 43) rfl rfl rfl hq)) (by kernel_rfl) (by kernel_rfl) (by kernel_rfl) (fun _ _ _ h => h) kR.drew ?_
                simp only [Act.put, List.setIfInBounds_toArray, List.set_cons_zero, List.set_cons_succ]
                refine df.done_op (by kernel_rfl) ?_
                go_wp2
                go_ret
                exact ⟨rfl, chain hBA hK.drew⟩
              · have hq : (q.fr.toList == r.fr.toList) = false := by
                  rw [beq_eq_false_iff_ne, ByteArray.toList_eq, ByteArray.toList_eq]
                  exact fun e => he (ba_ext e)
                have HN2 := (show Hid _ from HNX.out he)
                clear he HTW2 HNX
                go_wp2
                refine wp_region_held (S := Kept wr) (by kernel_rfl) ?_
                refine df.take_op (i := 0) 37 rfl rfl (df.yields_move rfl (.tmp 0) rfl) (by kernel_rfl) (by kernel_rfl) (by kernel_rfl) (fun _ _ _ h => h) kR.drew ?_
                simp only [Act.put, List.setIfInBounds_toArray, List.set_cons_zero, List.set_cons_succ]
                refine df.take_op (i := 1) 38 rfl rfl (df.yields_move rfl (.tmp 5) rfl) (by kernel_rfl) (by kernel_rfl) (by kernel_rfl) (fun _ _ _ h => h) kR.drew ?_
                simp only [Act.put, List.setIfInBounds_toArray, List.set_cons_zero, List.set_cons_succ]
                refine df.take_op (i := 2) 39 rfl rfl (df.yields_run rfl (fun W h => x_index47 (x := .tmp 37) (y := .tmp 38) rfl rfl rfl (by omega))) (by kernel_rfl) (by kernel_rfl) (by kernel_rfl) (fun _ _ _ h => h) kR.drew ?_
                simp only [Act.put, List.setIfInBounds_toArray, List.set_cons_zero, List.set_cons_succ]
                refine df.take_op (i := 3) 40 rfl rfl (df.yields_run rfl (v := .pointer (some ⟨rb, roff + j * 2, none⟩)) (fun W h => by kernel_rfl)) (by kernel_rfl) (by kernel_rfl) (by kernel_rfl) (fun _ _ _ h => h) kR.drew ?_
                simp only [Act.put, List.setIfInBounds_toArray, List.set_cons_zero, List.set_cons_succ]
                refine df.take_op (i := 4) 41 rfl rfl (df.yields_run rfl (v := .string q.fr) (fun W h => x_load9 (x := .tmp 40) rfl rfl (by rw [Below.cell h hrltR]; exact hq1))) (by kernel_rfl) (by kernel_rfl) (by kernel_rfl) (fun _ _ _ h => h) kR.drew ?_
                simp only [Act.put, List.setIfInBounds_toArray, List.set_cons_zero, List.set_cons_succ]
                refine df.take_op (i := 5) 42 rfl rfl (df.yields_run rfl (v := .pointer (some ⟨wb, 0, none⟩)) (fun W h => by kernel_rfl)) (by kernel_rfl) (by kernel_rfl) (by kernel_rfl) (fun _ _ _ h => h) kR.drew ?_
                simp only [Act.put, List.setIfInBounds_toArray, List.set_cons_zero, List.set_cons_succ]
                refine df.take_op (i := 6) 43 rfl rfl (df.yields_run rfl (v := .string r.fr) (fun W h => x_load9 (x := .tmp 42) rfl rfl (by rw [Below.cell h hltR]; exact hcR))) (by kernel_rfl) (by kernel_rfl) (by kernel_rfl) (fun _ _ _ h => h) kR.drew ?_
                simp only [Act.put, List.setIfInBounds_toArray, List.set_cons_zero, List.set_cons_succ]
                refine df.take_op (i := 7) 44 rfl rfl (df.yields_run rfl (v := .bool false) (fun W h => x_eq9 (x := .tmp 41) (y := .tmp 43) rfl rfl rfl hq)) (by kernel_rfl) (by kernel_rfl) (by kernel_rfl) (fun _ _ _ h => h) kR.drew ?_
                simp only [Act.put, List.setIfInBounds_toArray, List.set_cons_zero, List.set_cons_succ]
                refine df.done_op (by kernel_rfl) ?_
                go_wp2
                go_roundw
                case rel => exact ⟨j + 1, by go_num, by omega, hK.drew, HN2⟩
                case measure => simp [intOf]; omega
            · have HU2 := (show Hid (Upto l (i + 1)) from HST2.out (fun k hk => HN.out k (by omega)))
              clear HN HST2
              go_wp2
              go_roundw
              case rel => exact ⟨i + 1, by go_num, by omega, chain hBA hK, HU2⟩
              case measure => simp [intOf]; omega
        · obtain rfl : x = 110 := HBAD.out hbr
          have HBB := (show Hid _ from hbr.symm.trans HBL.out)
          clear HST HBAD hbr HBL
          have hB3 : Below w.heap.size w (wr.alloc (.cells #[.string r.fr, .string r.to] 80)) := hB.alloc hB.size _
          by_cases g1 : (r.fr.size : Int) < 1
          · have g1' : decide ((r.fr.size : Int) < 1) = true := decide_eq_true g1
            go_wp2
            go_ret
            exact ⟨rfl, hB3⟩
          · have g1' : decide ((r.fr.size : Int) < 1) = false := decide_eq_false g1
            by_cases g2 : 16 < (r.fr.size : Int)
            · have g2' : decide (16 < (r.fr.size : Int)) = true := decide_eq_true g2
              go_wp2
              go_ret
              exact ⟨rfl, hB3⟩
            · have g2' : decide (16 < (r.fr.size : Int)) = false := decide_eq_false g2
              have g3 : 32 < (r.to.size : Int) := by
                have := HBB.out
                rw [g1', g2', Bool.false_or, Bool.false_or] at this
                exact of_decide_eq_true this.symm
              clear HBB
              go_wp2
              go_ret
              exact ⟨rfl, hB3⟩
      · have he : i = l.length := by omega
        subst he
        obtain rfl : x = 0 := by rw [HX.out, upto_all h1' HU.out]
        go_wp2
        go_ret
        exact ⟨rfl, hB⟩
end Go.Proofs.YthmecbonjkcnmaaGreat.ru

namespace Go.Proofs.YthmecbonjkcnmaaGreat.ru
open Go.ChangeShapes Go.WideShapes Go.ChangeAt Go.RowKit
set_option linter.unusedVariables false

theorem up_not {a b n : Nat} (ha : 1 ≤ a) (h : n * a < b) : n < up a b := by
  rcases Nat.lt_or_ge n (up a b) with h1 | h1
  · exact h1
  · have h2 := up_mul (b := b) (show 0 < a by omega)
    have h3 : up a b * a ≤ n * a := Nat.mul_le_mul_right _ h1
    omega
def RGrIs (l : List Ru) (n : Nat) : Prop := ∀ v w, Rus w v l → Calls Tryz.prog 18 #[v] w fun e w' => e = .returned (.int .i64 (n : Int)) ∧ Below w.heap.size w w'
set_option maxHeartbeats 4000000 in
set_option maxRecDepth 100000 in
theorem rgr_any (l : List Ru) (hg : Good l) (n : Nat) (hn : n = growN 1 l) : RGrIs l n := by
  intro v w hv
  have HN := (show Hid (n = growN 1 l) from hn)
  have h64 := hg.1
  obtain ⟨av, cap, rfl, _, _⟩ := hv.form
  clear hn
  go_enter Tryz.func18, Tryz.ntmps18
  go_wp2
  go_loopw [3, 9] (fun u x wr => ∃ (i k : Nat), u = .int .i64 k ∧ x = .int .i64 i ∧ i ≤ l.length ∧ Below w.heap.size w wr ∧ k ≤ 32 ∧ Hid (k = growN 1 (l.take i))) (fun _ x _ => l.length - (intOf x).toNat)
  case atStart => exact ⟨0, 1, rfl, rfl, by omega, Below.refl _ _, by omega, rfl⟩
  case round =>
    obtain ⟨i, k, rfl, rfl, hi, hB, hk, HK⟩ := hrel
    by_cases hend : i < l.length
    · obtain ⟨rb, roff, rcap', hre, hrl, hrm, hrlt, hr1, hr2⟩ := hv.at hend
      obtain ⟨rfl, rfl⟩ : av = some ⟨rb, roff, none⟩ ∧ cap = rcap' := by simpa using hre
      rw [← hB.cell (p := ⟨rb, roff + i * 2, none⟩) hrlt] at hr1
      rw [← hB.cell (p := ⟨rb, roff + i * 2 + 1, none⟩) hrlt] at hr2
      have hbd := bad_no.1 (hg.2.1 _ (nth_mem l i hend))
      have HK2 := (show Hid _ from growN_take l i hend)
      generalize nth l i = r at *
      rw [← HK.out] at HK2
      have hu32 : up r.fr.size r.to.size ≤ 32 := up_le (by omega) (by have : 32 * 1 ≤ 32 * r.fr.size := Nat.mul_le_mul_left _ hbd.1; omega)
      have HUN := (show Hid (∀ m, m * r.fr.size < r.to.size → m < up r.fr.size r.to.size) from fun m h => up_not hbd.1 h)
      have HUL := (show Hid (∀ m, r.to.size ≤ m * r.fr.size → up r.fr.size r.to.size ≤ m) from fun m h => up_le (by omega) h)
      generalize up r.fr.size r.to.size = q at *
      obtain ⟨hb1, hb2, hb3⟩ := hbd
      obtain ⟨wA, HWA⟩ : ∃ wA, Hid (wA = wr.alloc (.cells #[.string r.fr, .string r.to] 80)) := ⟨_, rfl⟩
      have hBA : Below w.heap.size w wA := by rw [HWA.out]; exact hB.alloc hB.size _
      have hnA : wA.heap[wr.heap.size]? = some (.cells #[.string r.fr, .string r.to] 80 (0, 0)) := by rw [HWA.out]; exact heap_alloc_new wr _
      have hcA : wA.cell? ⟨wr.heap.size, 0, none⟩ = some (.string r.fr) := by rw [Lib.cell_of_heap hnA]; rfl
      have hcB : wA.cell? ⟨wr.heap.size, 1, none⟩ = some (.string r.to) := by rw [Lib.cell_of_heap hnA]; rfl
      clear HK hre hnA
      go_wp2
      rw [← HWA.out]
      obtain ⟨wb, hwb⟩ : ∃ wb, wb = wr.heap.size := ⟨_, rfl⟩
      rw [← hwb] at hcA hcB ⊢
      clear hr1 hr2 hwb
      go_loopw [6] (fun y wr => ∃ (m : Nat), y = .int .i64 m ∧ m ≤ q ∧ wr = wA) (fun y _ => q - (intOf y).toNat)
      case atStart => exact ⟨0, rfl, by omega, rfl⟩
      case round =>
        obtain ⟨m, rfl, hm, rfl⟩ := hrel
        have hmm : m * r.fr.size ≤ 32 * 16 := Nat.mul_le_mul (by omega) hb2
        have hmi : (m : Int) * (r.fr.size : Int) ≤ 512 := by rw [← Int.natCast_mul]; omega
        have hmi0 : 0 ≤ (m : Int) * (r.fr.size : Int) := by rw [← Int.natCast_mul]; omega
        by_cases hlt : m * r.fr.size < r.to.size
        · have f1 : (m : Int) * (r.fr.size : Int) < (r.to.size : Int) := by rw [← Int.natCast_mul]; omega
          have hmq := HUN.out m hlt
          clear hlt hmm
          go_wp2
          go_roundw
          case rel => exact ⟨m + 1, by go_num, by omega, trivial⟩
          case measure => simp [intOf]; omega
        · have f1 : ¬ (m : Int) * (r.fr.size : Int) < (r.to.size : Int) := by rw [← Int.natCast_mul]; omega
          obtain rfl : m = q := by have := HUL.out m (by omega); omega
          clear hlt hmm
          by_cases hmx : k < m
          · have f2 : (k : Int) < (m : Int) := by omega
            go_wp2
            go_roundw
            case rel => exact ⟨i + 1, m, by go_num, by go_num, by omega, hBA, by omega, by show _ = _; rw [HK2.out]; omega⟩
            case measure => simp [intOf]; omega
          · have f2 : ¬ (k : Int) < (m : Int) := by omega
            go_wp2
            go_roundw
            case rel => exact ⟨i + 1, k, by go_num, by go_num, by omega, hBA, by omega, by show _ = _; rw [HK2.out]; omega⟩
            case measure => simp [intOf]; omega
    · have he : i = l.length := by omega
      subst he
      rw [List.take_length] at HK
      go_wp2
      go_ret
      exact ⟨by rw [HN.out, HK.out]; rfl, hB⟩

/-- whether a text goes on with another one at a place -/
def beg (s : ByteArray) (k : Nat) (t : ByteArray) : Bool := t.data.toList.isPrefixOf (s.data.toList.drop k)
theorem mid_list (s : ByteArray) (i j : Nat) : (s.extract i j).data.toList = (s.data.toList.drop i).take (j - i) := by
  rw [ByteArray.data_extract, Array.toList_extract]
set_option maxHeartbeats 1000000 in
set_option maxRecDepth 100000 in
theorem beg_any (s t : ByteArray) (k : Nat) (hs : s.size ≤ 3000) (ht : t.size ≤ 3000) (hk : k ≤ s.size) (x : Bool) (hx : x = beg s k t) (w : World) : Calls Tryz.prog 49 #[.string s, .int .i64 (k : Int), .string t] w fun e w' => e = .returned (.bool x) ∧ w' = w := by
  have hdl : (s.data.toList.drop k).length = s.size - k := by rw [List.length_drop, list_len]
  by_cases h : k + t.size ≤ s.size
  · have HX := (show Hid (((s.extract k (k + t.size)).toList == t.toList) = x) from by
      show _ = _
      rw [hx]
      unfold beg
      rw [ByteArray.toList_eq, ByteArray.toList_eq, mid_list, Nat.add_sub_cancel_left, Bool.eq_iff_iff, List.isPrefixOf_iff_prefix, beq_iff_eq]
      constructor
      · intro e
        rw [← e]
        exact List.take_prefix _ _
      · intro hp
        have := List.prefix_iff_eq_take.1 hp
        rw [list_len] at this
        exact this.symm)
    have h1 : (k : Int) + (t.size : Int) ≤ (s.size : Int) := by omega
    have h2 : (k : Int) ≤ (k : Int) + (t.size : Int) := by omega
    have h3 : 0 ≤ (k : Int) + (t.size : Int) := by omega
    have h4 : ((k : Int) + (t.size : Int)).toNat = k + t.size := by omega
    clear hx
    go_enter Tryz.func49, Tryz.ntmps49
    go_wp2
    go_ret
    refine ⟨?_, rfl⟩
    rw [← HX.out]
    rfl
  · have h1 : (s.size : Int) < (k : Int) + (t.size : Int) := by omega
    obtain rfl : x = false := by
      rw [hx]
      unfold beg
      rw [Bool.eq_false_iff]
      intro hp
      have := (List.isPrefixOf_iff_prefix.1 hp).length_le
      rw [hdl, list_len] at this
      omega
    clear hx
    go_enter Tryz.func49, Tryz.ntmps49
    go_wp2
    go_ret
    exact ⟨rfl, rfl⟩
end Go.Proofs.YthmecbonjkcnmaaGreat.ru
