/-
  Contracts over this program: which nfa may be, as the document has it (fretsawref07's Right).
-/
import Derived.Test.YthknhbmibmndoaaNr
namespace Go.Proofs.Ythknhbmibmndoaa.nf
open Go.ChangeShapes Go.WideShapes Go.ChangeAt Go.RowKit
set_option linter.unusedVariables false

set_option maxHeartbeats 1000000 in
theorem rright_0 (x : Nfa)  (g0 : x.n < 1) : RtIs 10 x false := by
  intro o cap w hE
  have f0 : decide (x.n < 1) = true := decide_eq_true g0
  clear hE g0
  go_enter Try.func10, Try.ntmps10
  go_wp2
  go_ret
  exact ⟨rfl, below_alloc _ _⟩
set_option maxHeartbeats 1000000 in
theorem rright_1 (x : Nfa) (g0 : ¬ (x.n < 1)) (g1 : 2000 < x.n) : RtIs 10 x false := by
  intro o cap w hE
  have f0 : decide (x.n < 1) = false := decide_eq_false g0
  have f1 : decide (2000 < x.n) = true := decide_eq_true g1
  clear hE g0 g1
  go_enter Try.func10, Try.ntmps10
  go_wp2
  go_ret
  exact ⟨rfl, below_alloc _ _⟩
set_option maxHeartbeats 1000000 in
theorem rright_2 (x : Nfa) (g0 : ¬ (x.n < 1)) (g1 : ¬ (2000 < x.n)) (g2 : x.s < 0) : RtIs 10 x false := by
  intro o cap w hE
  have f0 : decide (x.n < 1) = false := decide_eq_false g0
  have f1 : decide (2000 < x.n) = false := decide_eq_false g1
  have f2 : decide (x.s < 0) = true := decide_eq_true g2
  clear hE g0 g1 g2
  go_enter Try.func10, Try.ntmps10
  go_wp2
  go_ret
  exact ⟨rfl, below_alloc _ _⟩
set_option maxHeartbeats 1000000 in
theorem rright_3 (x : Nfa) (g0 : ¬ (x.n < 1)) (g1 : ¬ (2000 < x.n)) (g2 : ¬ (x.s < 0)) (g3 : x.n ≤ x.s) : RtIs 10 x false := by
  intro o cap w hE
  have f0 : decide (x.n < 1) = false := decide_eq_false g0
  have f1 : decide (2000 < x.n) = false := decide_eq_false g1
  have f2 : decide (x.s < 0) = false := decide_eq_false g2
  have f3 : decide (x.n ≤ x.s) = true := decide_eq_true g3
  clear hE g0 g1 g2 g3
  go_enter Try.func10, Try.ntmps10
  go_wp2
  go_ret
  exact ⟨rfl, below_alloc _ _⟩
set_option maxHeartbeats 1000000 in
theorem rright_4 (x : Nfa) (g0 : ¬ (x.n < 1)) (g1 : ¬ (2000 < x.n)) (g2 : ¬ (x.s < 0)) (g3 : ¬ (x.n ≤ x.s)) (g4 : x.e < 0) : RtIs 10 x false := by
  intro o cap w hE
  have f0 : decide (x.n < 1) = false := decide_eq_false g0
  have f1 : decide (2000 < x.n) = false := decide_eq_false g1
  have f2 : decide (x.s < 0) = false := decide_eq_false g2
  have f3 : decide (x.n ≤ x.s) = false := decide_eq_false g3
  have f4 : decide (x.e < 0) = true := decide_eq_true g4
  clear hE g0 g1 g2 g3 g4
  go_enter Try.func10, Try.ntmps10
  go_wp2
  go_ret
  exact ⟨rfl, below_alloc _ _⟩
set_option maxHeartbeats 1000000 in
theorem rright_5 (x : Nfa) (g0 : ¬ (x.n < 1)) (g1 : ¬ (2000 < x.n)) (g2 : ¬ (x.s < 0)) (g3 : ¬ (x.n ≤ x.s)) (g4 : ¬ (x.e < 0)) (g5 : x.n ≤ x.e) : RtIs 10 x false := by
  intro o cap w hE
  have f0 : decide (x.n < 1) = false := decide_eq_false g0
  have f1 : decide (2000 < x.n) = false := decide_eq_false g1
  have f2 : decide (x.s < 0) = false := decide_eq_false g2
  have f3 : decide (x.n ≤ x.s) = false := decide_eq_false g3
  have f4 : decide (x.e < 0) = false := decide_eq_false g4
  have f5 : decide (x.n ≤ x.e) = true := decide_eq_true g5
  clear hE g0 g1 g2 g3 g4 g5
  go_enter Try.func10, Try.ntmps10
  go_wp2
  go_ret
  exact ⟨rfl, below_alloc _ _⟩
set_option maxHeartbeats 1000000 in
theorem rright_6 (x : Nfa) (g0 : ¬ (x.n < 1)) (g1 : ¬ (2000 < x.n)) (g2 : ¬ (x.s < 0)) (g3 : ¬ (x.n ≤ x.s)) (g4 : ¬ (x.e < 0)) (g5 : ¬ (x.n ≤ x.e)) (g6 : 16000 < x.edges.length) : RtIs 10 x false := by
  intro o cap w hE
  generalize x.edges.length = m at *
  have f0 : decide (x.n < 1) = false := decide_eq_false g0
  have f1 : decide (2000 < x.n) = false := decide_eq_false g1
  have f2 : decide (x.s < 0) = false := decide_eq_false g2
  have f3 : decide (x.n ≤ x.s) = false := decide_eq_false g3
  have f4 : decide (x.e < 0) = false := decide_eq_false g4
  have f5 : decide (x.n ≤ x.e) = false := decide_eq_false g5
  have f6 : decide (16000 < m) = true := decide_eq_true g6
  clear hE g0 g1 g2 g3 g4 g5 g6
  go_enter Try.func10, Try.ntmps10
  go_wp2
  all_goals first | (exfalso; have := of_decide_eq_true f6; omega) | (go_ret; exact ⟨rfl, below_alloc _ _⟩)
set_option maxHeartbeats 2000000 in
set_option maxRecDepth 100000 in
theorem rright_loop (x : Nfa) (g0 : ¬ x.n < 1) (g1 : ¬ 2000 < x.n) (g2 : ¬ x.s < 0) (g3 : ¬ x.n ≤ x.s) (g4 : ¬ x.e < 0) (g5 : ¬ x.n ≤ x.e) (g6 : ¬ 16000 < x.edges.length) (r : Bool) (hr : r = x.edges.all (edOk x.n)) : RtIs 10 x r := by
  intro o cap w hE
  have f0 : decide (x.n < 1) = false := decide_eq_false g0
  have f1 : decide (2000 < x.n) = false := decide_eq_false g1
  have f2 : decide (x.s < 0) = false := decide_eq_false g2
  have f3 : decide (x.n ≤ x.s) = false := decide_eq_false g3
  have f4 : decide (x.e < 0) = false := decide_eq_false g4
  have f5 : decide (x.n ≤ x.e) = false := decide_eq_false g5
  have f6 : decide (16000 < x.edges.length) = false := decide_eq_false g6
  have hcap := hE.fit
  have htop := hE.top
  have b0 := box_new w x.n x.s x.e o x.edges.length cap
  have HR : Hid (r = x.edges.all (edOk x.n)) := hr
  have HE := (show Hid (Eds w o cap x.edges) from hE)
  clear hE hr g0 g1 g2 g3 g4 g5 g6
  generalize x.edges = l at *
  go_enter Try.func10, Try.ntmps10
  go_wp2_with (fail)
  any_goals (exfalso; have := of_decide_eq_false f6; omega)
  go_loopw [46] (fun y wr => ∃ i : Nat, y = .int .i64 i ∧ i ≤ l.length ∧ Box wr w.heap.size x.n x.s x.e o l.length cap ∧ Below w.heap.size w wr ∧ Hid ((l.take i).all (edOk x.n) = true)) (fun y _ => l.length - (intOf y).toNat)
  case atStart => exact ⟨0, rfl, by omega, b0, below_alloc _ _, by show _ = _; simp⟩
  case round =>
    clear b0 f0 f1 f2 f3 f4 f5 f6
    obtain ⟨i, rfl, hil, bx, hB, HI⟩ := hrel
    by_cases hend : i < l.length
    · obtain ⟨b, off, rfl, hb, hed⟩ := HE.out.lie i hend
      have hed2 := hed.same (hB.block b hb)
      obtain ⟨c0, c1, c2, c3, c4, c5, c6⟩ := hed2
      have hall := all_take (edOk x.n) l i hend
      have hno := all_no (edOk x.n) l i hend
      unfold edOk at hno
      have hok : edOk x.n l[i] = (isSt x.n l[i].fr && isSt x.n l[i].to) := rfl
      rw [hok, HI.out, Bool.true_and] at hall
      clear hok hed
      obtain ⟨y, hy⟩ : ∃ y, y = l[i] := ⟨_, rfl⟩
      rw [← hy] at c0 c1 c2 c3 c4 c5 c6 hall hno
      clear hy
      have x0 := (bx.later (below_alloc wr (.cells #[.int .i64 y.fr, .int .i64 y.to, .bool y.free, .int .u64 y.a, .int .u64 y.b, .int .u64 y.c, .int .u64 y.d] 62)))
      have d0 := x0.c0
      by_cases g0 : y.fr < 0
      · have f_0 : decide (y.fr < 0) = true := decide_eq_true g0
        have HF : Hid (r = false) := by
          show _ = _
          rw [HR.out]
          refine hno ?_
          unfold isSt
          simp
          omega
        clear hno hall HI g0
        go_wp2_with (fail)
        go_ret
        exact ⟨by rw [HF.out]; rfl, chain hB (below_alloc _ _)⟩
      · by_cases g1 : x.n ≤ y.fr
        · have f_1 : decide (x.n ≤ y.fr) = true := decide_eq_true g1
          have f_0 : decide (y.fr < 0) = false := decide_eq_false g0
          have HF : Hid (r = false) := by
            show _ = _
            rw [HR.out]
            refine hno ?_
            unfold isSt
            simp
            omega
          clear hno hall HI g0 g1
          go_wp2_with (fail)
          go_ret
          exact ⟨by rw [HF.out]; rfl, chain hB (below_alloc _ _)⟩
        · by_cases g2 : y.to < 0
          · have f_2 : decide (y.to < 0) = true := decide_eq_true g2
            have f_0 : decide (y.fr < 0) = false := decide_eq_false g0
            have f_1 : decide (x.n ≤ y.fr) = false := decide_eq_false g1
            have HF : Hid (r = false) := by
              show _ = _
              rw [HR.out]
              refine hno ?_
              unfold isSt
              simp
              omega
            clear hno hall HI g0 g1 g2
            go_wp2_with (fail)
            go_ret
            exact ⟨by rw [HF.out]; rfl, chain hB (below_alloc _ _)⟩
          · by_cases g3 : x.n ≤ y.to
            · have f_3 : decide (x.n ≤ y.to) = true := decide_eq_true g3
              have f_0 : decide (y.fr < 0) = false := decide_eq_false g0
              have f_1 : decide (x.n ≤ y.fr) = false := decide_eq_false g1
              have f_2 : decide (y.to < 0) = false := decide_eq_false g2
              have HF : Hid (r = false) := by
                show _ = _
                rw [HR.out]
                refine hno ?_
                unfold isSt
                simp
                omega
              clear hno hall HI g0 g1 g2 g3
              go_wp2_with (fail)
              go_ret
              exact ⟨by rw [HF.out]; rfl, chain hB (below_alloc _ _)⟩
            · have f_0 : decide (y.fr < 0) = false := decide_eq_false g0
              have f_1 : decide (x.n ≤ y.fr) = false := decide_eq_false g1
              have f_2 : decide (y.to < 0) = false := decide_eq_false g2
              have f_3 : decide (x.n ≤ y.to) = false := decide_eq_false g3
              have HN : Hid ((l.take (i + 1)).all (edOk x.n) = true) := by
                show _ = _
                rw [hall]
                unfold isSt
                simp
                omega
              clear hno hall HI g0 g1 g2 g3
              go_wp2_with (fail)
              go_roundw
              case rel => exact ⟨i + 1, by go_num, by omega, x0, chain hB (below_alloc _ _), HN⟩
              case measure => simp [intOf]; omega
    · have HF : Hid (r = true) := by
        show _ = _
        have := HI.out
        rw [List.take_of_length_le (by omega)] at this
        rw [HR.out, this]
      clear HI HR HE
      go_wp2_with (fail)
      go_ret
      exact ⟨by rw [HF.out]; rfl, hB⟩
theorem rright_any (x : Nfa) (r : Bool) (hr : r = right x) : RtIs 10 x r := by
  have no : ∀ (p : Prop), p → (right x = false) → RtIs 10 x false → RtIs 10 x r := fun p _ h h2 => by rw [hr, h]; exact h2
  by_cases g0 : x.n < 1
  · exact no _ g0 (by unfold right isSt; simp; omega) (rright_0 x g0)
  by_cases g1 : 2000 < x.n
  · exact no _ g1 (by unfold right isSt; simp; omega) (rright_1 x g0 g1)
  by_cases g2 : x.s < 0
  · exact no _ g2 (by unfold right isSt; simp; omega) (rright_2 x g0 g1 g2)
  by_cases g3 : x.n ≤ x.s
  · exact no _ g3 (by unfold right isSt; simp; omega) (rright_3 x g0 g1 g2 g3)
  by_cases g4 : x.e < 0
  · exact no _ g4 (by unfold right isSt; simp; omega) (rright_4 x g0 g1 g2 g3 g4)
  by_cases g5 : x.n ≤ x.e
  · exact no _ g5 (by unfold right isSt; simp; omega) (rright_5 x g0 g1 g2 g3 g4 g5)
  by_cases g6 : 16000 < x.edges.length
  · exact no _ g6 (by unfold right isSt; simp; omega) (rright_6 x g0 g1 g2 g3 g4 g5 g6)
  refine rright_loop x g0 g1 g2 g3 g4 g5 g6 r ?_
  rw [hr]
  unfold right isSt
  rw [decide_eq_true (by omega), decide_eq_true (by omega), decide_eq_true (by omega), decide_eq_true (by omega), decide_eq_true (by omega), decide_eq_true (by omega), decide_eq_true (by omega)]
  simp
end Go.Proofs.Ythknhbmibmndoaa.nf
