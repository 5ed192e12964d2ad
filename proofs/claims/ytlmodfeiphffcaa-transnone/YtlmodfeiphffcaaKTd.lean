/-
  Contracts over this program: trans.Right.
-/
import Derived.Test.YtlmodfeiphffcaaM00
namespace Go.Proofs.Ytlmodfeiphffcaa.tr
open Go.ChangeShapes Go.WideShapes Go.ChangeAt Go.RowKit
set_option linter.unusedVariables false

def RightIs (f : Nat) (m : Mc) (a : Bool) : Prop := ∀ p w, MAt (In w) w m p → Calls Try.prog f #[.agg (mv m p)] w fun e w' => e = .returned (.bool a) ∧ Below w.heap.size w w'
theorem bfalse {a b : Nat} (h : ¬ a = b) : ((a : Int) == (b : Int)) = false ∧ ((a : Int) != (b : Int)) = true := ⟨beq_eq_false_iff_ne.2 (by omega), bne_iff_ne.2 (by omega)⟩
theorem btrue {a b : Nat} (h : a = b) : ((a : Int) == (b : Int)) = true ∧ ((a : Int) != (b : Int)) = false := by
  have q : ((a : Int) == (b : Int)) = true := beq_iff_eq.2 (by omega)
  exact ⟨q, by rw [bne, q]; rfl⟩
set_option maxHeartbeats 1000000 in
set_option maxRecDepth 100000 in
theorem right_0 (m : Mc)  (g0 : ¬ 1 ≤ m.next.length) : RightIs 9 m false := by
  intro p w hM
  have B0 := below_alloc w (.cells (mv m p) 26)
  have hM1 := fun n => (hM.later B0).later (below_drewN (Below.refl _ _) n)
  have b0 := box_new w m p
  have k0 := b0.c0
  have k1 := b0.c1
  have k2 := b0.c2
  have k3 := b0.c3
  have t0 := hM.rnx.fit
  have t1 := hM.rnx.top
  have t2 := hM.rpt.fit
  have t3 := hM.rpt.top
  have t4 := hM.ren.fit
  have t5 := hM.ren.top
  have t6 := hM.rtx.fit
  have t7 := hM.rtx.top
  have f0 : decide ((m.next.length : Int) < 1) = true := decide_eq_true (by omega)
  clear g0 hM hM1 b0
  go_enter Try.func9, Try.ntmps9
  go_wp2
  go_quiet (fail)
  go_wp2_with (fail)
  go_ret
  exact ⟨rfl, below_drewN B0 _⟩
set_option maxHeartbeats 1000000 in
set_option maxRecDepth 100000 in
theorem right_1 (m : Mc) (g0 : 1 ≤ m.next.length) (g1 : ¬ m.next.length ≤ 1200) : RightIs 9 m false := by
  intro p w hM
  have B0 := below_alloc w (.cells (mv m p) 26)
  have hM1 := fun n => (hM.later B0).later (below_drewN (Below.refl _ _) n)
  have b0 := box_new w m p
  have k0 := b0.c0
  have k1 := b0.c1
  have k2 := b0.c2
  have k3 := b0.c3
  have t0 := hM.rnx.fit
  have t1 := hM.rnx.top
  have t2 := hM.rpt.fit
  have t3 := hM.rpt.top
  have t4 := hM.ren.fit
  have t5 := hM.ren.top
  have t6 := hM.rtx.fit
  have t7 := hM.rtx.top
  have f0 : decide ((m.next.length : Int) < 1) = false := decide_eq_false (by omega)
  have f1 : decide ((1200 : Int) < (m.next.length : Int)) = true := decide_eq_true (by omega)
  clear g0 g1 hM hM1 b0
  go_enter Try.func9, Try.ntmps9
  go_wp2
  go_quiet (fail)
  go_wp2_with (fail)
  go_ret
  exact ⟨rfl, below_drewN B0 _⟩
set_option maxHeartbeats 1000000 in
set_option maxRecDepth 100000 in
theorem right_2 (m : Mc) (g0 : 1 ≤ m.next.length) (g1 : m.next.length ≤ 1200) (g2 : ¬ m.put.length = m.next.length) : RightIs 9 m false := by
  intro p w hM
  have B0 := below_alloc w (.cells (mv m p) 26)
  have hM1 := fun n => (hM.later B0).later (below_drewN (Below.refl _ _) n)
  have b0 := box_new w m p
  have k0 := b0.c0
  have k1 := b0.c1
  have k2 := b0.c2
  have k3 := b0.c3
  have t0 := hM.rnx.fit
  have t1 := hM.rnx.top
  have t2 := hM.rpt.fit
  have t3 := hM.rpt.top
  have t4 := hM.ren.fit
  have t5 := hM.ren.top
  have t6 := hM.rtx.fit
  have t7 := hM.rtx.top
  have f0 : decide ((m.next.length : Int) < 1) = false := decide_eq_false (by omega)
  have f1 : decide ((1200 : Int) < (m.next.length : Int)) = false := decide_eq_false (by omega)
  have ⟨f2, f2b⟩ := bfalse g2
  clear g0 g1 g2 hM hM1 b0
  go_enter Try.func9, Try.ntmps9
  go_wp2
  go_quiet (fail)
  go_wp2_with (fail)
  go_ret
  exact ⟨rfl, below_drewN B0 _⟩
set_option maxHeartbeats 1000000 in
set_option maxRecDepth 100000 in
theorem right_3 (m : Mc) (g0 : 1 ≤ m.next.length) (g1 : m.next.length ≤ 1200) (g2 : m.put.length = m.next.length) (g3 : ¬ m.fin.length = m.next.length) : RightIs 9 m false := by
  intro p w hM
  have B0 := below_alloc w (.cells (mv m p) 26)
  have hM1 := fun n => (hM.later B0).later (below_drewN (Below.refl _ _) n)
  have b0 := box_new w m p
  have k0 := b0.c0
  have k1 := b0.c1
  have k2 := b0.c2
  have k3 := b0.c3
  have t0 := hM.rnx.fit
  have t1 := hM.rnx.top
  have t2 := hM.rpt.fit
  have t3 := hM.rpt.top
  have t4 := hM.ren.fit
  have t5 := hM.ren.top
  have t6 := hM.rtx.fit
  have t7 := hM.rtx.top
  have f0 : decide ((m.next.length : Int) < 1) = false := decide_eq_false (by omega)
  have f1 : decide ((1200 : Int) < (m.next.length : Int)) = false := decide_eq_false (by omega)
  have ⟨f2, f2b⟩ := btrue g2
  have ⟨f3, f3b⟩ := bfalse g3
  clear g0 g1 g2 g3 hM hM1 b0
  go_enter Try.func9, Try.ntmps9
  go_wp2
  go_quiet (fail)
  go_wp2_with (fail)
  go_ret
  exact ⟨rfl, below_drewN B0 _⟩
set_option maxHeartbeats 1000000 in
set_option maxRecDepth 100000 in
theorem right_4 (m : Mc) (g0 : 1 ≤ m.next.length) (g1 : m.next.length ≤ 1200) (g2 : m.put.length = m.next.length) (g3 : m.fin.length = m.next.length) (g4 : ¬ m.txt.length ≤ 4096) : RightIs 9 m false := by
  intro p w hM
  have B0 := below_alloc w (.cells (mv m p) 26)
  have hM1 := fun n => (hM.later B0).later (below_drewN (Below.refl _ _) n)
  have b0 := box_new w m p
  have k0 := b0.c0
  have k1 := b0.c1
  have k2 := b0.c2
  have k3 := b0.c3
  have t0 := hM.rnx.fit
  have t1 := hM.rnx.top
  have t2 := hM.rpt.fit
  have t3 := hM.rpt.top
  have t4 := hM.ren.fit
  have t5 := hM.ren.top
  have t6 := hM.rtx.fit
  have t7 := hM.rtx.top
  have f0 : decide ((m.next.length : Int) < 1) = false := decide_eq_false (by omega)
  have f1 : decide ((1200 : Int) < (m.next.length : Int)) = false := decide_eq_false (by omega)
  have ⟨f2, f2b⟩ := btrue g2
  have ⟨f3, f3b⟩ := btrue g3
  have f4 : decide ((4096 : Int) < (m.txt.length : Int)) = true := decide_eq_true (by omega)
  clear g0 g1 g2 g3 g4 hM hM1 b0
  go_enter Try.func9, Try.ntmps9
  go_wp2
  go_quiet (fail)
  go_wp2_with (fail)
  go_ret
  exact ⟨rfl, below_drewN B0 _⟩
set_option maxHeartbeats 1000000 in
set_option maxRecDepth 100000 in
theorem right_5 (m : Mc) (g0 : 1 ≤ m.next.length) (g1 : m.next.length ≤ 1200) (g2 : m.put.length = m.next.length) (g3 : m.fin.length = m.next.length) (g4 : m.txt.length ≤ 4096) (g5 : texts m.txt = false) : RightIs 9 m false := by
  intro p w hM
  have B0 := below_alloc w (.cells (mv m p) 26)
  have hM1 := fun n => (hM.later B0).later (below_drewN (Below.refl _ _) n)
  have b0 := box_new w m p
  have k0 := b0.c0
  have k1 := b0.c1
  have k2 := b0.c2
  have k3 := b0.c3
  have t0 := hM.rnx.fit
  have t1 := hM.rnx.top
  have t2 := hM.rpt.fit
  have t3 := hM.rpt.top
  have t4 := hM.ren.fit
  have t5 := hM.ren.top
  have t6 := hM.rtx.fit
  have t7 := hM.rtx.top
  have c26 := fun n => any_any m.txt _ rfl _ _ _ (hM1 n).rtx
  rw [g5] at c26
  have f0 : decide ((m.next.length : Int) < 1) = false := decide_eq_false (by omega)
  have f1 : decide ((1200 : Int) < (m.next.length : Int)) = false := decide_eq_false (by omega)
  have ⟨f2, f2b⟩ := btrue g2
  have ⟨f3, f3b⟩ := btrue g3
  have f4 : decide ((4096 : Int) < (m.txt.length : Int)) = false := decide_eq_false (by omega)
  have hm : m.txt.length ≤ 4096 := g4
  clear g0 g1 g2 g3 g4 g5 hM hM1 b0
  go_enter Try.func9, Try.ntmps9
  go_wp2
  go_quiet (fail)
  go_wp2_with (first | (go_at_call 24; refine (c26 _).mono ?_; rintro e w1 ⟨rfl, h⟩; obtain rfl := h.symm))
  go_ret
  exact ⟨rfl, below_drewN B0 _⟩
set_option maxHeartbeats 1000000 in
set_option maxRecDepth 100000 in
theorem right_6 (m : Mc) (g0 : 1 ≤ m.next.length) (g1 : m.next.length ≤ 1200) (g2 : m.put.length = m.next.length) (g3 : m.fin.length = m.next.length) (g4 : m.txt.length ≤ 4096) (g5 : texts m.txt = true) (g6 : rows m.next.length m.next = false) : RightIs 9 m false := by
  intro p w hM
  have B0 := below_alloc w (.cells (mv m p) 26)
  have hM1 := fun n => (hM.later B0).later (below_drewN (Below.refl _ _) n)
  have b0 := box_new w m p
  have k0 := b0.c0
  have k1 := b0.c1
  have k2 := b0.c2
  have k3 := b0.c3
  have t0 := hM.rnx.fit
  have t1 := hM.rnx.top
  have t2 := hM.rpt.fit
  have t3 := hM.rpt.top
  have t4 := hM.ren.fit
  have t5 := hM.ren.top
  have t6 := hM.rtx.fit
  have t7 := hM.rtx.top
  have c26 := fun n => any_any m.txt _ rfl _ _ _ (hM1 n).rtx
  rw [g5] at c26
  have c28 := fun n => rows_any m.next.length m.next _ rfl _ _ _ (hM1 n).rnx
  rw [g6] at c28
  have f0 : decide ((m.next.length : Int) < 1) = false := decide_eq_false (by omega)
  have f1 : decide ((1200 : Int) < (m.next.length : Int)) = false := decide_eq_false (by omega)
  have ⟨f2, f2b⟩ := btrue g2
  have ⟨f3, f3b⟩ := btrue g3
  have f4 : decide ((4096 : Int) < (m.txt.length : Int)) = false := decide_eq_false (by omega)
  have hm : m.txt.length ≤ 4096 := g4
  clear g0 g1 g2 g3 g4 g5 g6 hM hM1 b0
  go_enter Try.func9, Try.ntmps9
  go_wp2
  go_quiet (fail)
  go_wp2_with (first | (go_at_call 24; refine (c26 _).mono ?_; rintro e w1 ⟨rfl, h⟩; obtain rfl := h.symm) | (go_at_call 26; (with_reducible refine (c28 _).mono ?_); rintro e w1 ⟨rfl, h⟩; obtain rfl := h.symm))
  go_ret
  exact ⟨rfl, below_drewN B0 _⟩
set_option maxHeartbeats 1000000 in
set_option maxRecDepth 100000 in
theorem right_7 (m : Mc) (g0 : 1 ≤ m.next.length) (g1 : m.next.length ≤ 1200) (g2 : m.put.length = m.next.length) (g3 : m.fin.length = m.next.length) (g4 : m.txt.length ≤ 4096) (g5 : texts m.txt = true) (g6 : rows m.next.length m.next = true) (g7 : rows (2 * m.txt.length) m.put = false) : RightIs 9 m false := by
  intro p w hM
  have B0 := below_alloc w (.cells (mv m p) 26)
  have hM1 := fun n => (hM.later B0).later (below_drewN (Below.refl _ _) n)
  have b0 := box_new w m p
  have k0 := b0.c0
  have k1 := b0.c1
  have k2 := b0.c2
  have k3 := b0.c3
  have t0 := hM.rnx.fit
  have t1 := hM.rnx.top
  have t2 := hM.rpt.fit
  have t3 := hM.rpt.top
  have t4 := hM.ren.fit
  have t5 := hM.ren.top
  have t6 := hM.rtx.fit
  have t7 := hM.rtx.top
  have c26 := fun n => any_any m.txt _ rfl _ _ _ (hM1 n).rtx
  rw [g5] at c26
  have c28 := fun n => rows_any m.next.length m.next _ rfl _ _ _ (hM1 n).rnx
  rw [g6] at c28
  have c28b := fun n => rows_any (2 * m.txt.length) m.put _ rfl _ _ _ (hM1 n).rpt
  rw [g7, show (((2 * m.txt.length : Nat)) : Int) = 2 * (m.txt.length : Int) by omega] at c28b
  have f0 : decide ((m.next.length : Int) < 1) = false := decide_eq_false (by omega)
  have f1 : decide ((1200 : Int) < (m.next.length : Int)) = false := decide_eq_false (by omega)
  have ⟨f2, f2b⟩ := btrue g2
  have ⟨f3, f3b⟩ := btrue g3
  have f4 : decide ((4096 : Int) < (m.txt.length : Int)) = false := decide_eq_false (by omega)
  have hm : m.txt.length ≤ 4096 := g4
  clear g0 g1 g2 g3 g4 g5 g6 g7 hM hM1 b0
  go_enter Try.func9, Try.ntmps9
  go_wp2
  go_quiet (fail)
  go_wp2_with (first | (go_at_call 24; refine (c26 _).mono ?_; rintro e w1 ⟨rfl, h⟩; obtain rfl := h.symm) | (go_at_call 26; (with_reducible refine (c28 _).mono ?_); rintro e w1 ⟨rfl, h⟩; obtain rfl := h.symm) | (go_at_call 26; (with_reducible refine (c28b _).mono ?_); rintro e w1 ⟨rfl, h⟩; obtain rfl := h.symm))
  go_ret
  exact ⟨rfl, below_drewN B0 _⟩
set_option maxHeartbeats 1000000 in
set_option maxRecDepth 100000 in
theorem right_8 (m : Mc) (g0 : 1 ≤ m.next.length) (g1 : m.next.length ≤ 1200) (g2 : m.put.length = m.next.length) (g3 : m.fin.length = m.next.length) (g4 : m.txt.length ≤ 4096) (g5 : texts m.txt = true) (g6 : rows m.next.length m.next = true) (g7 : rows (2 * m.txt.length) m.put = true) (g8 : below m.txt.length m.fin = false) : RightIs 9 m false := by
  intro p w hM
  have B0 := below_alloc w (.cells (mv m p) 26)
  have hM1 := fun n => (hM.later B0).later (below_drewN (Below.refl _ _) n)
  have b0 := box_new w m p
  have k0 := b0.c0
  have k1 := b0.c1
  have k2 := b0.c2
  have k3 := b0.c3
  have t0 := hM.rnx.fit
  have t1 := hM.rnx.top
  have t2 := hM.rpt.fit
  have t3 := hM.rpt.top
  have t4 := hM.ren.fit
  have t5 := hM.ren.top
  have t6 := hM.rtx.fit
  have t7 := hM.rtx.top
  have c26 := fun n => any_any m.txt _ rfl _ _ _ (hM1 n).rtx
  rw [g5] at c26
  have c28 := fun n => rows_any m.next.length m.next _ rfl _ _ _ (hM1 n).rnx
  rw [g6] at c28
  have c28b := fun n => rows_any (2 * m.txt.length) m.put _ rfl _ _ _ (hM1 n).rpt
  rw [g7, show (((2 * m.txt.length : Nat)) : Int) = 2 * (m.txt.length : Int) by omega] at c28b
  have c29 := fun n => below_any m.txt.length m.fin _ rfl _ _ _ (hM1 n).ren
  rw [g8] at c29
  have f0 : decide ((m.next.length : Int) < 1) = false := decide_eq_false (by omega)
  have f1 : decide ((1200 : Int) < (m.next.length : Int)) = false := decide_eq_false (by omega)
  have ⟨f2, f2b⟩ := btrue g2
  have ⟨f3, f3b⟩ := btrue g3
  have f4 : decide ((4096 : Int) < (m.txt.length : Int)) = false := decide_eq_false (by omega)
  have hm : m.txt.length ≤ 4096 := g4
  clear g0 g1 g2 g3 g4 g5 g6 g7 g8 hM hM1 b0
  go_enter Try.func9, Try.ntmps9
  go_wp2
  go_quiet (fail)
  go_wp2_with (first | (go_at_call 24; refine (c26 _).mono ?_; rintro e w1 ⟨rfl, h⟩; obtain rfl := h.symm) | (go_at_call 26; (with_reducible refine (c28 _).mono ?_); rintro e w1 ⟨rfl, h⟩; obtain rfl := h.symm) | (go_at_call 26; (with_reducible refine (c28b _).mono ?_); rintro e w1 ⟨rfl, h⟩; obtain rfl := h.symm) | (go_at_call 27; refine (c29 _).mono ?_; rintro e w1 ⟨rfl, h⟩; obtain rfl := h.symm))
  go_ret
  exact ⟨rfl, below_drewN B0 _⟩
set_option maxHeartbeats 1000000 in
set_option maxRecDepth 100000 in
theorem right_9 (m : Mc) (g0 : 1 ≤ m.next.length) (g1 : m.next.length ≤ 1200) (g2 : m.put.length = m.next.length) (g3 : m.fin.length = m.next.length) (g4 : m.txt.length ≤ 4096) (g5 : texts m.txt = true) (g6 : rows m.next.length m.next = true) (g7 : rows (2 * m.txt.length) m.put = true) (g8 : below m.txt.length m.fin = true) : RightIs 9 m true := by
  intro p w hM
  have B0 := below_alloc w (.cells (mv m p) 26)
  have hM1 := fun n => (hM.later B0).later (below_drewN (Below.refl _ _) n)
  have b0 := box_new w m p
  have k0 := b0.c0
  have k1 := b0.c1
  have k2 := b0.c2
  have k3 := b0.c3
  have t0 := hM.rnx.fit
  have t1 := hM.rnx.top
  have t2 := hM.rpt.fit
  have t3 := hM.rpt.top
  have t4 := hM.ren.fit
  have t5 := hM.ren.top
  have t6 := hM.rtx.fit
  have t7 := hM.rtx.top
  have c26 := fun n => any_any m.txt _ rfl _ _ _ (hM1 n).rtx
  rw [g5] at c26
  have c28 := fun n => rows_any m.next.length m.next _ rfl _ _ _ (hM1 n).rnx
  rw [g6] at c28
  have c28b := fun n => rows_any (2 * m.txt.length) m.put _ rfl _ _ _ (hM1 n).rpt
  rw [g7, show (((2 * m.txt.length : Nat)) : Int) = 2 * (m.txt.length : Int) by omega] at c28b
  have c29 := fun n => below_any m.txt.length m.fin _ rfl _ _ _ (hM1 n).ren
  rw [g8] at c29
  have f0 : decide ((m.next.length : Int) < 1) = false := decide_eq_false (by omega)
  have f1 : decide ((1200 : Int) < (m.next.length : Int)) = false := decide_eq_false (by omega)
  have ⟨f2, f2b⟩ := btrue g2
  have ⟨f3, f3b⟩ := btrue g3
  have f4 : decide ((4096 : Int) < (m.txt.length : Int)) = false := decide_eq_false (by omega)
  have hm : m.txt.length ≤ 4096 := g4
  clear g0 g1 g2 g3 g4 g5 g6 g7 g8 hM hM1 b0
  go_enter Try.func9, Try.ntmps9
  go_wp2
  go_quiet (fail)
  go_wp2_with (first | (go_at_call 24; refine (c26 _).mono ?_; rintro e w1 ⟨rfl, h⟩; obtain rfl := h.symm) | (go_at_call 26; (with_reducible refine (c28 _).mono ?_); rintro e w1 ⟨rfl, h⟩; obtain rfl := h.symm) | (go_at_call 26; (with_reducible refine (c28b _).mono ?_); rintro e w1 ⟨rfl, h⟩; obtain rfl := h.symm) | (go_at_call 27; refine (c29 _).mono ?_; rintro e w1 ⟨rfl, h⟩; obtain rfl := h.symm))
  go_ret
  exact ⟨rfl, below_drewN B0 _⟩
theorem right_any (m : Mc) (a : Bool) (ha : a = right m) : RightIs 9 m a := by
  subst ha
  have e : ∀ b, right m = b → RightIs 9 m b → RightIs 9 m (right m) := fun b h k => by rw [h]; exact k
  by_cases g0 : 1 ≤ m.next.length
  case neg => exact e _ (by simp [right]; omega) (right_0 m g0)
  by_cases g1 : m.next.length ≤ 1200
  case neg => exact e _ (by simp [right]; omega) (right_1 m g0 g1)
  by_cases g2 : m.put.length = m.next.length
  case neg => exact e _ (by simp [right, g2]) (right_2 m g0 g1 g2)
  by_cases g3 : m.fin.length = m.next.length
  case neg => exact e _ (by simp [right, g3]) (right_3 m g0 g1 g2 g3)
  by_cases g4 : m.txt.length ≤ 4096
  case neg => exact e _ (by simp [right, g4]) (right_4 m g0 g1 g2 g3 g4)
  cases g5 : texts m.txt
  case false => exact e _ (by simp [right, g5]) (right_5 m g0 g1 g2 g3 g4 g5)
  cases g6 : rows m.next.length m.next
  case false => exact e _ (by simp [right, g6]) (right_6 m g0 g1 g2 g3 g4 g5 g6)
  cases g7 : rows (2 * m.txt.length) m.put
  case false => exact e _ (by simp [right, g7]) (right_7 m g0 g1 g2 g3 g4 g5 g6 g7)
  cases g8 : below m.txt.length m.fin
  case false => exact e _ (by simp [right, g8]) (right_8 m g0 g1 g2 g3 g4 g5 g6 g7 g8)
  exact e _ (by simp [right, g0, g1, g2, g3, g4, g5, g6, g7, g8]) (right_9 m g0 g1 g2 g3 g4 g5 g6 g7 g8)
end Go.Proofs.Ytlmodfeiphffcaa.tr
