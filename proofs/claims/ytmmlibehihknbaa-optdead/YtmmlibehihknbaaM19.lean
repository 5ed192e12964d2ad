/-
  Texts put together: Contracts over this program: trans.Right. Contracts over this program: trans.over. Contracts over this program: trans.finish, trans.along. Contracts over this program: a text's copy (strings.Clone), trans.fresh, trans.Run.
-/
import Derived.Test.YtmmlibehihknbaaM18
import Derived.Lib.AppendStr
import Derived.Lib.ConvBytes
import Derived.OwnWalk
import Derived.Maps.AppendAt
import Derived.Laws.OwnMore
import Derived.Shelf.Abstract
import Derived.Deep.RegionLaw
import Derived.Deep.RegionWith
import Derived.Shelf.Pu.Clone
namespace Go.Proofs.Ytmmlibehihknbaa.tr
open Go.ChangeShapes Go.WideShapes Go.ChangeAt Go.RowKit
set_option linter.unusedVariables false

def RightIs (f : Nat) (m : Mc) (a : Bool) : Prop := ∀ p w, MAt (In w) w m p → Calls Try.prog f #[.agg (mv m p)] w fun e w' => e = .returned (.bool a) ∧ Below w.heap.size w w'
theorem bfalse {a b : Nat} (h : ¬ a = b) : ((a : Int) == (b : Int)) = false ∧ ((a : Int) != (b : Int)) = true := ⟨beq_eq_false_iff_ne.2 (by omega), bne_iff_ne.2 (by omega)⟩
theorem btrue {a b : Nat} (h : a = b) : ((a : Int) == (b : Int)) = true ∧ ((a : Int) != (b : Int)) = false := by
  have q : ((a : Int) == (b : Int)) = true := beq_iff_eq.2 (by omega)
  exact ⟨q, by rw [bne, q]; rfl⟩
set_option maxHeartbeats 1000000 in
set_option maxRecDepth 100000 in
theorem right_0 (m : Mc)  (g0 : ¬ 1 ≤ m.next.length) : RightIs 61 m false := by
  intro p w hM
  have B0 := below_alloc w (.cells (mv m p) 32)
  have hM1 := fun n => (hM.later B0).later (below_drewN (Below.refl _ _) n)
  have b0 := box_new w m p
  have k0 := b0.c0
  have k1 := b0.c1
  have k2 := b0.c2
  have k3 := b0.c3
  have t0 := hM.rnx.fit
  have t1 := hM.rnx.top
  have t2 := hM.rpt.fit
  have t3 := hM.rpt.top
  have t4 := hM.ren.fit
  have t5 := hM.ren.top
  have t6 := hM.rtx.fit
  have t7 := hM.rtx.top
  have f0 : decide ((m.next.length : Int) < 1) = true := decide_eq_true (by omega)
  clear g0 hM hM1 b0
  go_enter Try.func61, Try.ntmps61
  go_wp2
  go_quiet (fail)
  go_wp2_with (fail)
  go_ret
  exact ⟨rfl, below_drewN B0 _⟩
set_option maxHeartbeats 1000000 in
set_option maxRecDepth 100000 in
theorem right_1 (m : Mc) (g0 : 1 ≤ m.next.length) (g1 : ¬ m.next.length ≤ 1200) : RightIs 61 m false := by
  intro p w hM
  have B0 := below_alloc w (.cells (mv m p) 32)
  have hM1 := fun n => (hM.later B0).later (below_drewN (Below.refl _ _) n)
  have b0 := box_new w m p
  have k0 := b0.c0
  have k1 := b0.c1
  have k2 := b0.c2
  have k3 := b0.c3
  have t0 := hM.rnx.fit
  have t1 := hM.rnx.top
  have t2 := hM.rpt.fit
  have t3 := hM.rpt.top
  have t4 := hM.ren.fit
  have t5 := hM.ren.top
  have t6 := hM.rtx.fit
  have t7 := hM.rtx.top
  have f0 : decide ((m.next.length : Int) < 1) = false := decide_eq_false (by omega)
  have f1 : decide ((1200 : Int) < (m.next.length : Int)) = true := decide_eq_true (by omega)
  clear g0 g1 hM hM1 b0
  go_enter Try.func61, Try.ntmps61
  go_wp2
  go_quiet (fail)
  go_wp2_with (fail)
  go_ret
  exact ⟨rfl, below_drewN B0 _⟩
set_option maxHeartbeats 1000000 in
set_option maxRecDepth 100000 in
theorem right_2 (m : Mc) (g0 : 1 ≤ m.next.length) (g1 : m.next.length ≤ 1200) (g2 : ¬ m.put.length = m.next.length) : RightIs 61 m false := by
  intro p w hM
  have B0 := below_alloc w (.cells (mv m p) 32)
  have hM1 := fun n => (hM.later B0).later (below_drewN (Below.refl _ _) n)
  have b0 := box_new w m p
  have k0 := b0.c0
  have k1 := b0.c1
  have k2 := b0.c2
  have k3 := b0.c3
  have t0 := hM.rnx.fit
  have t1 := hM.rnx.top
  have t2 := hM.rpt.fit
  have t3 := hM.rpt.top
  have t4 := hM.ren.fit
  have t5 := hM.ren.top
  have t6 := hM.rtx.fit
  have t7 := hM.rtx.top
  have f0 : decide ((m.next.length : Int) < 1) = false := decide_eq_false (by omega)
  have f1 : decide ((1200 : Int) < (m.next.length : Int)) = false := decide_eq_false (by omega)
  have ⟨f2, f2b⟩ := bfalse g2
  clear g0 g1 g2 hM hM1 b0
  go_enter Try.func61, Try.ntmps61
  go_wp2
  go_quiet (fail)
  go_wp2_with (fail)
  go_ret
  exact ⟨rfl, below_drewN B0 _⟩
set_option maxHeartbeats 1000000 in
set_option maxRecDepth 100000 in
theorem right_3 (m : Mc) (g0 : 1 ≤ m.next.length) (g1 : m.next.length ≤ 1200) (g2 : m.put.length = m.next.length) (g3 : ¬ m.fin.length = m.next.length) : RightIs 61 m false := by
  intro p w hM
  have B0 := below_alloc w (.cells (mv m p) 32)
  have hM1 := fun n => (hM.later B0).later (below_drewN (Below.refl _ _) n)
  have b0 := box_new w m p
  have k0 := b0.c0
  have k1 := b0.c1
  have k2 := b0.c2
  have k3 := b0.c3
  have t0 := hM.rnx.fit
  have t1 := hM.rnx.top
  have t2 := hM.rpt.fit
  have t3 := hM.rpt.top
  have t4 := hM.ren.fit
  have t5 := hM.ren.top
  have t6 := hM.rtx.fit
  have t7 := hM.rtx.top
  have f0 : decide ((m.next.length : Int) < 1) = false := decide_eq_false (by omega)
  have f1 : decide ((1200 : Int) < (m.next.length : Int)) = false := decide_eq_false (by omega)
  have ⟨f2, f2b⟩ := btrue g2
  have ⟨f3, f3b⟩ := bfalse g3
  clear g0 g1 g2 g3 hM hM1 b0
  go_enter Try.func61, Try.ntmps61
  go_wp2
  go_quiet (fail)
  go_wp2_with (fail)
  go_ret
  exact ⟨rfl, below_drewN B0 _⟩
set_option maxHeartbeats 1000000 in
set_option maxRecDepth 100000 in
theorem right_4 (m : Mc) (g0 : 1 ≤ m.next.length) (g1 : m.next.length ≤ 1200) (g2 : m.put.length = m.next.length) (g3 : m.fin.length = m.next.length) (g4 : ¬ m.txt.length ≤ 4096) : RightIs 61 m false := by
  intro p w hM
  have B0 := below_alloc w (.cells (mv m p) 32)
  have hM1 := fun n => (hM.later B0).later (below_drewN (Below.refl _ _) n)
  have b0 := box_new w m p
  have k0 := b0.c0
  have k1 := b0.c1
  have k2 := b0.c2
  have k3 := b0.c3
  have t0 := hM.rnx.fit
  have t1 := hM.rnx.top
  have t2 := hM.rpt.fit
  have t3 := hM.rpt.top
  have t4 := hM.ren.fit
  have t5 := hM.ren.top
  have t6 := hM.rtx.fit
  have t7 := hM.rtx.top
  have f0 : decide ((m.next.length : Int) < 1) = false := decide_eq_false (by omega)
  have f1 : decide ((1200 : Int) < (m.next.length : Int)) = false := decide_eq_false (by omega)
  have ⟨f2, f2b⟩ := btrue g2
  have ⟨f3, f3b⟩ := btrue g3
  have f4 : decide ((4096 : Int) < (m.txt.length : Int)) = true := decide_eq_true (by omega)
  clear g0 g1 g2 g3 g4 hM hM1 b0
  go_enter Try.func61, Try.ntmps61
  go_wp2
  go_quiet (fail)
  go_wp2_with (fail)
  go_ret
  exact ⟨rfl, below_drewN B0 _⟩
set_option maxHeartbeats 1000000 in
set_option maxRecDepth 100000 in
theorem right_5 (m : Mc) (g0 : 1 ≤ m.next.length) (g1 : m.next.length ≤ 1200) (g2 : m.put.length = m.next.length) (g3 : m.fin.length = m.next.length) (g4 : m.txt.length ≤ 4096) (g5 : texts m.txt = false) : RightIs 61 m false := by
  intro p w hM
  have B0 := below_alloc w (.cells (mv m p) 32)
  have hM1 := fun n => (hM.later B0).later (below_drewN (Below.refl _ _) n)
  have b0 := box_new w m p
  have k0 := b0.c0
  have k1 := b0.c1
  have k2 := b0.c2
  have k3 := b0.c3
  have t0 := hM.rnx.fit
  have t1 := hM.rnx.top
  have t2 := hM.rpt.fit
  have t3 := hM.rpt.top
  have t4 := hM.ren.fit
  have t5 := hM.ren.top
  have t6 := hM.rtx.fit
  have t7 := hM.rtx.top
  have c26 := fun n => any_any m.txt _ rfl _ _ _ (hM1 n).rtx
  rw [g5] at c26
  have f0 : decide ((m.next.length : Int) < 1) = false := decide_eq_false (by omega)
  have f1 : decide ((1200 : Int) < (m.next.length : Int)) = false := decide_eq_false (by omega)
  have ⟨f2, f2b⟩ := btrue g2
  have ⟨f3, f3b⟩ := btrue g3
  have f4 : decide ((4096 : Int) < (m.txt.length : Int)) = false := decide_eq_false (by omega)
  have hm : m.txt.length ≤ 4096 := g4
  clear g0 g1 g2 g3 g4 g5 hM hM1 b0
  go_enter Try.func61, Try.ntmps61
  go_wp2
  go_quiet (fail)
  go_wp2_with (first | (go_at_call 62; refine (c26 _).mono ?_; rintro e w1 ⟨rfl, h⟩; obtain rfl := h.symm))
  go_ret
  exact ⟨rfl, below_drewN B0 _⟩
set_option maxHeartbeats 1000000 in
set_option maxRecDepth 100000 in
theorem right_6 (m : Mc) (g0 : 1 ≤ m.next.length) (g1 : m.next.length ≤ 1200) (g2 : m.put.length = m.next.length) (g3 : m.fin.length = m.next.length) (g4 : m.txt.length ≤ 4096) (g5 : texts m.txt = true) (g6 : rows m.next.length m.next = false) : RightIs 61 m false := by
  intro p w hM
  have B0 := below_alloc w (.cells (mv m p) 32)
  have hM1 := fun n => (hM.later B0).later (below_drewN (Below.refl _ _) n)
  have b0 := box_new w m p
  have k0 := b0.c0
  have k1 := b0.c1
  have k2 := b0.c2
  have k3 := b0.c3
  have t0 := hM.rnx.fit
  have t1 := hM.rnx.top
  have t2 := hM.rpt.fit
  have t3 := hM.rpt.top
  have t4 := hM.ren.fit
  have t5 := hM.ren.top
  have t6 := hM.rtx.fit
  have t7 := hM.rtx.top
  have c26 := fun n => any_any m.txt _ rfl _ _ _ (hM1 n).rtx
  rw [g5] at c26
  have c28 := fun n => rows_any m.next.length m.next _ rfl _ _ _ (hM1 n).rnx
  rw [g6] at c28
  have f0 : decide ((m.next.length : Int) < 1) = false := decide_eq_false (by omega)
  have f1 : decide ((1200 : Int) < (m.next.length : Int)) = false := decide_eq_false (by omega)
  have ⟨f2, f2b⟩ := btrue g2
  have ⟨f3, f3b⟩ := btrue g3
  have f4 : decide ((4096 : Int) < (m.txt.length : Int)) = false := decide_eq_false (by omega)
  have hm : m.txt.length ≤ 4096 := g4
  clear g0 g1 g2 g3 g4 g5 g6 hM hM1 b0
  go_enter Try.func61, Try.ntmps61
  go_wp2
  go_quiet (fail)
  go_wp2_with (first | (go_at_call 62; refine (c26 _).mono ?_; rintro e w1 ⟨rfl, h⟩; obtain rfl := h.symm) | (go_at_call 64; (with_reducible refine (c28 _).mono ?_); rintro e w1 ⟨rfl, h⟩; obtain rfl := h.symm))
  go_ret
  exact ⟨rfl, below_drewN B0 _⟩
set_option maxHeartbeats 1000000 in
set_option maxRecDepth 100000 in
theorem right_7 (m : Mc) (g0 : 1 ≤ m.next.length) (g1 : m.next.length ≤ 1200) (g2 : m.put.length = m.next.length) (g3 : m.fin.length = m.next.length) (g4 : m.txt.length ≤ 4096) (g5 : texts m.txt = true) (g6 : rows m.next.length m.next = true) (g7 : rows (2 * m.txt.length) m.put = false) : RightIs 61 m false := by
  intro p w hM
  have B0 := below_alloc w (.cells (mv m p) 32)
  have hM1 := fun n => (hM.later B0).later (below_drewN (Below.refl _ _) n)
  have b0 := box_new w m p
  have k0 := b0.c0
  have k1 := b0.c1
  have k2 := b0.c2
  have k3 := b0.c3
  have t0 := hM.rnx.fit
  have t1 := hM.rnx.top
  have t2 := hM.rpt.fit
  have t3 := hM.rpt.top
  have t4 := hM.ren.fit
  have t5 := hM.ren.top
  have t6 := hM.rtx.fit
  have t7 := hM.rtx.top
  have c26 := fun n => any_any m.txt _ rfl _ _ _ (hM1 n).rtx
  rw [g5] at c26
  have c28 := fun n => rows_any m.next.length m.next _ rfl _ _ _ (hM1 n).rnx
  rw [g6] at c28
  have c28b := fun n => rows_any (2 * m.txt.length) m.put _ rfl _ _ _ (hM1 n).rpt
  rw [g7, show (((2 * m.txt.length : Nat)) : Int) = 2 * (m.txt.length : Int) by omega] at c28b
  have f0 : decide ((m.next.length : Int) < 1) = false := decide_eq_false (by omega)
  have f1 : decide ((1200 : Int) < (m.next.length : Int)) = false := decide_eq_false (by omega)
  have ⟨f2, f2b⟩ := btrue g2
  have ⟨f3, f3b⟩ := btrue g3
  have f4 : decide ((4096 : Int) < (m.txt.length : Int)) = false := decide_eq_false (by omega)
  have hm : m.txt.length ≤ 4096 := g4
  clear g0 g1 g2 g3 g4 g5 g6 g7 hM hM1 b0
  go_enter Try.func61, Try.ntmps61
  go_wp2
  go_quiet (fail)
  go_wp2_with (first | (go_at_call 62; refine (c26 _).mono ?_; rintro e w1 ⟨rfl, h⟩; obtain rfl := h.symm) | (go_at_call 64; (with_reducible refine (c28 _).mono ?_); rintro e w1 ⟨rfl, h⟩; obtain rfl := h.symm) | (go_at_call 64; (with_reducible refine (c28b _).mono ?_); rintro e w1 ⟨rfl, h⟩; obtain rfl := h.symm))
  go_ret
  exact ⟨rfl, below_drewN B0 _⟩
set_option maxHeartbeats 1000000 in
set_option maxRecDepth 100000 in
theorem right_8 (m : Mc) (g0 : 1 ≤ m.next.length) (g1 : m.next.length ≤ 1200) (g2 : m.put.length = m.next.length) (g3 : m.fin.length = m.next.length) (g4 : m.txt.length ≤ 4096) (g5 : texts m.txt = true) (g6 : rows m.next.length m.next = true) (g7 : rows (2 * m.txt.length) m.put = true) (g8 : below m.txt.length m.fin = false) : RightIs 61 m false := by
  intro p w hM
  have B0 := below_alloc w (.cells (mv m p) 32)
  have hM1 := fun n => (hM.later B0).later (below_drewN (Below.refl _ _) n)
  have b0 := box_new w m p
  have k0 := b0.c0
  have k1 := b0.c1
  have k2 := b0.c2
  have k3 := b0.c3
  have t0 := hM.rnx.fit
  have t1 := hM.rnx.top
  have t2 := hM.rpt.fit
  have t3 := hM.rpt.top
  have t4 := hM.ren.fit
  have t5 := hM.ren.top
  have t6 := hM.rtx.fit
  have t7 := hM.rtx.top
  have c26 := fun n => any_any m.txt _ rfl _ _ _ (hM1 n).rtx
  rw [g5] at c26
  have c28 := fun n => rows_any m.next.length m.next _ rfl _ _ _ (hM1 n).rnx
  rw [g6] at c28
  have c28b := fun n => rows_any (2 * m.txt.length) m.put _ rfl _ _ _ (hM1 n).rpt
  rw [g7, show (((2 * m.txt.length : Nat)) : Int) = 2 * (m.txt.length : Int) by omega] at c28b
  have c29 := fun n => below_any m.txt.length m.fin _ rfl _ _ _ (hM1 n).ren
  rw [g8] at c29
  have f0 : decide ((m.next.length : Int) < 1) = false := decide_eq_false (by omega)
  have f1 : decide ((1200 : Int) < (m.next.length : Int)) = false := decide_eq_false (by omega)
  have ⟨f2, f2b⟩ := btrue g2
  have ⟨f3, f3b⟩ := btrue g3
  have f4 : decide ((4096 : Int) < (m.txt.length : Int)) = false := decide_eq_false (by omega)
  have hm : m.txt.length ≤ 4096 := g4
  clear g0 g1 g2 g3 g4 g5 g6 g7 g8 hM hM1 b0
  go_enter Try.func61, Try.ntmps61
  go_wp2
  go_quiet (fail)
  go_wp2_with (first | (go_at_call 62; refine (c26 _).mono ?_; rintro e w1 ⟨rfl, h⟩; obtain rfl := h.symm) | (go_at_call 64; (with_reducible refine (c28 _).mono ?_); rintro e w1 ⟨rfl, h⟩; obtain rfl := h.symm) | (go_at_call 64; (with_reducible refine (c28b _).mono ?_); rintro e w1 ⟨rfl, h⟩; obtain rfl := h.symm) | (go_at_call 65; refine (c29 _).mono ?_; rintro e w1 ⟨rfl, h⟩; obtain rfl := h.symm))
  go_ret
  exact ⟨rfl, below_drewN B0 _⟩
set_option maxHeartbeats 1000000 in
set_option maxRecDepth 100000 in
theorem right_9 (m : Mc) (g0 : 1 ≤ m.next.length) (g1 : m.next.length ≤ 1200) (g2 : m.put.length = m.next.length) (g3 : m.fin.length = m.next.length) (g4 : m.txt.length ≤ 4096) (g5 : texts m.txt = true) (g6 : rows m.next.length m.next = true) (g7 : rows (2 * m.txt.length) m.put = true) (g8 : below m.txt.length m.fin = true) : RightIs 61 m true := by
  intro p w hM
  have B0 := below_alloc w (.cells (mv m p) 32)
  have hM1 := fun n => (hM.later B0).later (below_drewN (Below.refl _ _) n)
  have b0 := box_new w m p
  have k0 := b0.c0
  have k1 := b0.c1
  have k2 := b0.c2
  have k3 := b0.c3
  have t0 := hM.rnx.fit
  have t1 := hM.rnx.top
  have t2 := hM.rpt.fit
  have t3 := hM.rpt.top
  have t4 := hM.ren.fit
  have t5 := hM.ren.top
  have t6 := hM.rtx.fit
  have t7 := hM.rtx.top
  have c26 := fun n => any_any m.txt _ rfl _ _ _ (hM1 n).rtx
  rw [g5] at c26
  have c28 := fun n => rows_any m.next.length m.next _ rfl _ _ _ (hM1 n).rnx
  rw [g6] at c28
  have c28b := fun n => rows_any (2 * m.txt.length) m.put _ rfl _ _ _ (hM1 n).rpt
  rw [g7, show (((2 * m.txt.length : Nat)) : Int) = 2 * (m.txt.length : Int) by omega] at c28b
  have c29 := fun n => below_any m.txt.length m.fin _ rfl _ _ _ (hM1 n).ren
  rw [g8] at c29
  have f0 : decide ((m.next.length : Int) < 1) = false := decide_eq_false (by omega)
  have f1 : decide ((1200 : Int) < (m.next.length : Int)) = false := decide_eq_false (by omega)
  have ⟨f2, f2b⟩ := btrue g2
  have ⟨f3, f3b⟩ := btrue g3
  have f4 : decide ((4096 : Int) < (m.txt.length : Int)) = false := decide_eq_false (by omega)
  have hm : m.txt.length ≤ 4096 := g4
  clear g0 g1 g2 g3 g4 g5 g6 g7 g8 hM hM1 b0
  go_enter Try.func61, Try.ntmps61
  go_wp2
  go_quiet (fail)
  go_wp2_with (first | (go_at_call 62; refine (c26 _).mono ?_; rintro e w1 ⟨rfl, h⟩; obtain rfl := h.symm) | (go_at_call 64; (with_reducible refine (c28 _).mono ?_); rintro e w1 ⟨rfl, h⟩; obtain rfl := h.symm) | (go_at_call 64; (with_reducible refine (c28b _).mono ?_); rintro e w1 ⟨rfl, h⟩; obtain rfl := h.symm) | (go_at_call 65; refine (c29 _).mono ?_; rintro e w1 ⟨rfl, h⟩; obtain rfl := h.symm))
  go_ret
  exact ⟨rfl, below_drewN B0 _⟩
theorem right_any (m : Mc) (a : Bool) (ha : a = right m) : RightIs 61 m a := by
  subst ha
  have e : ∀ b, right m = b → RightIs 61 m b → RightIs 61 m (right m) := fun b h k => by rw [h]; exact k
  by_cases g0 : 1 ≤ m.next.length
  case neg => exact e _ (by simp [right]; omega) (right_0 m g0)
  by_cases g1 : m.next.length ≤ 1200
  case neg => exact e _ (by simp [right]; omega) (right_1 m g0 g1)
  by_cases g2 : m.put.length = m.next.length
  case neg => exact e _ (by simp [right, g2]) (right_2 m g0 g1 g2)
  by_cases g3 : m.fin.length = m.next.length
  case neg => exact e _ (by simp [right, g3]) (right_3 m g0 g1 g2 g3)
  by_cases g4 : m.txt.length ≤ 4096
  case neg => exact e _ (by simp [right, g4]) (right_4 m g0 g1 g2 g3 g4)
  cases g5 : texts m.txt
  case false => exact e _ (by simp [right, g5]) (right_5 m g0 g1 g2 g3 g4 g5)
  cases g6 : rows m.next.length m.next
  case false => exact e _ (by simp [right, g6]) (right_6 m g0 g1 g2 g3 g4 g5 g6)
  cases g7 : rows (2 * m.txt.length) m.put
  case false => exact e _ (by simp [right, g7]) (right_7 m g0 g1 g2 g3 g4 g5 g6 g7)
  cases g8 : below m.txt.length m.fin
  case false => exact e _ (by simp [right, g8]) (right_8 m g0 g1 g2 g3 g4 g5 g6 g7 g8)
  exact e _ (by simp [right, g0, g1, g2, g3, g4, g5, g6, g7, g8]) (right_9 m g0 g1 g2 g3 g4 g5 g6 g7 g8)
end Go.Proofs.Ytmmlibehihknbaa.tr

namespace Go.Proofs.Ytmmlibehihknbaa.tr
open Go.ChangeShapes Go.WideShapes Go.ChangeAt Go.RowKit Go.Shelf
set_option linter.unusedVariables false

section
variable {B : Nat} {w : World} {m : Mc} {p : Mp}
theorem MAt.put_at (hM : MAt (Lo B) w m p) (hR : Right m) {s b : Nat} (hs : s < m.next.length) (hb : b < 256) : ∃ pb poff rb roff rc, p.po = some ⟨pb, poff, none⟩ ∧ pb < B ∧ w.cell? ⟨pb, poff + s, none⟩ = some (.slice (some ⟨rb, roff, none⟩) 256 rc) ∧ rb < B ∧ w.cell? ⟨rb, roff + b, none⟩ = some (.int .i64 (pt m s b : Int)) ∧ 256 ≤ rc ∧ rc ≤ 9223372036854775807 := by
  have hs' : s < m.put.length := by rw [hR.puts]; exact hs
  obtain ⟨pb, poff, oi, ci, e, h1, h2, h3⟩ := hM.rpt.lie s hs'
  obtain ⟨r, e1, e2, e3⟩ := hR.put_row hs
  rw [List.getElem?_eq_getElem hs'] at e1
  obtain rfl := Option.some.inj e1
  obtain ⟨rb, roff, e4, h4, h5⟩ := h3.lie b (by omega)
  have h6 := e3 b hb
  rw [List.getElem?_eq_getElem (by omega)] at h6
  rw [Option.some.inj h6] at h5
  subst e4
  rw [e2] at h2
  have hf := h3.fit
  rw [e2] at hf
  exact ⟨pb, poff, rb, roff, ci, e, h1, h2, h4, h5, hf, h3.top⟩
theorem MAt.next_at (hM : MAt (Lo B) w m p) (hR : Right m) {s b : Nat} (hs : s < m.next.length) (hb : b < 256) : ∃ pb poff rb roff rc, p.no = some ⟨pb, poff, none⟩ ∧ pb < B ∧ w.cell? ⟨pb, poff + s, none⟩ = some (.slice (some ⟨rb, roff, none⟩) 256 rc) ∧ rb < B ∧ w.cell? ⟨rb, roff + b, none⟩ = some (.int .i64 (nx m s b : Int)) ∧ 256 ≤ rc ∧ rc ≤ 9223372036854775807 := by
  obtain ⟨pb, poff, oi, ci, e, h1, h2, h3⟩ := hM.rnx.lie s hs
  obtain ⟨r, e1, e2, e3⟩ := hR.next_row hs
  rw [List.getElem?_eq_getElem hs] at e1
  obtain rfl := Option.some.inj e1
  obtain ⟨rb, roff, e4, h4, h5⟩ := h3.lie b (by omega)
  have h6 := e3 b hb
  rw [List.getElem?_eq_getElem (by omega)] at h6
  rw [Option.some.inj h6] at h5
  subst e4
  rw [e2] at h2
  have hf := h3.fit
  rw [e2] at hf
  exact ⟨pb, poff, rb, roff, ci, e, h1, h2, h4, h5, hf, h3.top⟩
theorem MAt.fin_at (hM : MAt (Lo B) w m p) (hR : Right m) {s : Nat} (hs : s < m.next.length) : ∃ pb poff, p.eo = some ⟨pb, poff, none⟩ ∧ pb < B ∧ w.cell? ⟨pb, poff + s, none⟩ = some (.int .i64 (en m s : Int)) := by
  have hs' : s < m.fin.length := by rw [hR.fins]; exact hs
  obtain ⟨pb, poff, e, h1, h2⟩ := hM.ren.lie s hs'
  have h6 := hR.fin_at hs
  rw [List.getElem?_eq_getElem hs'] at h6
  rw [Option.some.inj h6] at h2
  exact ⟨pb, poff, e, h1, h2⟩
theorem MAt.tx_at (hM : MAt (Lo B) w m p) {k : Nat} (hk : k < m.txt.length) : ∃ pb poff, p.xo = some ⟨pb, poff, none⟩ ∧ pb < B ∧ w.cell? ⟨pb, poff + k, none⟩ = some (.string (tx m k)) := by
  obtain ⟨pb, poff, e, h1, h2⟩ := hM.rtx.lie k hk
  have h6 := tr.tx_at hk
  rw [List.getElem?_eq_getElem hk] at h6
  rw [Option.some.inj h6] at h2
  exact ⟨pb, poff, e, h1, h2⟩
end
theorem div2 (q : Nat) : (q : Int).tdiv 2 = ((q / 2 : Nat) : Int) := by rw [show (2 : Int) = ((2 : Nat) : Int) from rfl, Int.ofNat_tdiv]
theorem mod2 (q : Nat) : (q : Int).tmod 2 = ((q % 2 : Nat) : Int) := by rw [show (2 : Int) = ((2 : Nat) : Int) from rfl, Int.ofNat_tmod]

/-- a row of bytes that the call owns, in blocks from B on -/
def Buf (B : Nat) (v : Value) (xs : List UInt8) (w : World) : Prop := w.ownsRow B 5 1 v xs.length (Lib.byteCells xs) ∧ B ≤ w.heap.size
theorem strCells_list (s : ByteArray) : Lib.strCells s = Lib.byteCells s.data.toList := rfl
theorem byteCells_one (l : List UInt8) (b : UInt8) : Lib.byteCells (l ++ [b]) = Lib.byteCells l ++ [.int .u8 (b.toNat : Int)] := by simp [Lib.byteCells]
theorem own_form {W : World} {B e sz n : Nat} {v : Value} {xs : List Value} (h : W.ownsRow B e sz v n xs) : ∃ g cap, v = .slice g n cap ∧ n ≤ cap ∧ cap ≤ 9223372036854775807 := by
  rcases h.2 with ⟨rfl, rfl⟩ | ⟨gg, cap, cur, rfl, hb, _, h1, h2, _⟩
  · exact ⟨_, _, rfl, Nat.le_refl _, by omega⟩
  · exact ⟨_, _, rfl, h1, by unfold maxLen at h2; omega⟩
theorem own_keep {W W' : World} {B e sz n : Nat} {v : Value} {xs : List Value} (h : W.ownsRow B e sz v n xs) (hh : ∀ g, v.ownBlock = some g → W'.heap[g]? = W.heap[g]?) : W'.ownsRow B e sz v n xs := by
  refine ⟨h.1, ?_⟩
  rcases h.2 with h0 | ⟨g, cap, cur, rfl, hb, hg, hr⟩
  · exact .inl h0
  · exact .inr ⟨g, cap, cur, rfl, hb, (hh g rfl).trans hg, hr⟩
theorem Buf.later {B : Nat} {v : Value} {xs : List UInt8} {w w' : World} (h : Buf B v xs w) (b : Below w.heap.size w w') : Buf B v xs w' :=
  ⟨own_keep h.1 fun g eg => b.block g (h.1.lt g eg).2, Nat.le_trans h.2 b.size⟩
theorem Buf.form {B : Nat} {v : Value} {xs : List UInt8} {w : World} (h : Buf B v xs w) : ∃ g cap, v = .slice g xs.length cap ∧ xs.length ≤ cap ∧ cap ≤ 9223372036854775807 := own_form h.1
theorem Buf.grown {B : Nat} {v : Value} {xs : List UInt8} {w w' : World} (h : Buf B v xs w) (hg : w.grownBy w' v.ownBlock) : Below B w w' := (Below.refl _ _).grown hg h.2 (fun k hk => (h.1.lt k hk).1)
/-- 'out = append(out, text...)' -/
theorem Buf.text {ops : Array Oper} {rest : List Oper} {o : Oper} {a : Act} {Q : Exit → Act → World → Prop} {w : World} (hgd : o.guard = none) (sl x : Operand)
    (ho : o.op = .call { callee := .builtin .append, args := #[sl, x], argTypes := #[63, 9] })
    (B : Nat) (v : Value) (xs : List UInt8) (hs : a.eval sl = v) (hb : Buf B v xs w) (s : ByteArray) (hx : a.eval x = .string s) (hlen : xs.length + s.size ≤ 140737488355328)
    (h : ∀ v' w', Buf B v' (xs ++ s.data.toList) w' → Below B w w' → wpList Try.prog ops Q rest (a.put o.dst v') w') : wpList Try.prog ops Q (o :: rest) a w := by
  obtain ⟨i0, hi0, hz0, hz1, hz2⟩ := info_parts info5
  refine Lib.wpList_append_own_string w hgd sl x 63 9 ho B 5 i0 Try.underlying63 Try.underlying9 hi0 hz0 hz1 hz2 v xs.length (Lib.byteCells xs) hs hb.1 s hx (by unfold maxLen; omega) hlen hb.2 ?_
  intro v' w' ho' hg _
  refine h v' w' ⟨?_, Nat.le_trans hb.2 hg.size⟩ (hb.grown hg)
  rw [Lib.byteCells_append, ← strCells_list, List.length_append, list_len]
  exact ho'
/-- 'out = append(out, b)' -/
theorem Buf.byte {ops : Array Oper} {rest : List Oper} {o : Oper} {a : Act} {Q : Exit → Act → World → Prop} {w : World} (hgd : o.guard = none) (sl x : Operand)
    (ho : o.op = .call { callee := .builtin .append, args := #[sl, x], argTypes := #[63, 63] })
    (B : Nat) (v : Value) (xs : List UInt8) (hs : a.eval sl = v) (hb : Buf B v xs w) (b : UInt8) (hx : a.eval x = .slice (some ⟨w.heap.size, 0, none⟩) 1 1) (hlen : xs.length + 1 ≤ 140737488355328)
    (h : ∀ v' w', Buf B v' (xs ++ [b]) w' → Below B w w' → wpList Try.prog ops Q rest (a.put o.dst v') w') : wpList Try.prog ops Q (o :: rest) a (w.alloc (.cells #[.int .u8 (b.toNat : Int)] 5)) := by
  obtain ⟨i0, hi0, hz0, hz1, hz2⟩ := info_parts info5
  have hb' := hb.later (below_alloc w (.cells #[.int .u8 (b.toNat : Int)] 5))
  refine wpList_append_own _ hgd sl x 63 ho B 5 i0 (.int .u8 0) 1 1 Try.underlying63 hi0 hz0 hz1 hz2 rfl (by decide) v xs.length (Lib.byteCells xs) hs hb'.1 ⟨w.heap.size, 0, none⟩ 1 1 [.int .u8 (b.toNat : Int)] hx rfl ?_ ?_ (by unfold maxLen; omega) (by omega) hb'.2 ?_
  · intro j u hj
    match j, hj with
    | 0, hj => simp at hj; subst hj; simp [Addr.add]
    | (j + 1), hj => simp at hj
  · intro u hu; simp at hu; subst hu; rfl
  · intro v' w' ho' hg _
    refine h v' w' ⟨?_, Nat.le_trans hb'.2 hg.size⟩ (((below_alloc w _).mono hb.2).trans (hb'.grown hg))
    rw [byteCells_one, List.length_append]
    exact ho'

end Go.Proofs.Ytmmlibehihknbaa.tr

namespace Go.Proofs.Ytmmlibehihknbaa.tr
open Go.ChangeShapes Go.WideShapes Go.ChangeAt Go.RowKit Go.Shelf
set_option linter.unusedVariables false

theorem Buf.run_text {B : Nat} {v : Value} {xs : List UInt8} {w : World} (hb : Buf B v xs w) (s : ByteArray) (hlen : xs.length + s.size ≤ 140737488355328) (ty : TypeId) :
    ∃ v' w', (Builtin.append_ #[63, 9] ty #[v, .string s]).run Try.prog w = .ok v' w' ∧ Buf B v' (xs ++ s.data.toList) w' ∧ Below B w w' := by
  obtain ⟨i0, hi0, hz0, hz1, hz2⟩ := info_parts info5
  obtain ⟨v', w', h1, h2, h3, _⟩ := Lib.run_append_own_string (P := Try.prog) w B 63 9 ty 5 i0 Try.underlying63 Try.underlying9 hi0 hz0 hz1 hz2 v xs.length (Lib.byteCells xs) hb.1 s (by unfold maxLen; omega) hlen hb.2
  refine ⟨v', w', h1, ⟨?_, Nat.le_trans hb.2 h3.size⟩, hb.grown h3⟩
  rw [Lib.byteCells_append, ← strCells_list, List.length_append, list_len]
  exact h2
theorem Buf.wp_text {o : Oper} {a : Act} {w : World} {K : Act → World → Prop} {Q : Exit → Act → World → Prop} (sl x : Operand)
    (ho : o.op = .call { callee := .builtin .append, args := #[sl, x], argTypes := #[63, 9] })
    (B : Nat) (v : Value) (xs : List UInt8) (hs : a.eval sl = v) (hb : Buf B v xs w) (s : ByteArray) (hx : a.eval x = .string s) (hlen : xs.length + s.size ≤ 140737488355328)
    (h : ∀ v' w', Buf B v' (xs ++ s.data.toList) w' → Below B w w' → K (a.put o.dst v') w') : Oper.wp Try.prog o a w K Q := by
  obtain ⟨v', w', hr, h2, h3⟩ := hb.run_text s hlen o.type
  unfold Oper.wp execOp
  simp only [ho, resolve, invoke, builtin, Sem.run_bind, Sem.run_pure, Result.andThen_ok, List.map_toArray, List.map_cons, List.map_nil, hs, hx, hr]
  exact h v' w' h2 h3
theorem Buf.step_text {ops : Array Oper} {o : Oper} {a : Act} {w : World} {K : Act → World → Prop} {Q : Exit → Act → World → Prop} {E : Prop} (hgd : o.guard = none) (sl x : Operand)
    (ho : o.op = .call { callee := .builtin .append, args := #[sl, x], argTypes := #[63, 9] })
    (B : Nat) (v : Value) (xs : List UInt8) (hs : a.eval sl = v) (hb : Buf B v xs w) (s : ByteArray) (hx : a.eval x = .string s) (hlen : xs.length + s.size ≤ 140737488355328)
    (h : ∀ v' w', Buf B v' (xs ++ s.data.toList) w' → Below B w w' → K (a.put o.dst v') w') : if Region.wanted o (yielded ops a.tmps) = true then Oper.wp Try.prog o a w K Q else E := by
  have hw : Region.wanted o (yielded ops a.tmps) = true := by simp [Region.wanted, hgd]
  rw [if_pos hw]
  exact Buf.wp_text sl x ho B v xs hs hb s hx hlen h
theorem undrew {B : Nat} {w w' : World} (h : Below B w.drew w') : Below B w w' := ⟨h.os, h.tape, h.output, h.size, h.block⟩
theorem Buf.drew {B : Nat} {v : Value} {xs : List UInt8} {w : World} (h : Buf B v xs w) : Buf B v xs w.drew := h

/-- where going along has ended -/
def Alo (m : Mc) (st : Nat) (l out : List UInt8) (room : Nat) (out' : List UInt8) (st' : Nat) : Prop :=
  ∃ i, i ≤ l.length ∧ out' = out ++ (go m st (l.take i)).1 ∧ st' = (go m st (l.take i)).2 ∧ (i = l.length ∨ room < out'.length)
end Go.Proofs.Ytmmlibehihknbaa.tr

namespace Go.Proofs.Ytmmlibehihknbaa.tr
open Go.ChangeShapes Go.WideShapes Go.ChangeAt Go.RowKit Go.Shelf
set_option linter.unusedVariables false

/-- the library's contract for a text's copy, laid at this program -/
def ren : Go.Shelf.Ren := ⟨fun | 25 => 78 | n => n, fun | 37 => 63 | 47 => 109 | n => n, fun | n => n⟩
theorem lays31 : Go.Proofs.LaysPu.n25 Try.prog ren := {
  mixed := by kernel_rfl
  f25 := Try.func78.trans (congrArg some (by kernel_rfl))
  t0 := Try.underlying0
  a0 := Try.isAgg0
  z0 := Try.sizeOf0
  v0 := Try.zeroValue0
  i0 := by kernel_rfl
  t3 := Try.underlying3
  a3 := Try.isAgg3
  z3 := Try.sizeOf3
  v3 := Try.zeroValue3
  i3 := by kernel_rfl
  t4 := Try.underlying4
  a4 := Try.isAgg4
  z4 := Try.sizeOf4
  v4 := Try.zeroValue4
  i4 := by kernel_rfl
  t5 := Try.underlying5
  a5 := Try.isAgg5
  z5 := Try.sizeOf5
  v5 := Try.zeroValue5
  i5 := by kernel_rfl
  t9 := Try.underlying9
  a9 := Try.isAgg9
  z9 := Try.sizeOf9
  v9 := Try.zeroValue9
  i9 := by kernel_rfl
  t37 := Try.underlying63
  a37 := Try.isAgg63
  z37 := Try.sizeOf63
  v37 := Try.zeroValue63
  i37 := by kernel_rfl
  t47 := Try.underlying109
  a47 := Try.isAgg109
  z47 := Try.sizeOf109
  v47 := Try.zeroValue109
  i47 := by kernel_rfl }
attribute [local go_sem] Oper.semAt_some
theorem clone_any (s : ByteArray) (hlim : s.size ≤ 140737488351232) (w : World) : Calls Try.prog 73 #[.string s] w fun e w' => e = .returned (.string s) ∧ Below w.heap.size w w' := by
  have h39 := fun w => AnyPu.stringslite_Clone lays31 s w (by omega)
  go_enter Try.func73, Try.ntmps73
  go_wp2_with (go_at_call 78; refine (h39 _).mono ?_; rintro e w1 ⟨rfl, b1⟩)
  go_ret
  exact ⟨rfl, b1⟩
theorem Buf.conv {w : World} {B : Nat} {v : Value} {out : List UInt8} (h : Buf B v out w) : Sem.run Try.prog (convert 63 9 v) w = .ok (.string ⟨out.toArray⟩) w := by
  rcases h.1.2 with ⟨rfl, h0⟩ | ⟨g, cap, cur, rfl, hb, hg, hn, hc, hs, ht⟩
  · have e : out = [] := List.length_eq_zero_iff.1 h0
    subst e
    exact run_convert_bytes_nil w 63 5 Try.underlying63 Try.underlying5 0 0 9 Try.underlying9
  · refine run_convert_bytes_back w 63 9 5 ⟨g, 0, none⟩ cap out Try.underlying63 Try.underlying5 Try.underlying9 fun j hj => ?_
    have hplain : (⟨g, 0, none⟩ : Addr).add j = ⟨g, j, none⟩ := by unfold Addr.add; simp; omega
    rw [hplain, World.ownsRow.cellAt h.1 j (by omega)]
    simp [Lib.byteCells, hj]
abbrev bs (l : List UInt8) : ByteArray := ⟨l.toArray⟩
theorem bs_size (l : List UInt8) : (bs l).size = l.length := by simp [ByteArray.size]
theorem buf_nil (w : World) : Buf w.heap.size (.slice none 0 0) [] w := ⟨World.ownsRow_nil _ _ _ _, Nat.le_refl _⟩
theorem Alo.last {m : Mc} {l : List UInt8} {out : List UInt8} {st : Nat} (h : Alo m 0 l [] 262144 out st) : (out ++ (tx m (en m st)).data.toList = total m 0 l) ∨ (262144 < (out ++ (tx m (en m st)).data.toList).length ∧ 262144 < (total m 0 l).length) := by
  obtain ⟨i, hi, rfl, rfl, h⟩ := h
  rcases h with rfl | h
  · left
    rw [List.take_length, List.nil_append]
    rfl
  · right
    rw [List.nil_append] at h
    have := go_take_le m 0 l i
    unfold total
    simp only [List.nil_append, List.length_append]
    omega
end Go.Proofs.Ytmmlibehihknbaa.tr
