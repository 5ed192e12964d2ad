/-
  Contracts over this program: an instruction's four fields (isa.fields), and whether it may be (isa.Right).
-/
import Derived.Test.YtdekkjnlmlkbdaaDoorIb
import Derived.Laws.Rows
import Derived.Lib.Builder
namespace Go.Proofs.YtdekkjnlmlkbdaaDoor.is
open Go.ChangeShapes Go.WideShapes Go.ChangeAt Go.RowKit
set_option linter.unusedVariables false

def vI (i : In) : Value := .agg #[.int .i64 i.op, .int .i64 i.a, .int .i64 i.b, .int .i64 i.c, .int .i64 i.d]

/-- an instruction's block -/
def IBlk (w : World) (g : Nat) (i : In) : Prop := w.heap[g]? = some (.cells #[.int .i64 i.op, .int .i64 i.a, .int .i64 i.b, .int .i64 i.c, .int .i64 i.d] 23 (0, 0))
theorem IBlk.lt {w : World} {g : Nat} {q : In} (h : IBlk w g q) : g < w.heap.size := (Array.getElem?_eq_some_iff.1 h).1
theorem IBlk.c0 {w : World} {g : Nat} {q : In} (h : IBlk w g q) : w.cell? ⟨g, 0, none⟩ = some (.int .i64 q.op) := by rw [Lib.cell_of_heap h]; rfl
theorem IBlk.c1 {w : World} {g : Nat} {q : In} (h : IBlk w g q) : w.cell? ⟨g, 1, none⟩ = some (.int .i64 q.a) := by rw [Lib.cell_of_heap h]; rfl
theorem IBlk.c2 {w : World} {g : Nat} {q : In} (h : IBlk w g q) : w.cell? ⟨g, 2, none⟩ = some (.int .i64 q.b) := by rw [Lib.cell_of_heap h]; rfl
theorem IBlk.c3 {w : World} {g : Nat} {q : In} (h : IBlk w g q) : w.cell? ⟨g, 3, none⟩ = some (.int .i64 q.c) := by rw [Lib.cell_of_heap h]; rfl
theorem IBlk.c4 {w : World} {g : Nat} {q : In} (h : IBlk w g q) : w.cell? ⟨g, 4, none⟩ = some (.int .i64 q.d) := by rw [Lib.cell_of_heap h]; rfl
theorem IBlk.fz {w : World} {g : Nat} {q : In} (h : IBlk w g q) (k : Nat) : w.frozen? ⟨g, k, none⟩ = false := Lib.frozen_of_heap h k
theorem IBlk.later {w w' : World} {g : Nat} {q : In} (h : IBlk w g q) (b : Below w.heap.size w w') : IBlk w' g q := by unfold IBlk; rw [b.block g h.lt]; exact h

theorem chain {w w1 w2 : World} (h1 : Below w.heap.size w w1) (h2 : Below w1.heap.size w1 w2) : Below w.heap.size w w2 := h1.trans (h2.mono h1.size)
theorem set_heap (w : World) (g : Nat) (cs : Array Value) (T : TypeId) (i : Nat) (x : Value) (h : w.heap[g]? = some (.cells cs T (0, 0))) : (w.setCell ⟨g, i, none⟩ x).heap[g]? = some (.cells (cs.setIfInBounds i x) T (0, 0)) := by
  show (w.heap.modify g _)[g]? = _
  rw [Array.getElem?_modify, if_pos rfl, h]
  rfl
theorem ret37 {fn : Func} {p : Tmp} (h : fn.results = #[.cell p 37]) {a : Act} {W : World} {R : Ending → World → Prop} (g : Nat) (v0 v1 v2 v3 : Value) (hp : a.tmps.getD p undef = .pointer (some ⟨g, 0, none⟩)) (hb : W.heap[g]? = some (.cells #[v0, v1, v2, v3] 37 (0, 0))) (hd : a.defers = [])
    (hR : R (.returned (.agg #[v0, v1, v2, v3])) W) : bodyPost Tryd.prog fn R .ret a W :=
  bodyPost_ret (results_cell_row h _ _ g 37 _ (0, 0) _ hp hb Tryd.underlying37 rfl (by kernel_rfl)) hd hR
theorem set4 {w : World} {g : Nat} {a b c d : Value} (h : w.heap[g]? = some (.cells #[a, b, c, d] 37 (0, 0))) (v0 v1 v2 v3 : Value) : ((((w.setCell ⟨g, 0, none⟩ v0).setCell ⟨g, 1, none⟩ v1).setCell ⟨g, 2, none⟩ v2).setCell ⟨g, 3, none⟩ v3).heap[g]? = some (.cells #[v0, v1, v2, v3] 37 (0, 0)) :=
  set_heap _ g _ _ 3 _ (set_heap _ g _ _ 2 _ (set_heap _ g _ _ 1 _ (set_heap w g _ _ 0 _ h)))
theorem Below.set4 {n : Nat} {w w' : World} (h : Below n w w') {g : Nat} (hg : n ≤ g) (v0 v1 v2 v3 : Value) : Below n w ((((w'.setCell ⟨g, 0, none⟩ v0).setCell ⟨g, 1, none⟩ v1).setCell ⟨g, 2, none⟩ v2).setCell ⟨g, 3, none⟩ v3) :=
  (((h.setCell (p := ⟨g, 0, none⟩) hg _).setCell (p := ⟨g, 1, none⟩) hg _).setCell (p := ⟨g, 2, none⟩) hg _).setCell (p := ⟨g, 3, none⟩) hg _

def FieldsIs (i : In) : Prop := ∀ w, Calls Tryd.prog 21 #[vI i] w fun e w' => e = .returned (.agg #[.int .i64 i.a, .int .i64 i.b, .int .i64 i.c, .int .i64 i.d]) ∧ Below w.heap.size w w'
set_option maxRecDepth 100000 in
theorem fields_any (i : In) : FieldsIs i := by
  intro w
  obtain ⟨op, a, b, c, d⟩ := i
  unfold vI
  go_enter Tryd.func21, Tryd.ntmps21
  go_wp2
  exact ret37 Tryd.results21 (w.heap.size + 1) (.int .i64 a) (.int .i64 b) (.int .i64 c) (.int .i64 d) rfl (heap_alloc2_new w _ _) rfl ⟨rfl, ((Below.refl _ _).alloc (Nat.le_refl _) _).alloc (by simp) _⟩

def RightIs (i : In) (r : Bool) : Prop := ∀ w, Tabs w → Calls Tryd.prog 9 #[vI i] w fun e w' => e = .returned (.bool r) ∧ Below w.heap.size w w'
theorem int_nat {x : Int} (h : 0 ≤ x) : x = (x.toNat : Int) := by omega

/-- four fields in a row of four cells -/
def RowBlk (w : World) (g : Nat) (i : In) : Prop := w.heap[g]? = some (.cells #[.int .i64 i.a, .int .i64 i.b, .int .i64 i.c, .int .i64 i.d] 37 (0, 0))
theorem RowBlk.at {w : World} {g : Nat} {i : In} (h : RowBlk w g i) (f : Nat) (hf : f < 4) : w.cell? ⟨g, f, none⟩ = some (.int .i64 (fld i f)) := by
  rw [Lib.cell_of_heap h]
  rcases (by omega : f = 0 ∨ f = 1 ∨ f = 2 ∨ f = 3) with rfl | rfl | rfl | rfl <;> rfl

theorem below_drewN {B : Nat} {a w : World} (h : Below B a w) (n : Nat) : Below B a (w.drewN n) := ⟨h.os, h.tape, h.output, h.size, h.block⟩
theorem index_0 (a b c d : Value) (W : World) : (Instr.index 37 (.agg #[a, b, c, d]) (.int .i64 0)).run Tryd.prog W = .ok a W := by
  simp [Instr.index, asIntOf, run_underlying Tryd.underlying37, part, Tryd.isAgg3, Tryd.sizeOf3]
theorem index_1 (a b c d : Value) (W : World) : (Instr.index 37 (.agg #[a, b, c, d]) (.int .i64 1)).run Tryd.prog W = .ok b W := by
  simp [Instr.index, asIntOf, run_underlying Tryd.underlying37, part, Tryd.isAgg3, Tryd.sizeOf3]
theorem index_2 (a b c d : Value) (W : World) : (Instr.index 37 (.agg #[a, b, c, d]) (.int .i64 2)).run Tryd.prog W = .ok c W := by
  simp [Instr.index, asIntOf, run_underlying Tryd.underlying37, part, Tryd.isAgg3, Tryd.sizeOf3]
theorem index_3 (a b c d : Value) (W : World) : (Instr.index 37 (.agg #[a, b, c, d]) (.int .i64 3)).run Tryd.prog W = .ok d W := by
  simp [Instr.index, asIntOf, run_underlying Tryd.underlying37, part, Tryd.isAgg3, Tryd.sizeOf3]

set_option maxHeartbeats 1000000 in
set_option maxRecDepth 100000 in
theorem right_any (i : In) : RightIs i (okI i) := by
  intro w hT
  have hF := fields_any i
  by_cases ho : okOp i = true
  · obtain ⟨op, a, b, c, d⟩ := i
    simp only [okOp, Bool.and_eq_true, decide_eq_true_eq] at ho
    obtain ⟨o, rfl⟩ : ∃ o : Nat, op = o := ⟨op.toNat, by omega⟩
    have h1 : 1 ≤ o := by omega
    have h2 : o ≤ 17 := by omega
    unfold vI at *
    go_enter Tryd.func9, Tryd.ntmps9
    have hb0 : IBlk (w.alloc (.cells #[.int .i64 o, .int .i64 a, .int .i64 b, .int .i64 c, .int .i64 d] 23)) w.heap.size ⟨o, a, b, c, d⟩ := heap_alloc_new w _
    have hB0 : Below w.heap.size w (w.alloc (.cells #[.int .i64 o, .int .i64 a, .int .i64 b, .int .i64 c, .int .i64 d] 23)) := (Below.refl _ _).alloc (Nat.le_refl _) _
    have hT0 := hT.later hB0
    go_wp2_with (go_at_call 21; refine (hF _).mono ?_; rintro e w1 ⟨rfl, hb⟩; have hr2 : RowBlk (w1.alloc (.cells #[.int .i64 a, .int .i64 b, .int .i64 c, .int .i64 d] 37)) w1.heap.size ⟨o, a, b, c, d⟩ := heap_alloc_new w1 _; have hbN : Below w1.heap.size w1 (w1.alloc (.cells #[.int .i64 a, .int .i64 b, .int .i64 c, .int .i64 d] 37)) := (Below.refl _ _).alloc (Nat.le_refl _) _; have hb2 := (hb0.later hb).later hbN; have hT2 := (hT0.later hb).later hbN; have c0 := hb2.c0; have hk0 := hT2.kd o (by omega) 0 (by omega); have hk1 := hT2.kd o (by omega) 1 (by omega); have hk2 := hT2.kd o (by omega) 2 (by omega); have hk3 := hT2.kd o (by omega) 3 (by omega))
    have HB : Below w.heap.size w (w1.alloc (.cells #[.int .i64 a, .int .i64 b, .int .i64 c, .int .i64 d] 37)) := chain (chain hB0 hb) hbN
    have hl0 := kd_lt o 0
    have hm0 := hT2.most (kd o 0) hl0
    have ha0 : (w1.alloc (.cells #[.int .i64 a, .int .i64 b, .int .i64 c, .int .i64 d] 37)).cell? ⟨w1.heap.size, 0, none⟩ = some (.int .i64 a) := hr2.at 0 (by omega)
    have HO0 : Hid (okF ⟨o, a, b, c, d⟩ 0 = (decide (0 ≤ a) && decide (a ≤ (most (kd o 0) : Nat)))) := rfl
    have hl1 := kd_lt o 1
    have hm1 := hT2.most (kd o 1) hl1
    have ha1 : (w1.alloc (.cells #[.int .i64 a, .int .i64 b, .int .i64 c, .int .i64 d] 37)).cell? ⟨w1.heap.size, 1, none⟩ = some (.int .i64 b) := hr2.at 1 (by omega)
    have HO1 : Hid (okF ⟨o, a, b, c, d⟩ 1 = (decide (0 ≤ b) && decide (b ≤ (most (kd o 1) : Nat)))) := rfl
    have hl2 := kd_lt o 2
    have hm2 := hT2.most (kd o 2) hl2
    have ha2 : (w1.alloc (.cells #[.int .i64 a, .int .i64 b, .int .i64 c, .int .i64 d] 37)).cell? ⟨w1.heap.size, 2, none⟩ = some (.int .i64 c) := hr2.at 2 (by omega)
    have HO2 : Hid (okF ⟨o, a, b, c, d⟩ 2 = (decide (0 ≤ c) && decide (c ≤ (most (kd o 2) : Nat)))) := rfl
    have hl3 := kd_lt o 3
    have hm3 := hT2.most (kd o 3) hl3
    have ha3 : (w1.alloc (.cells #[.int .i64 a, .int .i64 b, .int .i64 c, .int .i64 d] 37)).cell? ⟨w1.heap.size, 3, none⟩ = some (.int .i64 d) := hr2.at 3 (by omega)
    have HO3 : Hid (okF ⟨o, a, b, c, d⟩ 3 = (decide (0 ≤ d) && decide (d ≤ (most (kd o 3) : Nat)))) := rfl
    have HO : Hid (okOp ⟨o, a, b, c, d⟩ = true) := by show _ = _; simp [okOp]; omega
    have i0 := index_0
    have i1 := index_1
    have i2 := index_2
    have i3 := index_3
    generalize kd o 0 = k0 at *
    generalize most k0 = m0 at *
    generalize kd o 1 = k1 at *
    generalize most k1 = m1 at *
    generalize kd o 2 = k2 at *
    generalize most k2 = m2 at *
    generalize kd o 3 = k3 at *
    generalize most k3 = m3 at *
    clear hT0 hT2 hT ho hF hb hbN hb2 hb0 hB0
    refine wp_loop_rounds 5 ?_
    rw [rounds_succ]
    by_cases n0 : a < 0
    · have HE : Hid (okI ⟨o, a, b, c, d⟩ = false) := okI_not (f := 0) (by omega) (by rw [HO0.out]; simp; omega)
      have g : decide (a < 0) = true := by simp; omega
      clear HO0 HO1 HO2 HO3 HO
      go_wp2
      go_quiet (fail)
      go_wp2
      go_ret
      exact ⟨by rw [HE.out]; rfl, (by first | exact below_drewN HB _ | exact below_drewN (below_drewN HB _) _ | exact below_drewN (below_drewN (below_drewN HB _) _) _)⟩
    have g0 : decide (a < 0) = false := by simp; omega
    by_cases p0 : (m0 : Int) < a
    · have HE : Hid (okI ⟨o, a, b, c, d⟩ = false) := okI_not (f := 0) (by omega) (by rw [HO0.out]; simp; omega)
      have g : decide ((m0 : Int) < a) = true := by simp; omega
      clear HO0 HO1 HO2 HO3 HO
      go_wp2
      go_quiet (fail)
      go_wp2
      go_ret
      exact ⟨by rw [HE.out]; rfl, (by first | exact below_drewN HB _ | exact below_drewN (below_drewN HB _) _ | exact below_drewN (below_drewN (below_drewN HB _) _) _)⟩
    have q0 : decide ((m0 : Int) < a) = false := by simp; omega
    go_wp2
    go_quiet (fail)
    go_wp2
    rw [rounds_succ]
    by_cases n1 : b < 0
    · have HE : Hid (okI ⟨o, a, b, c, d⟩ = false) := okI_not (f := 1) (by omega) (by rw [HO1.out]; simp; omega)
      have g : decide (b < 0) = true := by simp; omega
      clear HO0 HO1 HO2 HO3 HO
      go_wp2
      go_quiet (fail)
      go_wp2
      go_ret
      exact ⟨by rw [HE.out]; rfl, (by first | exact below_drewN HB _ | exact below_drewN (below_drewN HB _) _ | exact below_drewN (below_drewN (below_drewN HB _) _) _)⟩
    have g1 : decide (b < 0) = false := by simp; omega
    by_cases p1 : (m1 : Int) < b
    · have HE : Hid (okI ⟨o, a, b, c, d⟩ = false) := okI_not (f := 1) (by omega) (by rw [HO1.out]; simp; omega)
      have g : decide ((m1 : Int) < b) = true := by simp; omega
      clear HO0 HO1 HO2 HO3 HO
      go_wp2
      go_quiet (fail)
      go_wp2
      go_ret
      exact ⟨by rw [HE.out]; rfl, (by first | exact below_drewN HB _ | exact below_drewN (below_drewN HB _) _ | exact below_drewN (below_drewN (below_drewN HB _) _) _)⟩
    have q1 : decide ((m1 : Int) < b) = false := by simp; omega
    go_wp2
    go_quiet (fail)
    go_wp2
    rw [rounds_succ]
    by_cases n2 : c < 0
    · have HE : Hid (okI ⟨o, a, b, c, d⟩ = false) := okI_not (f := 2) (by omega) (by rw [HO2.out]; simp; omega)
      have g : decide (c < 0) = true := by simp; omega
      clear HO0 HO1 HO2 HO3 HO
      go_wp2
      go_quiet (fail)
      go_wp2
      go_ret
      exact ⟨by rw [HE.out]; rfl, (by first | exact below_drewN HB _ | exact below_drewN (below_drewN HB _) _ | exact below_drewN (below_drewN (below_drewN HB _) _) _)⟩
    have g2 : decide (c < 0) = false := by simp; omega
    by_cases p2 : (m2 : Int) < c
    · have HE : Hid (okI ⟨o, a, b, c, d⟩ = false) := okI_not (f := 2) (by omega) (by rw [HO2.out]; simp; omega)
      have g : decide ((m2 : Int) < c) = true := by simp; omega
      clear HO0 HO1 HO2 HO3 HO
      go_wp2
      go_quiet (fail)
      go_wp2
      go_ret
      exact ⟨by rw [HE.out]; rfl, (by first | exact below_drewN HB _ | exact below_drewN (below_drewN HB _) _ | exact below_drewN (below_drewN (below_drewN HB _) _) _)⟩
    have q2 : decide ((m2 : Int) < c) = false := by simp; omega
    go_wp2
    go_quiet (fail)
    go_wp2
    rw [rounds_succ]
    by_cases n3 : d < 0
    · have HE : Hid (okI ⟨o, a, b, c, d⟩ = false) := okI_not (f := 3) (by omega) (by rw [HO3.out]; simp; omega)
      have g : decide (d < 0) = true := by simp; omega
      clear HO0 HO1 HO2 HO3 HO
      go_wp2
      go_quiet (fail)
      go_wp2
      go_ret
      exact ⟨by rw [HE.out]; rfl, (by first | exact below_drewN HB _ | exact below_drewN (below_drewN HB _) _ | exact below_drewN (below_drewN (below_drewN HB _) _) _)⟩
    have g3 : decide (d < 0) = false := by simp; omega
    by_cases p3 : (m3 : Int) < d
    · have HE : Hid (okI ⟨o, a, b, c, d⟩ = false) := okI_not (f := 3) (by omega) (by rw [HO3.out]; simp; omega)
      have g : decide ((m3 : Int) < d) = true := by simp; omega
      clear HO0 HO1 HO2 HO3 HO
      go_wp2
      go_quiet (fail)
      go_wp2
      go_ret
      exact ⟨by rw [HE.out]; rfl, (by first | exact below_drewN HB _ | exact below_drewN (below_drewN HB _) _ | exact below_drewN (below_drewN (below_drewN HB _) _) _)⟩
    have q3 : decide ((m3 : Int) < d) = false := by simp; omega
    go_wp2
    go_quiet (fail)
    go_wp2
    rw [rounds_succ]
    go_wp2
    go_ret
    exact ⟨by rw [okI_of HO.out (fun f hf => by rcases (by omega : f = 0 ∨ f = 1 ∨ f = 2 ∨ f = 3) with rfl | rfl | rfl | rfl; rw [HO0.out]; simp; omega; rw [HO1.out]; simp; omega; rw [HO2.out]; simp; omega; rw [HO3.out]; simp; omega)]; rfl, (by first | exact below_drewN HB _ | exact below_drewN (below_drewN HB _) _ | exact below_drewN (below_drewN (below_drewN HB _) _) _)⟩
  · have HE : Hid (okI i = false) := okI_no (by simpa using ho)
    obtain ⟨op, a, b, c, d⟩ := i
    have ho2 : op < 1 ∨ 17 < op := by simp [okOp] at ho; omega
    unfold vI at *
    clear ho
    by_cases h1 : op < 1
    · clear ho2
      go_enter Tryd.func9, Tryd.ntmps9
      go_wp2
      go_ret
      exact ⟨by rw [HE.out]; rfl, (Below.refl _ _).alloc (Nat.le_refl _) _⟩
    · have h2 : 17 < op := by omega
      clear ho2
      go_enter Tryd.func9, Tryd.ntmps9
      go_wp2
      go_ret
      exact ⟨by rw [HE.out]; rfl, (Below.refl _ _).alloc (Nat.le_refl _) _⟩
end Go.Proofs.YtdekkjnlmlkbdaaDoor.is
