/-
  An instruction that came in as an argument, and the law IsaRights.
-/
import Derived.Test.YtdekkjnlmlkbdaaDoorIe
import Derived.Deep.RegionHeld3
namespace Go.Proofs.YtdekkjnlmlkbdaaDoor.is
open Go.ChangeShapes Go.WideShapes Go.ChangeAt Go.RowKit
set_option linter.unusedVariables false
set_option maxRecDepth 100000

theorem i64_range {a : Int} (h : (Lit.int .i64 a).wf = true) : -9223372036854775808 ≤ a ∧ a < 9223372036854775808 := by
  have e1 : IntKind.i64.min = -9223372036854775808 := by decide
  simp [Lit.wf] at h
  rw [e1] at h
  omega
def r64 (x : Int) : Prop := -9223372036854775808 ≤ x ∧ x < 9223372036854775808
structure In.sane (i : In) : Prop where
  op : r64 i.op
  a : r64 i.a
  b : r64 i.b
  c : r64 i.c
  d : r64 i.d

theorem parts23 {H : Type} {enc : TypeId × Value → H} {W : World} {sp : Nat → Bool} {held : Bool} {fuel : Nat} {cs : List Value} {x : DataW H × List MemPlace} (h : DataW.trod enc Tryd.prog W 0 sp held fuel 23 cs = some x) :
    ∃ i : In, i.sane ∧ cs = [.int .i64 i.op, .int .i64 i.a, .int .i64 i.b, .int .i64 i.c, .int .i64 i.d] := by
  obtain ⟨xs, n, hfu, hx, hl, hlen, hf⟩ := DataW.trod_struct Tryd.underlying23 h
  have c23 : Tryd.prog.cellsOf 23 = 5 := by kernel_rfl
  rw [c23] at hl
  match cs, hl with
  | [v0, v1, v2, v3, v4], _ =>
    match xs, hlen with
    | [y0, y1, y2, y3, y4], _ =>
      have f0 : DataW.trod enc Tryd.prog W 0 sp held n 3 (List.take (Tryd.prog.cellsOf 3) (List.drop 0 [v0, v1, v2, v3, v4])) = some y0 := hf 0 _ rfl
      have f1 : DataW.trod enc Tryd.prog W 0 sp held n 3 (List.take (Tryd.prog.cellsOf 3) (List.drop 1 [v0, v1, v2, v3, v4])) = some y1 := hf 1 _ rfl
      have f2 : DataW.trod enc Tryd.prog W 0 sp held n 3 (List.take (Tryd.prog.cellsOf 3) (List.drop 2 [v0, v1, v2, v3, v4])) = some y2 := hf 2 _ rfl
      have f3 : DataW.trod enc Tryd.prog W 0 sp held n 3 (List.take (Tryd.prog.cellsOf 3) (List.drop 3 [v0, v1, v2, v3, v4])) = some y3 := hf 3 _ rfl
      have f4 : DataW.trod enc Tryd.prog W 0 sp held n 3 (List.take (Tryd.prog.cellsOf 3) (List.drop 4 [v0, v1, v2, v3, v4])) = some y4 := hf 4 _ rfl
      rw [c3] at f0 f1 f2 f3 f4
      obtain ⟨k0, e0, _, w0⟩ := DataW.trod_int Tryd.underlying3 f0
      obtain ⟨k1, e1, _, w1⟩ := DataW.trod_int Tryd.underlying3 f1
      obtain ⟨k2, e2, _, w2⟩ := DataW.trod_int Tryd.underlying3 f2
      obtain ⟨k3, e3, _, w3⟩ := DataW.trod_int Tryd.underlying3 f3
      obtain ⟨k4, e4, _, w4⟩ := DataW.trod_int Tryd.underlying3 f4
      simp at e0 e1 e2 e3 e4
      exact ⟨⟨k0, k1, k2, k3, k4⟩, ⟨i64_range w0, i64_range w1, i64_range w2, i64_range w3, i64_range w4⟩, by rw [e0, e1, e2, e3, e4]⟩

theorem open23 {H : Type} {enc : TypeId × Value → H} {W : World} {base : Nat} {v : Value} {d : DataW H} {p : List MemPlace} (hok : Value.okWide Tryd.prog W .any base 23 v) (h : DataW.Trod enc Tryd.prog W 0 (fun _ => true) true 23 v d p) :
    ∃ i : In, i.sane ∧ v = vI i := by
  unfold Value.okWide at hok
  rw [Tryd.underlying23] at hok
  obtain ⟨cs, rfl, _⟩ := hok
  obtain ⟨fuel, hf⟩ := h
  obtain ⟨i, hs, e⟩ := parts23 hf
  refine ⟨i, hs, ?_⟩
  simp [Value.cells] at e
  unfold vI
  rw [show cs = #[.int .i64 i.op, .int .i64 i.a, .int .i64 i.b, .int .i64 i.c, .int .i64 i.d] from Array.toList_inj.1 e]

theorem all5 {g : Nat} {i : In} {W : World} (b : IBlk W g i) (t : Tabs W) :
    W.cell? ⟨g, 0, none⟩ = some (.int .i64 i.op) ∧ W.cell? ⟨g, 1, none⟩ = some (.int .i64 i.a) ∧ W.cell? ⟨g, 2, none⟩ = some (.int .i64 i.b) ∧ W.cell? ⟨g, 3, none⟩ = some (.int .i64 i.c) ∧ W.cell? ⟨g, 4, none⟩ = some (.int .i64 i.d) ∧ IBlk W g i ∧ Tabs W := ⟨b.c0, b.c1, b.c2, b.c3, b.c4, b, t⟩
theorem next5 {g : Nat} {i : In} {W W' : World} (h : W.cell? ⟨g, 0, none⟩ = some (.int .i64 i.op) ∧ W.cell? ⟨g, 1, none⟩ = some (.int .i64 i.a) ∧ W.cell? ⟨g, 2, none⟩ = some (.int .i64 i.b) ∧ W.cell? ⟨g, 3, none⟩ = some (.int .i64 i.c) ∧ W.cell? ⟨g, 4, none⟩ = some (.int .i64 i.d) ∧ IBlk W g i ∧ Tabs W) (l : Below W.heap.size W W') :
    W'.cell? ⟨g, 0, none⟩ = some (.int .i64 i.op) ∧ W'.cell? ⟨g, 1, none⟩ = some (.int .i64 i.a) ∧ W'.cell? ⟨g, 2, none⟩ = some (.int .i64 i.b) ∧ W'.cell? ⟨g, 3, none⟩ = some (.int .i64 i.c) ∧ W'.cell? ⟨g, 4, none⟩ = some (.int .i64 i.d) ∧ IBlk W' g i ∧ Tabs W' :=
  all5 (h.2.2.2.2.2.1.later l) (h.2.2.2.2.2.2.later l)

set_option maxHeartbeats 4000000 in
theorem rights_law (i : In) (hs : i.sane) (w : World) (hT : Tabs w) : Calls Tryd.prog 3 #[vI i] w fun e w' => e = .returned (.bool true) ∧ Below w.heap.size w w' := by
  have h9 := right_any i
  have h10 := rright_any i
  unfold RightIs vI at h9
  unfold RRightIs vI at h10
  generalize okI i = r at *
  obtain ⟨w0, hw0⟩ : ∃ w0, w0 = w.alloc (.cells #[.int .i64 i.op, .int .i64 i.a, .int .i64 i.b, .int .i64 i.c, .int .i64 i.d] 23) := ⟨_, rfl⟩
  have hB : Below w.heap.size w w0 := by rw [hw0]; exact (Below.refl _ _).alloc (Nat.le_refl _) _
  have hS := all5 (W := w0) (g := w.heap.size) (i := i) (by rw [hw0]; exact heap_alloc_new w _) (hT.later hB)
  unfold vI
  go_enter Tryd.func3, Tryd.ntmps3
  go_wp2_with (fail)
  rw [← hw0]
  clear hw0 hT
  go_region_held3 (fun W => W.cell? ⟨w.heap.size, 0, none⟩ = some (.int .i64 i.op) ∧ W.cell? ⟨w.heap.size, 1, none⟩ = some (.int .i64 i.a) ∧ W.cell? ⟨w.heap.size, 2, none⟩ = some (.int .i64 i.b) ∧ W.cell? ⟨w.heap.size, 3, none⟩ = some (.int .i64 i.c) ∧ W.cell? ⟨w.heap.size, 4, none⟩ = some (.int .i64 i.d) ∧ IBlk W w.heap.size i ∧ Tabs W) (first | assumption | exact hS | exact next5 hS (Below.drew (Below.refl _ _)) | exact next5 (by assumption) (by assumption)) (first | (go_at_call 9; refine (h9 _ (And.right (And.right (And.right (And.right (And.right (And.right (by assumption)))))))).mono ?_; rintro e w1 ⟨rfl, b1⟩) | (go_at_call 10; refine (h10 _).mono ?_; rintro e w2 ⟨rfl, b2⟩))
  go_wp2_with (fail)
  go_ret
  exact ⟨by simp, chain (chain hB.drew b1) b2⟩
end Go.Proofs.YtdekkjnlmlkbdaaDoor.is
