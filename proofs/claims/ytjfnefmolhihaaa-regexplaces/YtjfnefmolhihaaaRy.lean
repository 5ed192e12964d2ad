/-
  Contracts over this program: what is read, or the fault that was recovered (regex.read).
-/
import Derived.Test.YtjfnefmolhihaaaRx
namespace Go.Proofs.Ytjfnefmolhihaaa.st
open Go.Sort Go.ChangeShapes Go.WideShapes Go.ChangeAt Go.RowKit
set_option linter.unusedVariables false

def Flt (w : World) (b er q : Nat) : Prop := w.heap[b]? = some (.cells #[.int .i64 er, .int .i64 q] 39 (0, 0))
theorem results2 {fn : Func} {p r : Tmp} (h : fn.results = #[.cell p 28, .cell r 39]) (tmps : Array Value) (W : World) (g b er q : Nat) (t : Tr) (v : Value) (hp : tmps.getD p undef = .pointer (some ⟨g, 0, none⟩)) (hr : tmps.getD r undef = .pointer (some ⟨b, 0, none⟩)) (hb : Box W g t v) (hf : Flt W b er q) :
    (results fn tmps).run Try.prog W = .ok (.tuple #[.agg #[.int .i64 t.kind, .int .u64 t.set.a, .int .u64 t.set.b, .int .u64 t.set.c, .int .u64 t.set.d, .int .i64 t.min, .int .i64 t.max, v], .agg #[.int .i64 er, .int .i64 q]]) W := by
  have h1 := run_loadVar_row (P := Try.prog) W g 28 28 _ (0, 0) _ hb Try.underlying28 rfl (by kernel_rfl)
  have h2 := run_loadVar_row (P := Try.prog) W b 39 39 _ (0, 0) _ hf Try.underlying39 rfl (by kernel_rfl)
  have hp' : tmps[p]?.getD undef = .pointer (some ⟨g, 0, none⟩) := by simpa using hp
  have hr' : tmps[r]?.getD undef = .pointer (some ⟨b, 0, none⟩) := by simpa using hr
  simp [results, h, hp', hr', asAddr, h1, h2]

def ReadIs (s : ByteArray) (t : Tr) (er q : Nat) : Prop := ∀ w, Calls Try.prog 12 #[.string s] w fun e w' => ∃ v, e = .returned (.tuple #[.agg #[.int .i64 t.kind, .int .u64 t.set.a, .int .u64 t.set.b, .int .u64 t.set.c, .int .u64 t.set.d, .int .i64 t.min, .int .i64 t.max, v], .agg #[.int .i64 er, .int .i64 q]]) ∧ Is w' (fun b => w.heap.size ≤ b) t v ∧ RowKit.Below w.heap.size w w'

theorem Flt.below {w w' : World} {b er q : Nat} (h : Flt w b er q) (l : RowKit.Below w.heap.size w w') : Flt w' b er q := by
  unfold Flt; rw [l.block b (Array.getElem?_eq_some_iff.1 h).1]; exact h
theorem Flt.lt {w : World} {b er q : Nat} (h : Flt w b er q) : b < w.heap.size := (Array.getElem?_eq_some_iff.1 h).1
theorem Flt.cells {w : World} {b er q : Nat} (h : Flt w b er q) : w.cell? ⟨b, 0, none⟩ = some (.int .i64 er) ∧ w.cell? ⟨b, 1, none⟩ = some (.int .i64 q) ∧ w.frozen? ⟨b, 0, none⟩ = false ∧ w.frozen? ⟨b, 1, none⟩ = false := by
  refine ⟨?_, ?_, Lib.frozen_of_heap h 0, Lib.frozen_of_heap h 1⟩ <;> (rw [Lib.cell_of_heap h]; rfl)
theorem Flt.set {w : World} {b e0 q0 : Nat} (h : Flt w b e0 q0) (er q : Nat) : Flt ((w.setCell ⟨b, 0, none⟩ (.int .i64 er)).setCell ⟨b, 1, none⟩ (.int .i64 q)) b er q := set_heap1 _ b _ _ 1 _ (set_heap1 w b _ _ 0 _ h)

set_option maxHeartbeats 1000000 in
set_option maxRecDepth 100000 in
theorem read_bad (s : ByteArray) (er q : Nat) (h22 : WholeBad s er q) : ReadIs s Tr.zero er q := by
  intro w
  have hmf : ∀ (fn : Fn) (first cap : Array Value) (w : World), (Instr.makeFunc fn first cap).run Try.prog w = .ok (.func fn first cap) w := fun _ _ _ _ => rfl
  have z0 := (box_new w Tr.zero (.slice none 0 0)).below (below_alloc _ (.cells #[.int .i64 0, .int .i64 0] 39))
  have y0 : Flt ((w.alloc (.cells #[.int .i64 0, .int .u64 0, .int .u64 0, .int .u64 0, .int .u64 0, .int .i64 0, .int .i64 0, .slice none 0 0] 28)).alloc (.cells #[.int .i64 0, .int .i64 0] 39)) (w.heap.size + 1) 0 0 := heap_alloc2_new w _ _
  go_enter_defers Try.func12, Try.ntmps12
  go_wp2_with (go_at_call 22; refine (h22 _).mono ?_; rintro e w1 ⟨rfl, b1⟩)
  have z1 := z0.below b1
  have y1 := y0.below b1
  have hB1 : RowKit.Below w.heap.size w w1 := (below2 w _ _).trans (b1.mono (below2 w _ _).size)
  obtain ⟨c0, c1, f0, f1⟩ := y1.cells
  refine leaves_cons (f := 21) (args := #[.pointer (some ⟨w.heap.size + 1, 0, none⟩)]) (by simp) (by simp [go_sem]) ?_
  refine (catch_panicking (w.heap.size + 1) er q w1 c0 c1 f0 f1 y1.lt).mono ?_
  rintro e u' w'' ⟨rfl, rfl, o, rfl⟩
  have t2 : w1.grownBy ((w1.setCell ⟨w.heap.size + 1, 0, none⟩ (.int .i64 er)).setCell ⟨w.heap.size + 1, 1, none⟩ (.int .i64 q)) (some (w.heap.size + 1)) := touch_trans (touch_cell _ _ _ _) (touch_cell _ _ _ _)
  have z2 := (Box.keep z1 t2 (by omega)).below (below_alloc _ o)
  have y2 := (y1.set er q).below (below_alloc _ o)
  exact ⟨_, results2 Try.results12 _ _ w.heap.size (w.heap.size + 1) er q Tr.zero (.slice none 0 0) rfl rfl z2 y2, _, rfl, .leaf _ _ _ _ _ _, (below_over hB1 t2 (by omega)).alloc (below_over hB1 t2 (by omega)).size _⟩

set_option maxHeartbeats 1000000 in
set_option maxRecDepth 100000 in
theorem read_ok (s : ByteArray) (t : Tr) (h22 : WholeOk s t) : ReadIs s t 0 0 := by
  intro w
  have hmf : ∀ (fn : Fn) (first cap : Array Value) (w : World), (Instr.makeFunc fn first cap).run Try.prog w = .ok (.func fn first cap) w := fun _ _ _ _ => rfl
  have z0 := (box_new w Tr.zero (.slice none 0 0)).below (below_alloc _ (.cells #[.int .i64 0, .int .i64 0] 39))
  have y0 : Flt ((w.alloc (.cells #[.int .i64 0, .int .u64 0, .int .u64 0, .int .u64 0, .int .u64 0, .int .i64 0, .int .i64 0, .slice none 0 0] 28)).alloc (.cells #[.int .i64 0, .int .i64 0] 39)) (w.heap.size + 1) 0 0 := heap_alloc2_new w _ _
  go_enter_defers Try.func12, Try.ntmps12
  go_wp2_with (go_at_call 22; refine (h22 _).mono ?_; rintro e w1 ⟨v, rfl, i1, b1⟩; obtain ⟨va, vn, vc, rfl⟩ := i1.shape; have z1 := z0.below b1; have y1 := y0.below b1; have t1 := touch_set8 w1 w.heap.size t (.slice va vn vc); have y2 : Flt _ (w.heap.size + 1) 0 0 := (show Flt _ _ _ _ from (by unfold Flt; rw [t1.block _ y1.lt (fun e => by have := Option.some.inj e; omega)]; exact y1)); obtain ⟨⟨d0, d1, d2, d3, d4, d5, d6, d7⟩, f0, f1, f2, f3, f4, f5, f6, f7⟩ := b8 z1; obtain ⟨c0, c1, g0, g1⟩ := y2.cells)
  have hB1 : RowKit.Below w.heap.size w w1 := (below2 w _ _).trans (b1.mono (below2 w _ _).size)
  have hsz : w.heap.size + 1 + 1 ≤ w1.heap.size := by have := b1.size; simpa using this
  refine leaves_cons (f := 21) (args := #[.pointer (some ⟨w.heap.size + 1, 0, none⟩)]) (by simp) (by simp [go_sem]) ?_
  refine (catch_idle (w.heap.size + 1) _).mono ?_
  rintro e u' w'' ⟨rfl, rfl, o, rfl⟩
  have t2 := touch_trans (touch_cell ((((((((w1.setCell ⟨w.heap.size, 0, none⟩ (.int .i64 t.kind)).setCell ⟨w.heap.size, 1, none⟩ (.int .u64 t.set.a)).setCell ⟨w.heap.size, 2, none⟩ (.int .u64 t.set.b)).setCell ⟨w.heap.size, 3, none⟩ (.int .u64 t.set.c)).setCell ⟨w.heap.size, 4, none⟩ (.int .u64 t.set.d)).setCell ⟨w.heap.size, 5, none⟩ (.int .i64 t.min)).setCell ⟨w.heap.size, 6, none⟩ (.int .i64 t.max)).setCell ⟨w.heap.size, 7, none⟩ (.slice va vn vc)) (w.heap.size + 1) 0 (.int .i64 0)) (touch_cell _ (w.heap.size + 1) 1 (.int .i64 0))
  have z3 := (Box.keep (box_set z1 t (.slice va vn vc)) t2 (by omega)).below (below_alloc _ o)
  have y3 := (y2.set 0 0).below (below_alloc _ o)
  have hB2 := below_over hB1 t1 (Nat.le_refl _)
  have hB3 := below_over hB2 t2 (by omega)
  have i2 : Is w1 (fun b => w.heap.size + 1 < b) t (.slice va vn vc) := i1.weaken (fun b hb => by simp at hb; omega)
  have i3 := i2.carry t1.size (P' := fun b => w.heap.size + 1 < b) (fun _ hb _ => hb) (fun b hb hlt => t1.block b hlt (fun e => by have := Option.some.inj e; omega))
  have i4 := i3.carry t2.size (P' := fun b => w.heap.size ≤ b) (fun b hb _ => by omega) (fun b hb hlt => t2.block b hlt (fun e => by have := Option.some.inj e; omega))
  exact ⟨_, results2 Try.results12 _ _ w.heap.size (w.heap.size + 1) 0 0 t (.slice va vn vc) rfl rfl z3 y3, _, rfl, i4.later (below_alloc _ o), hB3.alloc hB3.size _⟩

/-- what the program reads of any text -/
theorem read_any (s : ByteArray) (hs : s.size ≤ 9223372036854775807) : ReadIs s (parse (codes s)).1 (parse (codes s)).2.1 (parse (codes s)).2.2 := by
  unfold parse
  rw [codes_length]
  by_cases hl : 512 < s.size
  · rw [if_pos hl]; exact read_bad s 2 0 (whole_long s hl hs)
  rw [if_neg hl]
  have hs2 : s.size ≤ 512 := by omega
  rw [← suf_zero]
  rcases reads s hs2 0 (Nat.zero_le _) with ⟨t, p, h1, h2, h3, h4, h28⟩ | ⟨e, q, h2, h3, h28⟩
  · rw [h3]
    simp only [suf_length]
    by_cases hp : p < s.size
    · have hne : suf s p ≠ [] := by rw [suf_in s p hp]; simp
      rw [if_pos hne, show s.size - (s.size - p) = p by omega]
      exact read_bad s 60 p (whole_rest s hs2 t p hp h28)
    · obtain rfl : p = s.size := by omega
      rw [if_neg (by rw [suf_out s s.size (Nat.le_refl _)]; simp)]
      by_cases hd : t.depth ≤ 30
      · rw [if_pos hd]; exact read_ok s t (whole_ok s hs2 t hd (by omega) h28)
      · rw [if_neg hd]; exact read_bad s 2 0 (whole_deep s hs2 t hd h28)
  · rw [h3]
    simp only [suf_length]
    rw [show s.size - (s.size - q) = q by omega]
    exact read_bad s e q (whole_wrong s hs2 e q h28)
end Go.Proofs.Ytjfnefmolhihaaa.st
