/-
  Over this program: a builder is laid.
-/
import Derived.Test.YthknhbmibmndoaaKBq
import Derived.Laws.Tables
namespace Go.Proofs.Ythknhbmibmndoaa.bd
open Go.Sort Go.ChangeShapes Go.WideShapes Go.ChangeAt Go.RowKit Go.Maps
open df (Kp Row iv In IntsV Owns)
open nf (Nfa Ed Rt EdAt Eds nfaV)
open st (Q4 none4 Fits has nth jn sig Blk)
set_option linter.unusedVariables false
set_option maxRecDepth 10000

theorem nils_made (n : Nat) : madeCells #[.slice none 0 0] n = ((List.range n).map fun _ => Value.slice none 0 0).toArray := by
  apply Array.toList_inj.1
  rw [toList_madeCells_one]
  refine List.ext_getElem (by simp) fun i h1 h2 => ?_
  simp
theorem make73 (n : Nat) (hn : n ≤ 1000000) (W : World) : (Instr.makeSlice 73 (.int .i64 (n : Int)) (.int .i64 (n : Int))).run Try.prog W = .ok (.slice (some ⟨W.heap.size, 0, none⟩) n n) (W.alloc (.cells ((List.range n).map fun _ => Value.slice none 0 0).toArray 22)) := by
  rw [← nils_made]
  exact run_make_row' (P := Try.prog) 73 22 (.slice none 0 0) 24 Try.underlying73 info22 rfl .i64 .i64 n (by omega) (by omega) W
theorem make34 (n : Nat) (hn : n ≤ 1000000) (W : World) : (Instr.makeSlice 34 (.int .i64 (n : Int)) (.int .i64 (n : Int))).run Try.prog W = .ok (.slice (some ⟨W.heap.size, 0, none⟩) n n) (W.alloc (.cells ((List.range n).map fun _ => Value.slice none 0 0).toArray 25)) := by
  rw [← nils_made]
  exact run_make_row' (P := Try.prog) 34 25 (.slice none 0 0) 24 Try.underlying34 info25 rfl .i64 .i64 n (by omega) (by omega) W
/-- a builder as it is first laid -/
def hd0 (n s e : Int) (eo : Option Addr) (em ec k ob fb : Nat) : Hd := ⟨n, s, e, eo, em, ec, .slice (some ⟨ob, 0, none⟩) k k, .slice (some ⟨fb, 0, none⟩) k k, .slice none 0 0, List.replicate 256 (.int .u8 0)⟩
def cells0 (n s e : Int) (eo : Option Addr) (em ec k ob fb : Nat) : List Value := (hd0 n s e eo em ec k ob fb).cells (.slice none 0 0) (.map none) (.slice none 0 0) (.slice none 0 0)
theorem built77 (n s e : Int) (eo : Option Addr) (em ec k ob fb : Nat) : Try.prog.built 77 [(0, nfaV n s e eo em ec), (1, .slice (some ⟨ob, 0, none⟩) k k), (2, .slice (some ⟨fb, 0, none⟩) k k)] = some (cells0 n s e eo em ec k ob fb).toArray := by kernel_rfl
section
variable {o : Oper} {a : Act} {w : World}
theorem x_make73 {x y : Operand} {n : Nat} (h : o.op = .makeSlice 73 x y) (hx : a.eval x = .int .i64 (n : Int)) (hy : a.eval y = .int .i64 (n : Int)) (hn : n ≤ 1000000) : (execOp a.eval o).run Try.prog w = .ok (.value (.slice (some ⟨w.heap.size, 0, none⟩) n n)) (w.alloc (.cells ((List.range n).map fun _ => Value.slice none 0 0).toArray 22)) := by
  unfold execOp; rw [h]; simp only [hx, hy, Sem.run_bind, make73 n hn, Result.andThen_ok, Sem.run_pure]
theorem x_make34 {x y : Operand} {n : Nat} (h : o.op = .makeSlice 34 x y) (hx : a.eval x = .int .i64 (n : Int)) (hy : a.eval y = .int .i64 (n : Int)) (hn : n ≤ 1000000) : (execOp a.eval o).run Try.prog w = .ok (.value (.slice (some ⟨w.heap.size, 0, none⟩) n n)) (w.alloc (.cells ((List.range n).map fun _ => Value.slice none 0 0).toArray 25)) := by
  unfold execOp; rw [h]; simp only [hx, hy, Sem.run_bind, make34 n hn, Result.andThen_ok, Sem.run_pure]
theorem x_build77 {x y z : Operand} {n s e : Int} {eo : Option Addr} {em ec k ob fb : Nat} (h : o.op = .build 77 #[(0, x), (1, y), (2, z)]) (hx : a.eval x = nfaV n s e eo em ec) (hy : a.eval y = .slice (some ⟨ob, 0, none⟩) k k) (hz : a.eval z = .slice (some ⟨fb, 0, none⟩) k k) : (execOp a.eval o).run Try.prog w = .ok (.value (.agg (cells0 n s e eo em ec k ob fb).toArray)) w := by
  unfold execOp; rw [h]
  simp only [List.map_toArray, List.map, hx, hy, hz, Sem.run_bind, run_build (P := Try.prog) w 77 #[(0, nfaV n s e eo em ec), (1, .slice (some ⟨ob, 0, none⟩) k k), (2, .slice (some ⟨fb, 0, none⟩) k k)] _ (built77 n s e eo em ec k ob fb), Result.andThen_ok, Sem.run_pure]
theorem x_box77 {x : Operand} {l : List Value} (h : o.op = .box 77 x) (hx : a.eval x = .agg l.toArray) : (execOp a.eval o).run Try.prog w = .ok (.value (.pointer (some ⟨w.heap.size, 0, none⟩))) (w.alloc (.cells l.toArray 77)) := by
  unfold execOp; rw [h]; simp only [hx]; go_simp
theorem x_assign {x : Operand} (h : o.op = .assign x) : (execOp a.eval o).run Try.prog w = .ok (.value (a.eval x)) w := by
  unfold execOp; rw [h]; rfl
end
def ops41_1 : Array Oper := #[
  { dst := some 9, op := Op.load 24 (Operand.tmp 1), type := 24, pos := "build.go:40", after := #[], guard := none },
  { dst := some 10, op := Op.fieldAddr 24 (Operand.tmp 1) 0, type := 0, pos := "build.go:40", after := #[], guard := none },
  { dst := some 11, op := Op.load 3 (Operand.tmp 10), type := 3, pos := "build.go:40", after := #[{ on := 1, ground := Ground.data }], guard := none },
  { dst := some 12, op := Op.makeSlice 73 (Operand.tmp 11) (Operand.tmp 11), type := 73, pos := "build.go:40", after := #[{ on := 2, ground := Ground.data }, { on := 2, ground := Ground.data }], guard := none },
  { dst := some 13, op := Op.fieldAddr 24 (Operand.tmp 1) 0, type := 0, pos := "build.go:40", after := #[], guard := none },
  { dst := some 14, op := Op.load 3 (Operand.tmp 13), type := 3, pos := "build.go:40", after := #[{ on := 4, ground := Ground.data }], guard := none },
  { dst := some 15, op := Op.makeSlice 34 (Operand.tmp 14) (Operand.tmp 14), type := 34, pos := "build.go:40", after := #[{ on := 5, ground := Ground.data }, { on := 5, ground := Ground.data }], guard := none },
  { dst := some 16, op := Op.build 77 #[(0, Operand.tmp 9), (1, Operand.tmp 12), (2, Operand.tmp 15)], type := 77, pos := "build.go:40", after := #[{ on := 0, ground := Ground.data }, { on := 3, ground := Ground.data }, { on := 6, ground := Ground.data }], guard := none },
  { dst := some 17, op := Op.box 77 (Operand.tmp 16), type := 71, pos := "build.go:40", after := #[{ on := 7, ground := Ground.data }], guard := none },
  { dst := some 3, op := Op.assign (Operand.tmp 17), type := 71, pos := "build.go:40", after := #[{ on := 8, ground := Ground.data }, { on := 0, ground := Ground.phase }, { on := 1, ground := Ground.phase }, { on := 2, ground := Ground.phase }, { on := 3, ground := Ground.phase }, { on := 4, ground := Ground.phase }, { on := 5, ground := Ground.phase }, { on := 6, ground := Ground.phase }, { on := 7, ground := Ground.phase }, { on := 8, ground := Ground.phase }], guard := none }]
structure C41 where
  p : Nat
  n : Nat
  s : Int
  e : Int
  eo : Option Addr
  em : Nat
  ec : Nat
def C41.fix (c : C41) (i : Nat) : Option Value := [some (nfaV c.n c.s c.e c.eo c.em c.ec), some (.pointer (some ⟨c.p, 0, none⟩)), some (.int .i64 (c.n : Int)), none, some (.pointer (some ⟨c.p, 0, none⟩)), some (.int .i64 (c.n : Int)), none, none, none, none].getD i none
structure W41 (W : World) (c : C41) (d : Nat → Prop) (vals : Nat → Value) (w : World) : Prop where
  be : Below W.heap.size W w
  ov : d 3 → ∃ ob, vals 3 = .slice (some ⟨ob, 0, none⟩) c.n c.n ∧ W.heap.size ≤ ob ∧ w.heap[ob]? = some (.cells ((List.range c.n).map fun _ => Value.slice none 0 0).toArray 22 (0, 0))
  fv : d 6 → ∃ fb, vals 6 = .slice (some ⟨fb, 0, none⟩) c.n c.n ∧ W.heap.size ≤ fb ∧ w.heap[fb]? = some (.cells ((List.range c.n).map fun _ => Value.slice none 0 0).toArray 25 (0, 0))
  bv : d 7 → ∃ ob fb, vals 3 = .slice (some ⟨ob, 0, none⟩) c.n c.n ∧ vals 6 = .slice (some ⟨fb, 0, none⟩) c.n c.n ∧ vals 7 = .agg (cells0 c.n c.s c.e c.eo c.em c.ec c.n ob fb).toArray
  pv : d 8 → ∃ ob fb b, vals 3 = .slice (some ⟨ob, 0, none⟩) c.n c.n ∧ vals 6 = .slice (some ⟨fb, 0, none⟩) c.n c.n ∧ vals 8 = .pointer (some ⟨b, 0, none⟩) ∧ W.heap.size ≤ b ∧ w.heap[b]? = some (.cells (cells0 c.n c.s c.e c.eo c.em c.ec c.n ob fb).toArray 77 (0, 0))
  av : d 9 → vals 9 = vals 8
theorem W41.plain {W : World} {c : C41} {d : Nat → Prop} {vals : Nat → Value} {w : World} (k : W41 W c d vals w) {i : Nat} (h3 : i ≠ 3) (h6 : i ≠ 6) (h7 : i ≠ 7) (h8 : i ≠ 8) (h9 : i ≠ 9) (v : Value) : W41 W c (fun j => j = i ∨ d j) (dw.upd vals i v) w := by
  have e3 := dw.upd_ne vals v (Ne.symm h3)
  have e6 := dw.upd_ne vals v (Ne.symm h6)
  have e7 := dw.upd_ne vals v (Ne.symm h7)
  have e8 := dw.upd_ne vals v (Ne.symm h8)
  have e9 := dw.upd_ne vals v (Ne.symm h9)
  refine ⟨k.be, fun x => ?_, fun x => ?_, fun x => ?_, fun x => ?_, fun x => ?_⟩
  · rw [e3]; exact k.ov (x.resolve_left (Ne.symm h3))
  · rw [e6]; exact k.fv (x.resolve_left (Ne.symm h6))
  · rw [e3, e6, e7]; exact k.bv (x.resolve_left (Ne.symm h7))
  · rw [e3, e6, e8]; exact k.pv (x.resolve_left (Ne.symm h8))
  · rw [e8, e9]; exact k.av (x.resolve_left (Ne.symm h9))
theorem old_at {w : World} {g : Nat} {x : Obj} (h : w.heap[g]? = some x) (o : Obj) : (w.alloc o).heap[g]? = some x := (Below.heap_alloc _ _ _ (Array.getElem?_eq_some_iff.1 h).1).trans h
set_option maxHeartbeats 1000000 in
theorem reg41_1 {Q : Exit → Act → World → Prop} {a0 : Act} {id : Nat} (hsz : a0.tmps.size = 118) (c : C41) (hnn : c.n ≤ 1000000) (e1 : a0.eval (.tmp 1) = .pointer (some ⟨c.p, 0, none⟩)) {W : World} (hc : ∀ w, Below W.heap.size W w → w.cell? ⟨c.p, 0, none⟩ = some (.int .i64 (c.n : Int)) ∧ w.cell? ⟨c.p, 1, none⟩ = some (.int .i64 c.s) ∧ w.cell? ⟨c.p, 2, none⟩ = some (.int .i64 c.e) ∧ w.cell? ⟨c.p, 3, none⟩ = some (.slice c.eo c.em c.ec))
    (fin : ∀ vals w ob fb b, vals 9 = .pointer (some ⟨b, 0, none⟩) → Below W.heap.size W w → W.heap.size ≤ ob → W.heap.size ≤ fb → W.heap.size ≤ b → w.heap[ob]? = some (.cells ((List.range c.n).map fun _ => Value.slice none 0 0).toArray 22 (0, 0)) → w.heap[fb]? = some (.cells ((List.range c.n).map fun _ => Value.slice none 0 0).toArray 25 (0, 0)) → w.heap[b]? = some (.cells (cells0 c.n c.s c.e c.eo c.em c.ec c.n ob fb).toArray 77 (0, 0)) → Q .normal (dw.fold ops41_1.toList 0 vals a0) w) : (Code.region id ops41_1 true).wp Try.prog Q a0 W := by
  refine dw.region (by kernel_rfl) (by rw [hsz]; kernel_rfl) c.fix (W41 W c) (fun vals => ⟨below_drew W, fun x => x.elim, fun x => x.elim, fun x => x.elim, fun x => x.elim, fun x => x.elim⟩) ?_ ?_
  · intro i hi
    match i, hi with
    | 0, _ => intro d vals a w o ho hn hd hdl hcl hf hx hw K Q' E hk; obtain ⟨q0, q1, q2, q3⟩ := hc w hw.be; exact dw.s_val (dw.gd_of ho rfl) (x_load24 (dw.op_of ho rfl) ((hf.base 1 fun i hi => (by decide +kernel : ∀ i, i < ops41_1.size → dw.slot ops41_1 i ≠ some 1) i (hdl i hi)).trans e1) q0 q1 q2 q3) (hk _ w (fun u hu => by cases hu; rfl) (hw.plain (by decide) (by decide) (by decide) (by decide) (by decide) _))
    | 1, _ => intro d vals a w o ho hn hd hdl hcl hf hx hw K Q' E hk; exact dw.s_val (dw.gd_of ho rfl) (dw.x_field (dw.op_of ho rfl) ((hf.base 1 fun i hi => (by decide +kernel : ∀ i, i < ops41_1.size → dw.slot ops41_1 i ≠ some 1) i (hdl i hi)).trans e1) (f24_0 _ _)) (hk _ w (fun u hu => by cases hu; rfl) (hw.plain (by decide) (by decide) (by decide) (by decide) (by decide) _))
    | 2, _ => intro d vals a w o ho hn hd hdl hcl hf hx hw K Q' E hk; exact dw.s_val (dw.gd_of ho rfl) (x_load3 (dw.op_of ho rfl) ((hf.eval 1 (hd 1 (by kernel_rfl)) (t := 10) rfl).trans (hx 1 (hd 1 (by kernel_rfl)) _ rfl)) (hc w hw.be).1) (hk _ w (fun u hu => by cases hu; rfl) (hw.plain (by decide) (by decide) (by decide) (by decide) (by decide) _))
    | 3, _ =>
        intro d vals a w o ho hn hd hdl hcl hf hx hw K Q' E hk
        have n7 : ¬ d 7 := fun x => hn (hcl 7 3 x (by kernel_rfl))
        have n8 : ¬ d 8 := fun x => n7 (hcl 8 7 x (by kernel_rfl))
        have n9 : ¬ d 9 := fun x => n8 (hcl 9 8 x (by kernel_rfl))
        have vn := ((hf.eval 2 (hd 2 (by kernel_rfl)) (t := 11) rfl).trans (hx 2 (hd 2 (by kernel_rfl)) _ rfl))
        refine dw.s_val (dw.gd_of ho rfl) (x_make73 (dw.op_of ho rfl) vn vn hnn) (hk _ _ (fun u hu => by cases hu) ⟨hw.be.alloc hw.be.size _, ?_, ?_, fun x => absurd (x.resolve_left (by decide)) n7, fun x => absurd (x.resolve_left (by decide)) n8, fun x => absurd (x.resolve_left (by decide)) n9⟩)
        · exact fun _ => ⟨w.heap.size, by rw [dw.upd_same], hw.be.size, World.alloc_heap_new w _⟩
        · exact fun x => by obtain ⟨ob, y1, y2, y3⟩ := hw.fv (x.resolve_left (by decide)); exact ⟨ob, by rw [dw.upd_ne _ _ (by decide)]; exact y1, y2, old_at y3 _⟩
    | 4, _ => intro d vals a w o ho hn hd hdl hcl hf hx hw K Q' E hk; exact dw.s_val (dw.gd_of ho rfl) (dw.x_field (dw.op_of ho rfl) ((hf.base 1 fun i hi => (by decide +kernel : ∀ i, i < ops41_1.size → dw.slot ops41_1 i ≠ some 1) i (hdl i hi)).trans e1) (f24_0 _ _)) (hk _ w (fun u hu => by cases hu; rfl) (hw.plain (by decide) (by decide) (by decide) (by decide) (by decide) _))
    | 5, _ => intro d vals a w o ho hn hd hdl hcl hf hx hw K Q' E hk; exact dw.s_val (dw.gd_of ho rfl) (x_load3 (dw.op_of ho rfl) ((hf.eval 4 (hd 4 (by kernel_rfl)) (t := 13) rfl).trans (hx 4 (hd 4 (by kernel_rfl)) _ rfl)) (hc w hw.be).1) (hk _ w (fun u hu => by cases hu; rfl) (hw.plain (by decide) (by decide) (by decide) (by decide) (by decide) _))
    | 6, _ =>
        intro d vals a w o ho hn hd hdl hcl hf hx hw K Q' E hk
        have n7 : ¬ d 7 := fun x => hn (hcl 7 6 x (by kernel_rfl))
        have n8 : ¬ d 8 := fun x => n7 (hcl 8 7 x (by kernel_rfl))
        have n9 : ¬ d 9 := fun x => n8 (hcl 9 8 x (by kernel_rfl))
        have vn := ((hf.eval 5 (hd 5 (by kernel_rfl)) (t := 14) rfl).trans (hx 5 (hd 5 (by kernel_rfl)) _ rfl))
        refine dw.s_val (dw.gd_of ho rfl) (x_make34 (dw.op_of ho rfl) vn vn hnn) (hk _ _ (fun u hu => by cases hu) ⟨hw.be.alloc hw.be.size _, ?_, ?_, fun x => absurd (x.resolve_left (by decide)) n7, fun x => absurd (x.resolve_left (by decide)) n8, fun x => absurd (x.resolve_left (by decide)) n9⟩)
        · exact fun x => by obtain ⟨ob, y1, y2, y3⟩ := hw.ov (x.resolve_left (by decide)); exact ⟨ob, by rw [dw.upd_ne _ _ (by decide)]; exact y1, y2, old_at y3 _⟩
        · exact fun _ => ⟨w.heap.size, by rw [dw.upd_same], hw.be.size, World.alloc_heap_new w _⟩
    | 7, _ =>
        intro d vals a w o ho hn hd hdl hcl hf hx hw K Q' E hk
        have n8 : ¬ d 8 := fun x => hn (hcl 8 7 x (by kernel_rfl))
        have n9 : ¬ d 9 := fun x => n8 (hcl 9 8 x (by kernel_rfl))
        obtain ⟨ob, y1, y2, y3⟩ := hw.ov (hd 3 (by kernel_rfl))
        obtain ⟨fb, z1, z2, z3⟩ := hw.fv (hd 6 (by kernel_rfl))
        have v0 := ((hf.eval 0 (hd 0 (by kernel_rfl)) (t := 9) rfl).trans (hx 0 (hd 0 (by kernel_rfl)) _ rfl))
        have v3 := (hf.eval 3 (hd 3 (by kernel_rfl)) (t := 12) rfl).trans y1
        have v6 := (hf.eval 6 (hd 6 (by kernel_rfl)) (t := 15) rfl).trans z1
        refine dw.s_val (dw.gd_of ho rfl) (x_build77 (dw.op_of ho rfl) v0 v3 v6) (hk _ _ (fun u hu => by cases hu) ⟨hw.be, ?_, ?_, ?_, fun x => absurd (x.resolve_left (by decide)) n8, fun x => absurd (x.resolve_left (by decide)) n9⟩)
        · exact fun _ => ⟨ob, by rw [dw.upd_ne _ _ (by decide)]; exact y1, y2, y3⟩
        · exact fun _ => ⟨fb, by rw [dw.upd_ne _ _ (by decide)]; exact z1, z2, z3⟩
        · exact fun _ => ⟨ob, fb, by rw [dw.upd_ne _ _ (by decide)]; exact y1, by rw [dw.upd_ne _ _ (by decide)]; exact z1, by rw [dw.upd_same]⟩
    | 8, _ =>
        intro d vals a w o ho hn hd hdl hcl hf hx hw K Q' E hk
        have n9 : ¬ d 9 := fun x => hn (hcl 9 8 x (by kernel_rfl))
        obtain ⟨ob, fb, y1, z1, q1⟩ := hw.bv (hd 7 (by kernel_rfl))
        have d3 := hcl 7 3 (hd 7 (by kernel_rfl)) (by kernel_rfl)
        have d6 := hcl 7 6 (hd 7 (by kernel_rfl)) (by kernel_rfl)
        obtain ⟨ob', y1', y2, y3⟩ := hw.ov d3
        obtain ⟨fb', z1', z2, z3⟩ := hw.fv d6
        have v7 := (hf.eval 7 (hd 7 (by kernel_rfl)) (t := 16) rfl).trans q1
        refine dw.s_val (dw.gd_of ho rfl) (x_box77 (dw.op_of ho rfl) v7) (hk _ _ (fun u hu => by cases hu) ⟨hw.be.alloc hw.be.size _, ?_, ?_, ?_, ?_, fun x => absurd (x.resolve_left (by decide)) n9⟩)
        · exact fun _ => ⟨ob', by rw [dw.upd_ne _ _ (by decide)]; exact y1', y2, old_at y3 _⟩
        · exact fun _ => ⟨fb', by rw [dw.upd_ne _ _ (by decide)]; exact z1', z2, old_at z3 _⟩
        · exact fun _ => ⟨ob, fb, by rw [dw.upd_ne _ _ (by decide)]; exact y1, by rw [dw.upd_ne _ _ (by decide)]; exact z1, by rw [dw.upd_ne _ _ (by decide)]; exact q1⟩
        · exact fun _ => ⟨ob, fb, w.heap.size, by rw [dw.upd_ne _ _ (by decide)]; exact y1, by rw [dw.upd_ne _ _ (by decide)]; exact z1, by rw [dw.upd_same], hw.be.size, World.alloc_heap_new w _⟩
    | 9, _ =>
        intro d vals a w o ho hn hd hdl hcl hf hx hw K Q' E hk
        have d8 := hd 8 (by kernel_rfl)
        have e := hf.eval 8 d8 (t := 17) rfl
        refine dw.s_val (dw.gd_of ho rfl) ((x_assign (dw.op_of ho rfl)).trans (by rw [e])) (hk _ _ (fun u hu => by cases hu) ⟨hw.be, fun x => ?_, fun x => ?_, fun x => ?_, fun x => ?_, fun _ => by rw [dw.upd_same, dw.upd_ne _ _ (by decide)]⟩)
        · rw [dw.upd_ne _ _ (by decide)]; exact hw.ov (x.resolve_left (by decide))
        · rw [dw.upd_ne _ _ (by decide)]; exact hw.fv (x.resolve_left (by decide))
        · rw [dw.upd_ne _ _ (by decide), dw.upd_ne _ _ (by decide), dw.upd_ne _ _ (by decide)]; exact hw.bv (x.resolve_left (by decide))
        · rw [dw.upd_ne _ _ (by decide), dw.upd_ne _ _ (by decide), dw.upd_ne _ _ (by decide)]; exact hw.pv (x.resolve_left (by decide))
    | i + 10, hi => exact absurd hi (by simp [ops41_1])
  · intro vals w hx hw
    obtain ⟨ob, fb, b, y1, z1, q1, q2, q3⟩ := hw.pv (by decide)
    obtain ⟨ob', y1', y2, y3⟩ := hw.ov (by decide)
    obtain ⟨fb', z1', z2, z3⟩ := hw.fv (by decide)
    have e1 : ob' = ob := by rw [y1] at y1'; simp only [Value.slice.injEq, Option.some.injEq, Addr.mk.injEq] at y1'; exact y1'.1.1.symm
    have e2 : fb' = fb := by rw [z1] at z1'; simp only [Value.slice.injEq, Option.some.injEq, Addr.mk.injEq] at z1'; exact z1'.1.1.symm
    subst e1 e2
    exact fin vals w _ _ b ((hw.av (by decide)).trans q1) hw.be y2 z2 q2 y3 z3 q3
theorem fold41_1 (vals : Nat → Value) (a : Act) : dw.fold ops41_1.toList 0 vals a = ((((((((((a.put (some 9) (vals 0)).put (some 10) (vals 1)).put (some 11) (vals 2)).put (some 12) (vals 3)).put (some 13) (vals 4)).put (some 14) (vals 5)).put (some 15) (vals 6)).put (some 16) (vals 7)).put (some 17) (vals 8)).put (some 3) (vals 9)) := by
  unfold ops41_1
  simp only [dw.fold, Nat.zero_add, Nat.reduceAdd]
end Go.Proofs.Ythknhbmibmndoaa.bd
