/-
  Over this program: the statement of newWalk that draws its order: an edge more in a row.
-/
import Derived.Test.YthmecbonjkcnmaaGreatM05
import Derived.Test.YthmecbonjkcnmaaGreatKDw
namespace Go.Proofs.YthmecbonjkcnmaaGreat.wk
open Go.ChangeShapes Go.WideShapes Go.ChangeAt Go.RowKit Go.Maps
open nf (Ed Eds EdAt)
set_option linter.unusedVariables false
set_option maxRecDepth 10000

theorem below_drew (w : World) : Below w.heap.size w w.drew := (Below.refl _ _).drew
abbrev edV (e : Ed) : Value := .agg #[.int .i64 e.fr, .int .i64 e.to, .bool e.free, .int .u64 e.a, .int .u64 e.b, .int .u64 e.c, .int .u64 e.d]
def EBox (w : World) (p : Nat) (e : Ed) : Prop := w.heap[p]? = some (.cells (e7 e).toArray 132 (0, 0))
theorem EBox.lt {w : World} {p : Nat} {e : Ed} (h : EBox w p e) : p < w.heap.size := (Array.getElem?_eq_some_iff.1 h).1
theorem EBox.later {w w' : World} {p : Nat} {e : Ed} (h : EBox w p e) (b : Below w.heap.size w w') : EBox w' p e := (b.block p h.lt).trans h
theorem f77_1 (b : Nat) (w : World) : (Instr.fieldAt 130 (.pointer (some ⟨b, 0, none⟩)) 1).run Tryz.prog w = .ok (.pointer (some ⟨b, 4, none⟩)) w := by go_simp
theorem f62_0 (b : Nat) (w : World) : (Instr.fieldAt 132 (.pointer (some ⟨b, 0, none⟩)) 0).run Tryz.prog w = .ok (.pointer (some ⟨b, 0, none⟩)) w := by go_simp
theorem EBox.c0 {w : World} {p : Nat} {e : Ed} (h : EBox w p e) : w.cell? ⟨p, 0, none⟩ = some (.int .i64 e.fr) := by rw [Lib.cell_of_heap h]; rfl
section
variable {o : Oper} {a : Act} {w : World}
theorem x_load3 {x : Operand} {p : Addr} {v : Value} (h : o.op = .load 3 x) (hx : a.eval x = .pointer (some p)) (hc : w.cell? p = some v) : (execOp a.eval o).run Tryz.prog w = .ok (.value v) w := by
  unfold execOp; rw [h]; simp only [hx]; go_simp
theorem x_load73 {x : Operand} {p : Addr} {v : Value} (h : o.op = .load 127 x) (hx : a.eval x = .pointer (some p)) (hc : w.cell? p = some v) : (execOp a.eval o).run Tryz.prog w = .ok (.value v) w := by
  unfold execOp; rw [h]; simp only [hx]; go_simp
theorem x_load22 {x : Operand} {p : Addr} {v : Value} (h : o.op = .load 84 x) (hx : a.eval x = .pointer (some p)) (hc : w.cell? p = some v) : (execOp a.eval o).run Tryz.prog w = .ok (.value v) w := by
  unfold execOp; rw [h]; simp only [hx]; go_simp
theorem x_index127 {x y : Operand} {b n cap i : Nat} (h : o.op = .indexAddr 127 x y) (hx : a.eval x = .slice (some ⟨b, 0, none⟩) n cap) (hy : a.eval y = .int .i64 (i : Int)) (hi : i < n) : (execOp a.eval o).run Tryz.prog w = .ok (.value (.pointer (some ⟨b, i, none⟩))) w := by
  unfold execOp; rw [h]
  obtain ⟨i0, hi0, hz0, hz1, hz2⟩ := info_parts info84
  have hs : (sizeOf 84).run Tryz.prog w = .ok 1 w := by simp [sizeOf, typeInfo, hi0, hz1, Sem.run_bind]
  have hb : (0 : Int) ≤ (i : Int) ∧ (i : Int) < (n : Int) := by omega
  simp only [Instr.indexAt, hx, hy, asIntOf, Sem.run_bind, Sem.run_pure, Result.andThen_ok, run_underlying Tryz.underlying127, hb, and_self, if_true, hs, Int.toNat_natCast, Addr.add_mid, Nat.zero_add, Nat.mul_one]
theorem x_store22 {x y : Operand} {p : Addr} {u : Value} {g : Option Addr} {n cap : Nat} (h : o.op = .store 84 x y) (hx : a.eval x = .pointer (some p)) (hy : a.eval y = .slice g n cap) (hc : w.cell? p = some u) (hf : w.frozen? p = false) : (execOp a.eval o).run Tryz.prog w = .ok .skip (w.setCell p (.slice g n cap)) := by
  unfold execOp; rw [h]; simp only [hx, hy]; go_simp
theorem x_load62 {x : Operand} {p : Nat} {e : Ed} (h : o.op = .load 132 x) (hx : a.eval x = .pointer (some ⟨p, 0, none⟩)) (hb : EBox w p e) : (execOp a.eval o).run Tryz.prog w = .ok (.value (edV e)) w := by
  have hr : w.rangeAt p 0 (e7 e) := by
    intro j v hv
    rw [Nat.zero_add, Lib.cell_of_heap hb]
    show (e7 e).toArray[j]? = some v
    rw [List.getElem?_toArray]
    exact hv
  unfold execOp; rw [h]
  simp only [hx, Sem.run_bind, run_loadAt_mid (P := Tryz.prog) w p 0 132 _ _ hr Tryz.underlying132 rfl (by kernel_rfl), Result.andThen_ok, Sem.run_pure]
  rfl
theorem x_build22 {x : Operand} {e : Ed} (h : o.op = .buildSlice 84 1 #[(0, x)]) (hx : a.eval x = edV e) : (execOp a.eval o).run Tryz.prog w = .ok (.value (.slice (some ⟨w.heap.size, 0, none⟩) 1 1)) (w.alloc (.cells (e7 e).toArray 132)) := by
  unfold execOp; rw [h]; simp only [List.map_toArray, List.map, hx]; go_simp; rfl
end
theorem new7 (W : World) (e : Ed) : ∀ j u, (e7 e)[j]? = some u → (W.alloc (.cells (e7 e).toArray 132)).cell? ((⟨W.heap.size, 0, none⟩ : Addr).add j) = some u := fun j u hu => by
  have ad : ((⟨W.heap.size, 0, none⟩ : Addr).add j) = ⟨W.heap.size, j, none⟩ := by unfold Addr.add; simp; omega
  rw [ad, Lib.cell_of_heap (World.alloc_heap_new W _), List.getElem?_toArray]
  exact hu
theorem one7 (e : Ed) : ∀ u ∈ e7 e, u.oneCell' = true := fun u hu => by
  simp only [e7, List.mem_cons, List.not_mem_nil, or_false] at hu
  rcases hu with rfl | rfl | rfl | rfl | rfl | rfl | rfl <;> rfl
def opsW : Array Oper := #[
  { dst := some 38, op := Op.move (Operand.tmp 5), type := 92, pos := "walk.go:21", after := #[], guard := none },
  { dst := some 39, op := Op.nilCheck (Operand.tmp 38), type := 0, pos := "walk.go:21", after := #[{ on := 0, ground := Ground.data }], guard := none },
  { dst := some 40, op := Op.fieldAddr 130 (Operand.tmp 39) 1, type := 0, pos := "walk.go:21", after := #[{ on := 1, ground := Ground.data }], guard := none },
  { dst := some 41, op := Op.load 127 (Operand.tmp 40), type := 127, pos := "walk.go:21", after := #[{ on := 2, ground := Ground.data }], guard := none },
  { dst := some 42, op := Op.fieldAddr 132 (Operand.tmp 7) 0, type := 0, pos := "walk.go:21", after := #[], guard := none },
  { dst := some 43, op := Op.load 3 (Operand.tmp 42), type := 3, pos := "walk.go:21", after := #[{ on := 4, ground := Ground.data }], guard := none },
  { dst := some 44, op := Op.move (Operand.tmp 5), type := 92, pos := "walk.go:21", after := #[], guard := none },
  { dst := some 45, op := Op.nilCheck (Operand.tmp 44), type := 0, pos := "walk.go:21", after := #[{ on := 6, ground := Ground.data }], guard := none },
  { dst := some 46, op := Op.fieldAddr 130 (Operand.tmp 45) 1, type := 0, pos := "walk.go:21", after := #[{ on := 7, ground := Ground.data }], guard := none },
  { dst := some 47, op := Op.load 127 (Operand.tmp 46), type := 127, pos := "walk.go:21", after := #[{ on := 8, ground := Ground.data }], guard := none },
  { dst := some 48, op := Op.fieldAddr 132 (Operand.tmp 7) 0, type := 0, pos := "walk.go:21", after := #[], guard := none },
  { dst := some 49, op := Op.load 3 (Operand.tmp 48), type := 3, pos := "walk.go:21", after := #[{ on := 10, ground := Ground.data }], guard := none },
  { dst := some 50, op := Op.indexAddr 127 (Operand.tmp 47) (Operand.tmp 49), type := 0, pos := "walk.go:21", after := #[{ on := 9, ground := Ground.data }, { on := 11, ground := Ground.data }], guard := none },
  { dst := some 51, op := Op.load 84 (Operand.tmp 50), type := 84, pos := "walk.go:21", after := #[{ on := 12, ground := Ground.data }], guard := none },
  { dst := some 52, op := Op.load 132 (Operand.tmp 7), type := 132, pos := "walk.go:21", after := #[], guard := none },
  { dst := some 53, op := Op.buildSlice 84 1 #[(0, Operand.tmp 52)], type := 84, pos := "walk.go:21", after := #[{ on := 14, ground := Ground.data }], guard := none },
  { dst := some 54, op := Op.call { callee := Callee.builtin Builtin.append, args := #[Operand.tmp 51, Operand.tmp 53], argTypes := #[84, 84] }, type := 84, pos := "walk.go:21", after := #[{ on := 13, ground := Ground.data }, { on := 15, ground := Ground.data }], guard := none },
  { dst := some 55, op := Op.indexAddr 127 (Operand.tmp 41) (Operand.tmp 43), type := 0, pos := "walk.go:21", after := #[{ on := 3, ground := Ground.data }, { on := 5, ground := Ground.data }, { on := 0, ground := Ground.phase }, { on := 1, ground := Ground.phase }, { on := 2, ground := Ground.phase }, { on := 3, ground := Ground.phase }, { on := 4, ground := Ground.phase }, { on := 5, ground := Ground.phase }, { on := 6, ground := Ground.phase }, { on := 7, ground := Ground.phase }, { on := 8, ground := Ground.phase }, { on := 9, ground := Ground.phase }, { on := 10, ground := Ground.phase }, { on := 11, ground := Ground.phase }, { on := 12, ground := Ground.phase }, { on := 13, ground := Ground.phase }, { on := 14, ground := Ground.phase }, { on := 15, ground := Ground.phase }, { on := 16, ground := Ground.phase }], guard := none },
  { dst := none, op := Op.store 84 (Operand.tmp 55) (Operand.tmp 54), type := 0, pos := "walk.go:21", after := #[{ on := 17, ground := Ground.data }, { on := 16, ground := Ground.data }, { on := 16, ground := Ground.chain }, { on := 0, ground := Ground.phase }, { on := 1, ground := Ground.phase }, { on := 2, ground := Ground.phase }, { on := 3, ground := Ground.phase }, { on := 4, ground := Ground.phase }, { on := 5, ground := Ground.phase }, { on := 6, ground := Ground.phase }, { on := 7, ground := Ground.phase }, { on := 8, ground := Ground.phase }, { on := 9, ground := Ground.phase }, { on := 10, ground := Ground.phase }, { on := 11, ground := Ground.phase }, { on := 12, ground := Ground.phase }, { on := 13, ground := Ground.phase }, { on := 14, ground := Ground.phase }, { on := 15, ground := Ground.phase }, { on := 16, ground := Ground.phase }], guard := none }]

structure C41O where
  b : Nat
  r : Nat
  n : Nat
  s : Nat
  p : Nat
  y : Ed
  v : Value
def C41O.fix (c : C41O) (i : Nat) : Option Value := [some (.pointer (some ⟨c.b, 0, none⟩)), some (.pointer (some ⟨c.b, 0, none⟩)), some (.pointer (some ⟨c.b, 4, none⟩)), some (.slice (some ⟨c.r, 0, none⟩) c.n c.n), some (.pointer (some ⟨c.p, 0, none⟩)), some (.int .i64 (c.s : Int)), some (.pointer (some ⟨c.b, 0, none⟩)), some (.pointer (some ⟨c.b, 0, none⟩)), some (.pointer (some ⟨c.b, 4, none⟩)), some (.slice (some ⟨c.r, 0, none⟩) c.n c.n), some (.pointer (some ⟨c.p, 0, none⟩)), some (.int .i64 (c.s : Int)), some (.pointer (some ⟨c.r, c.s, none⟩)), some c.v, some (edV c.y), none, none, some (.pointer (some ⟨c.r, c.s, none⟩)), none].getD i none
structure W41O (W : World) (B k : Nat) (xs : List Value) (c : C41O) (d : Nat → Prop) (vals : Nat → Value) (w : World) : Prop where
  be : ¬ d 16 → Below W.heap.size W w
  el : d 15 → ¬ d 16 → ∃ g, vals 15 = .slice (some ⟨g, 0, none⟩) 1 1 ∧ g < w.heap.size ∧ ∀ j u, (e7 c.y)[j]? = some u → w.cell? ((⟨g, 0, none⟩ : Addr).add j) = some u
  ap : d 16 → ¬ d 18 → ∃ g cap w1, vals 16 = .slice (some ⟨g, 0, none⟩) (k + 1) cap ∧ Below W.heap.size W w1 ∧ w.ownsRow B 132 7 (.slice (some ⟨g, 0, none⟩) (k + 1) cap) (k + 1) (xs ++ (e7 c.y)) ∧ w1.grownBy w c.v.ownBlock ∧ (some g = c.v.ownBlock ∨ w1.heap.size ≤ g)
  fin : d 18 → ∃ g cap w1 w2, Below W.heap.size W w1 ∧ w2.ownsRow B 132 7 (.slice (some ⟨g, 0, none⟩) (k + 1) cap) (k + 1) (xs ++ (e7 c.y)) ∧ w1.grownBy w2 c.v.ownBlock ∧ (some g = c.v.ownBlock ∨ w1.heap.size ≤ g) ∧ w = w2.setCell ⟨c.r, c.s, none⟩ (.slice (some ⟨g, 0, none⟩) (k + 1) cap)
theorem W41O.plain {W : World} {B k : Nat} {xs : List Value} {c : C41O} {d : Nat → Prop} {vals : Nat → Value} {w : World} (q : W41O W B k xs c d vals w) {i : Nat} (h1 : i ≠ 15) (h2 : i ≠ 16) (h3 : i ≠ 18) (v : Value) : W41O W B k xs c (fun j => j = i ∨ d j) (dw.upd vals i v) w :=
  ⟨fun a => q.be fun b => a (.inr b), fun a b => by
    rw [dw.upd_ne _ _ (Ne.symm h1)]
    exact q.el (a.resolve_left (fun e => h1 e.symm)) fun x => b (.inr x), fun a b => by
    rw [dw.upd_ne _ _ (Ne.symm h2)]
    exact q.ap (a.resolve_left (fun e => h2 e.symm)) fun x => b (.inr x), fun a => q.fin (a.resolve_left (fun e => h3 e.symm))⟩
theorem needO_9 (d : Nat → Prop) (hcl : ∀ k j, d k → dw.need opsW k j = true → d j) (x : d 16) : d 9 := hcl 12 9 (hcl 13 12 (hcl 16 13 x (by kernel_rfl)) (by kernel_rfl)) (by kernel_rfl)
theorem needO_11 (d : Nat → Prop) (hcl : ∀ k j, d k → dw.need opsW k j = true → d j) (x : d 16) : d 11 := hcl 12 11 (hcl 13 12 (hcl 16 13 x (by kernel_rfl)) (by kernel_rfl)) (by kernel_rfl)
theorem needO_13 (d : Nat → Prop) (hcl : ∀ k j, d k → dw.need opsW k j = true → d j) (x : d 16) : d 13 := hcl 16 13 x (by kernel_rfl)
theorem needO_14 (d : Nat → Prop) (hcl : ∀ k j, d k → dw.need opsW k j = true → d j) (x : d 16) : d 14 := hcl 15 14 (hcl 16 15 x (by kernel_rfl)) (by kernel_rfl)
set_option maxHeartbeats 1000000 in
theorem regW {Q : Exit → Act → World → Prop} {a0 : Act} {id : Nat} (hsz : a0.tmps.size = 58) (c : C41O) (e3 : a0.eval (.tmp 5) = .pointer (some ⟨c.b, 0, none⟩)) (e6 : a0.eval (.tmp 7) = .pointer (some ⟨c.p, 0, none⟩)) {W : World} {B kk : Nat} {xs : List Value} (hB : B ≤ W.heap.size) (hlen : kk ≤ 1000000) (hs : c.s < c.n) (hfr : c.y.fr = (c.s : Int)) (hE : EBox W c.p c.y)
    (hE2 : ∀ w1 w, Below W.heap.size W w1 → w1.grownBy w c.v.ownBlock → EBox w c.p c.y)
    (hc : ∀ w, Below W.heap.size W w → w.cell? ⟨c.b, 4, none⟩ = some (.slice (some ⟨c.r, 0, none⟩) c.n c.n))
    (hc2 : ∀ w1 w, Below W.heap.size W w1 → w1.grownBy w c.v.ownBlock → w.cell? ⟨c.b, 4, none⟩ = some (.slice (some ⟨c.r, 0, none⟩) c.n c.n))
    (hr : ∀ w, Below W.heap.size W w → w.cell? ⟨c.r, c.s, none⟩ = some c.v)
    (hown : ∀ w, Below W.heap.size W w → w.ownsRow B 132 7 c.v kk xs)
    (hst : ∀ w1 w, Below W.heap.size W w1 → w1.grownBy w c.v.ownBlock → w.cell? ⟨c.r, c.s, none⟩ = some c.v ∧ w.frozen? ⟨c.r, c.s, none⟩ = false)
    (fin : ∀ vals g cap w1 w2, Below W.heap.size W w1 → w2.ownsRow B 132 7 (.slice (some ⟨g, 0, none⟩) (kk + 1) cap) (kk + 1) (xs ++ (e7 c.y)) → w1.grownBy w2 c.v.ownBlock → (some g = c.v.ownBlock ∨ w1.heap.size ≤ g) → Q .normal (dw.fold opsW.toList 0 vals a0) (w2.setCell ⟨c.r, c.s, none⟩ (.slice (some ⟨g, 0, none⟩) (kk + 1) cap))) : (Code.region id opsW true).wp Tryz.prog Q a0 W := by
  refine dw.region (by kernel_rfl) (by rw [hsz]; kernel_rfl) c.fix (W41O W B kk xs c) (fun vals => ⟨fun _ => below_drew W, fun x => x.elim, fun x => x.elim, fun x => x.elim⟩) ?_ ?_
  · intro i hi
    match i, hi with
    | 0, _ => intro d vals a w o ho hn hd hdl hcl hf hx hw K Q' E hk; exact dw.s_val (dw.gd_of ho rfl) ((dw.x_move (dw.op_of ho rfl)).trans (by rw [((hf.base 5 fun i hi => (by decide +kernel : ∀ i, i < opsW.size → dw.slot opsW i ≠ some 5) i (hdl i hi)).trans e3)])) (hk _ w (fun u hu => by cases hu; rfl) (hw.plain (by decide) (by decide) (by decide) _))
    | 1, _ => intro d vals a w o ho hn hd hdl hcl hf hx hw K Q' E hk; exact dw.s_val (dw.gd_of ho rfl) (dw.x_nil (dw.op_of ho rfl) ((hf.eval 0 (hd 0 (by kernel_rfl)) (t := 38) rfl).trans (hx 0 (hd 0 (by kernel_rfl)) _ rfl))) (hk _ w (fun u hu => by cases hu; rfl) (hw.plain (by decide) (by decide) (by decide) _))
    | 2, _ => intro d vals a w o ho hn hd hdl hcl hf hx hw K Q' E hk; exact dw.s_val (dw.gd_of ho rfl) (dw.x_field (dw.op_of ho rfl) ((hf.eval 1 (hd 1 (by kernel_rfl)) (t := 39) rfl).trans (hx 1 (hd 1 (by kernel_rfl)) _ rfl)) (f77_1 _ _)) (hk _ w (fun u hu => by cases hu; rfl) (hw.plain (by decide) (by decide) (by decide) _))
    | 3, _ =>
        intro d vals a w o ho hn hd hdl hcl hf hx hw K Q' E hk
        have nS : ¬ d 18 := fun x => hn (hcl 17 3 (hcl 18 17 x (by kernel_rfl)) (by kernel_rfl))
        have hq : w.cell? ⟨c.b, 4, none⟩ = some (.slice (some ⟨c.r, 0, none⟩) c.n c.n) := by
          by_cases dA : d 16
          · obtain ⟨g, cap, w1, e, hb, ho1, hg1, hw1⟩ := hw.ap dA nS
            exact hc2 w1 w hb hg1
          · have hb := hw.be dA
            exact hc w hb
        exact dw.s_val (dw.gd_of ho rfl) (x_load73 (dw.op_of ho rfl) ((hf.eval 2 (hd 2 (by kernel_rfl)) (t := 40) rfl).trans (hx 2 (hd 2 (by kernel_rfl)) _ rfl)) hq) (hk _ w (fun u hu => by cases hu; rfl) (hw.plain (by decide) (by decide) (by decide) _))
    | 4, _ => intro d vals a w o ho hn hd hdl hcl hf hx hw K Q' E hk; exact dw.s_val (dw.gd_of ho rfl) (dw.x_field (dw.op_of ho rfl) ((hf.base 7 fun i hi => (by decide +kernel : ∀ i, i < opsW.size → dw.slot opsW i ≠ some 7) i (hdl i hi)).trans e6) (f62_0 _ _)) (hk _ w (fun u hu => by cases hu; rfl) (hw.plain (by decide) (by decide) (by decide) _))
    | 5, _ =>
        intro d vals a w o ho hn hd hdl hcl hf hx hw K Q' E hk
        have nS : ¬ d 18 := fun x => hn (hcl 17 5 (hcl 18 17 x (by kernel_rfl)) (by kernel_rfl))
        have hq : w.cell? ⟨c.p, 0, none⟩ = some (.int .i64 (c.s : Int)) := by
          by_cases dA : d 16
          · obtain ⟨g, cap, w1, e, hb, ho1, hg1, hw1⟩ := hw.ap dA nS
            exact (hE2 w1 w hb hg1).c0.trans (by rw [hfr])
          · have hb := hw.be dA
            exact (hE.later hb).c0.trans (by rw [hfr])
        exact dw.s_val (dw.gd_of ho rfl) (x_load3 (dw.op_of ho rfl) ((hf.eval 4 (hd 4 (by kernel_rfl)) (t := 42) rfl).trans (hx 4 (hd 4 (by kernel_rfl)) _ rfl)) hq) (hk _ w (fun u hu => by cases hu; rfl) (hw.plain (by decide) (by decide) (by decide) _))
    | 6, _ => intro d vals a w o ho hn hd hdl hcl hf hx hw K Q' E hk; exact dw.s_val (dw.gd_of ho rfl) ((dw.x_move (dw.op_of ho rfl)).trans (by rw [((hf.base 5 fun i hi => (by decide +kernel : ∀ i, i < opsW.size → dw.slot opsW i ≠ some 5) i (hdl i hi)).trans e3)])) (hk _ w (fun u hu => by cases hu; rfl) (hw.plain (by decide) (by decide) (by decide) _))
    | 7, _ => intro d vals a w o ho hn hd hdl hcl hf hx hw K Q' E hk; exact dw.s_val (dw.gd_of ho rfl) (dw.x_nil (dw.op_of ho rfl) ((hf.eval 6 (hd 6 (by kernel_rfl)) (t := 44) rfl).trans (hx 6 (hd 6 (by kernel_rfl)) _ rfl))) (hk _ w (fun u hu => by cases hu; rfl) (hw.plain (by decide) (by decide) (by decide) _))
    | 8, _ => intro d vals a w o ho hn hd hdl hcl hf hx hw K Q' E hk; exact dw.s_val (dw.gd_of ho rfl) (dw.x_field (dw.op_of ho rfl) ((hf.eval 7 (hd 7 (by kernel_rfl)) (t := 45) rfl).trans (hx 7 (hd 7 (by kernel_rfl)) _ rfl)) (f77_1 _ _)) (hk _ w (fun u hu => by cases hu; rfl) (hw.plain (by decide) (by decide) (by decide) _))
    | 9, _ => intro d vals a w o ho hn hd hdl hcl hf hx hw K Q' E hk; have nA : ¬ d 16 := fun x => hn (needO_9 d hcl x); have hb := hw.be nA; exact dw.s_val (dw.gd_of ho rfl) (x_load73 (dw.op_of ho rfl) ((hf.eval 8 (hd 8 (by kernel_rfl)) (t := 46) rfl).trans (hx 8 (hd 8 (by kernel_rfl)) _ rfl)) (hc w hb)) (hk _ w (fun u hu => by cases hu; rfl) (hw.plain (by decide) (by decide) (by decide) _))
    | 10, _ => intro d vals a w o ho hn hd hdl hcl hf hx hw K Q' E hk; exact dw.s_val (dw.gd_of ho rfl) (dw.x_field (dw.op_of ho rfl) ((hf.base 7 fun i hi => (by decide +kernel : ∀ i, i < opsW.size → dw.slot opsW i ≠ some 7) i (hdl i hi)).trans e6) (f62_0 _ _)) (hk _ w (fun u hu => by cases hu; rfl) (hw.plain (by decide) (by decide) (by decide) _))
    | 11, _ => intro d vals a w o ho hn hd hdl hcl hf hx hw K Q' E hk; have nA : ¬ d 16 := fun x => hn (needO_11 d hcl x); have hb := hw.be nA; exact dw.s_val (dw.gd_of ho rfl) (x_load3 (dw.op_of ho rfl) ((hf.eval 10 (hd 10 (by kernel_rfl)) (t := 48) rfl).trans (hx 10 (hd 10 (by kernel_rfl)) _ rfl)) ((hE.later hb).c0.trans (by rw [hfr]))) (hk _ w (fun u hu => by cases hu; rfl) (hw.plain (by decide) (by decide) (by decide) _))
    | 12, _ => intro d vals a w o ho hn hd hdl hcl hf hx hw K Q' E hk; exact dw.s_val (dw.gd_of ho rfl) (x_index127 (dw.op_of ho rfl) ((hf.eval 9 (hd 9 (by kernel_rfl)) (t := 47) rfl).trans (hx 9 (hd 9 (by kernel_rfl)) _ rfl)) ((hf.eval 11 (hd 11 (by kernel_rfl)) (t := 49) rfl).trans (hx 11 (hd 11 (by kernel_rfl)) _ rfl)) hs) (hk _ w (fun u hu => by cases hu; rfl) (hw.plain (by decide) (by decide) (by decide) _))
    | 13, _ => intro d vals a w o ho hn hd hdl hcl hf hx hw K Q' E hk; have nA : ¬ d 16 := fun x => hn (needO_13 d hcl x); have hb := hw.be nA; exact dw.s_val (dw.gd_of ho rfl) (x_load22 (dw.op_of ho rfl) ((hf.eval 12 (hd 12 (by kernel_rfl)) (t := 50) rfl).trans (hx 12 (hd 12 (by kernel_rfl)) _ rfl)) (hr w hb)) (hk _ w (fun u hu => by cases hu; rfl) (hw.plain (by decide) (by decide) (by decide) _))
    | 14, _ => intro d vals a w o ho hn hd hdl hcl hf hx hw K Q' E hk; have nA : ¬ d 16 := fun x => hn (needO_14 d hcl x); have hb := hw.be nA; exact dw.s_val (dw.gd_of ho rfl) (x_load62 (dw.op_of ho rfl) ((hf.base 7 fun i hi => (by decide +kernel : ∀ i, i < opsW.size → dw.slot opsW i ≠ some 7) i (hdl i hi)).trans e6) (hE.later hb)) (hk _ w (fun u hu => by cases hu; rfl) (hw.plain (by decide) (by decide) (by decide) _))
    | 15, _ =>
        intro d vals a w o ho hn hd hdl hcl hf hx hw K Q' E hk
        have nA : ¬ d 16 := fun x => hn (hcl 16 15 x (by kernel_rfl))
        have nS : ¬ d 18 := fun x => nA (hcl 18 16 x (by kernel_rfl))
        have hb := hw.be nA
        exact dw.s_val (dw.gd_of ho rfl) (x_build22 (dw.op_of ho rfl) ((hf.eval 14 (hd 14 (by kernel_rfl)) (t := 52) rfl).trans (hx 14 (hd 14 (by kernel_rfl)) _ rfl))) (hk _ _ (fun u hu => by cases hu) ⟨fun _ => hb.alloc hb.size _, fun _ _ => ⟨w.heap.size, by rw [dw.upd_same], by simp, (new7 w c.y)⟩, fun x => absurd (x.resolve_left (by decide)) nA, fun x => absurd (x.resolve_left (by decide)) nS⟩)
    | 16, _ =>
        intro d vals a w o ho hn hd hdl hcl hf hx hw K Q' E hk
        have nS : ¬ d 18 := fun x => hn (hcl 18 16 x (by kernel_rfl))
        have hb := hw.be hn
        obtain ⟨g, e, hg, hh⟩ := hw.el (hd 15 (by kernel_rfl)) hn
        have v13 := ((hf.eval 13 (hd 13 (by kernel_rfl)) (t := 51) rfl).trans (hx 13 (hd 13 (by kernel_rfl)) _ rfl))
        have vb := (hf.eval 15 (hd 15 (by kernel_rfl)) (t := 53) rfl).trans e
        refine ow.step_append (dw.gd_of ho rfl) (.tmp 51) (.tmp 53) 84 (dw.op_of ho rfl) 132 (.agg #[.int .i64 0, .int .i64 0, .bool false, .int .u64 0, .int .u64 0, .int .u64 0, .int .u64 0]) 7 56 Tryz.underlying84 info132 rfl (by decide) (by decide) B c.v kk xs g (e7 c.y) v13 vb (hown w hb) rfl hh (one7 c.y) hlen (Nat.le_trans hB hb.size) ?_
        intro g8 cap8 w8 hown8 hgr8 hw8
        exact hk _ _ (fun u hu => by cases hu) ⟨fun x => absurd (.inl rfl) x, fun _ x => absurd (.inl rfl) x, fun _ _ => ⟨g8, cap8, w, by rw [dw.upd_same], hb, hown8, hgr8, hw8⟩, fun x => absurd (x.resolve_left (by decide)) nS⟩
    | 17, _ => intro d vals a w o ho hn hd hdl hcl hf hx hw K Q' E hk; exact dw.s_val (dw.gd_of ho rfl) (x_index127 (dw.op_of ho rfl) ((hf.eval 3 (hd 3 (by kernel_rfl)) (t := 41) rfl).trans (hx 3 (hd 3 (by kernel_rfl)) _ rfl)) ((hf.eval 5 (hd 5 (by kernel_rfl)) (t := 43) rfl).trans (hx 5 (hd 5 (by kernel_rfl)) _ rfl)) hs) (hk _ w (fun u hu => by cases hu; rfl) (hw.plain (by decide) (by decide) (by decide) _))
    | 18, _ =>
        intro d vals a w o ho hn hd hdl hcl hf hx hw K Q' E hk
        obtain ⟨g, cap, w1, e, hb, ho1, hg1, hw1⟩ := hw.ap (hd 16 (by kernel_rfl)) hn
        have vx := ((hf.eval 17 (hd 17 (by kernel_rfl)) (t := 55) rfl).trans (hx 17 (hd 17 (by kernel_rfl)) _ rfl))
        have va := (hf.eval 16 (hd 16 (by kernel_rfl)) (t := 54) rfl).trans e
        obtain ⟨c1, z1⟩ := hst w1 w hb hg1
        exact dw.s_skip (dw.gd_of ho rfl) (x_store22 (dw.op_of ho rfl) vx va c1 z1) (hk _ _ (fun u hu => by cases hu) ⟨fun x => absurd (.inr (hd 16 (by kernel_rfl))) x, fun _ x => absurd (.inr (hd 16 (by kernel_rfl))) x, fun _ x => absurd (.inl rfl) x, fun _ => ⟨g, cap, w1, w, hb, ho1, hg1, hw1, rfl⟩⟩)
    | i + 19, hi => exact absurd hi (by simp [opsW])
  · intro vals w hx hw
    obtain ⟨g, cap, w1, w2, hb, ho, hg, hn, rfl⟩ := hw.fin (by decide)
    exact fin vals g cap w1 w2 hb ho hg hn
theorem foldW (vals : Nat → Value) (a : Act) : dw.fold opsW.toList 0 vals a = ((((((((((((((((((a.put (some 38) (vals 0)).put (some 39) (vals 1)).put (some 40) (vals 2)).put (some 41) (vals 3)).put (some 42) (vals 4)).put (some 43) (vals 5)).put (some 44) (vals 6)).put (some 45) (vals 7)).put (some 46) (vals 8)).put (some 47) (vals 9)).put (some 48) (vals 10)).put (some 49) (vals 11)).put (some 50) (vals 12)).put (some 51) (vals 13)).put (some 52) (vals 14)).put (some 53) (vals 15)).put (some 54) (vals 16)).put (some 55) (vals 17)) := by
  unfold opsW
  simp only [dw.fold, dw.put_none, Nat.zero_add, Nat.reduceAdd]
end Go.Proofs.YthmecbonjkcnmaaGreat.wk
