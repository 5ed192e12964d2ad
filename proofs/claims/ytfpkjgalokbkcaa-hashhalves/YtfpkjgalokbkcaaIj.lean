/-
  Over this program: a hash that a law makes itself: a key and a value more, the statement that draws its order.
-/
import Derived.Test.YtfpkjgalokbkcaaDw
import Derived.Deep.AppendLies
namespace Go.Proofs.Ytfpkjgalokbkcaa.hs
open Go.ChangeShapes Go.WideShapes Go.ChangeAt Go.RowKit
set_option linter.unusedVariables false
set_option maxRecDepth 10000

theorem info27 : (Try.prog.info? 27).map (fun i => (i.zero, i.size, i.bytes)) = some (some (.int .u64 0), 1, 8) := by kernel_rfl
theorem f25_1 (b : Nat) (w : World) : (Instr.fieldAt 25 (.pointer (some ⟨b, 0, none⟩)) 1).run Try.prog w = .ok (.pointer (some ⟨b, 1, none⟩)) w := by go_simp
theorem f25_2 (b : Nat) (w : World) : (Instr.fieldAt 25 (.pointer (some ⟨b, 0, none⟩)) 2).run Try.prog w = .ok (.pointer (some ⟨b, 2, none⟩)) w := by go_simp
section
variable {o : Oper} {a : Act} {w : World}
theorem x_load23 {x : Operand} {p : Addr} {v : Value} (h : o.op = .load 23 x) (hx : a.eval x = .pointer (some p)) (hc : w.cell? p = some v) : (execOp a.eval o).run Try.prog w = .ok (.value v) w := by
  unfold execOp; rw [h]; simp only [hx]; go_simp
theorem x_store23 {x y : Operand} {p : Addr} {u : Value} {g : Option Addr} {n cap : Nat} (h : o.op = .store 23 x y) (hx : a.eval x = .pointer (some p)) (hy : a.eval y = .slice g n cap) (hc : w.cell? p = some u) (hf : w.frozen? p = false) : (execOp a.eval o).run Try.prog w = .ok .skip (w.setCell p (.slice g n cap)) := by
  unfold execOp; rw [h]; simp only [hx, hy]; go_simp
theorem x_build23 {x : Operand} {k : Int} (h : o.op = .buildSlice 23 1 #[(0, x)]) (hx : a.eval x = .int .u64 k) : (execOp a.eval o).run Try.prog w = .ok (.value (.slice (some ⟨w.heap.size, 0, none⟩) 1 1)) (w.alloc (.cells #[.int .u64 k] 27)) := by
  unfold execOp; rw [h]; simp only [List.map_toArray, List.map, hx]; go_simp
theorem x_conv {x : Operand} {n : Nat} (hn : n ≤ 9223372036854775807) (h : o.op = .convert 3 27 x) (hx : a.eval x = .int .i64 (n : Int)) : (execOp a.eval o).run Try.prog w = .ok (.value (.int .u64 (n : Int))) w := by
  unfold execOp; rw [h]; simp only [hx]; go_simp
  exact IntWalk.u64_in _ ⟨by omega, by omega⟩
theorem x_add7 {x : Operand} {n : Nat} (hn : n ≤ 9223372036854775807) (h : o.op = .binOp .add 27 x (.const (.int .u64 7)) 27) (hx : a.eval x = .int .u64 (n : Int)) : (execOp a.eval o).run Try.prog w = .ok (.value (.int .u64 ((n + 7 : Nat) : Int))) w := by
  have e : ((n + 7 : Nat) : Int) = (n : Int) + 7 := by omega
  rw [e]
  unfold execOp; rw [h]; simp only [hx]; go_simp
  exact IntWalk.u64_in _ ⟨by omega, by omega⟩
end
theorem set_heap (w : World) (g : Nat) (cs : Array Value) (t : TypeId) (i : Nat) (v : Value) (h : w.heap[g]? = some (.cells cs t (0, 0))) : (w.setCell ⟨g, i, none⟩ v).heap[g]? = some (.cells (cs.setIfInBounds i v) t (0, 0)) := by
  simp [World.setCell, Array.getElem?_modify, h]
abbrev nl : Value := .slice none 0 0
/-- the hash that is made, with its two rows -/
structure Mk (B hb : Nat) (vk vv : Value) (ks vs : List Nat) (w : World) : Prop where
  box : w.heap[hb]? = some (.cells #[nl, vk, vv] 25 (0, 0))
  ok : w.ownsRow B 27 1 vk ks.length (ks.map qv)
  ov : w.ownsRow B 27 1 vv vs.length (vs.map qv)
  ap : ∀ g, vk.ownBlock = some g → vv.ownBlock ≠ some g
  hB : B ≤ hb
theorem Mk.lt {B hb : Nat} {vk vv : Value} {ks vs : List Nat} {w : World} (h : Mk B hb vk vv ks vs w) : hb < w.heap.size := (Array.getElem?_eq_some_iff.1 h.box).1
theorem Mk.later {B hb : Nat} {vk vv : Value} {ks vs : List Nat} {w w' : World} (h : Mk B hb vk vv ks vs w) (b : Below w.heap.size w w') : Mk B hb vk vv ks vs w' :=
  ⟨(b.block hb h.lt).trans h.box, ow.later h.ok b, ow.later h.ov b, h.ap, h.hB⟩

def ops7_9 : Array Oper := #[
  { dst := some 34, op := Op.fieldAddr 25 (Operand.tmp 5) 1, type := 0, pos := "law.go:98", after := #[], guard := none },
  { dst := some 35, op := Op.load 23 (Operand.tmp 34), type := 23, pos := "law.go:98", after := #[{ on := 0, ground := Ground.data }], guard := none },
  { dst := some 36, op := Op.move (Operand.tmp 6), type := 27, pos := "law.go:98", after := #[], guard := none },
  { dst := some 37, op := Op.buildSlice 23 1 #[(0, Operand.tmp 36)], type := 23, pos := "law.go:98", after := #[{ on := 2, ground := Ground.data }], guard := none },
  { dst := some 38, op := Op.call { callee := Callee.builtin Builtin.append, args := #[Operand.tmp 35, Operand.tmp 37], argTypes := #[23, 23] }, type := 23, pos := "law.go:98", after := #[{ on := 1, ground := Ground.data }, { on := 3, ground := Ground.data }], guard := none },
  { dst := some 39, op := Op.fieldAddr 25 (Operand.tmp 5) 2, type := 0, pos := "law.go:98", after := #[], guard := none },
  { dst := some 40, op := Op.load 23 (Operand.tmp 39), type := 23, pos := "law.go:98", after := #[{ on := 5, ground := Ground.data }], guard := none },
  { dst := some 41, op := Op.move (Operand.tmp 7), type := 3, pos := "law.go:98", after := #[], guard := none },
  { dst := some 42, op := Op.convert 3 27 (Operand.tmp 41), type := 27, pos := "law.go:98", after := #[{ on := 7, ground := Ground.data }], guard := none },
  { dst := some 43, op := Op.binOp BinOp.add 27 (Operand.tmp 42) (Operand.const (Value.int IntKind.u64 7)) 27, type := 27, pos := "law.go:98", after := #[{ on := 8, ground := Ground.data }], guard := none },
  { dst := some 44, op := Op.buildSlice 23 1 #[(0, Operand.tmp 43)], type := 23, pos := "law.go:98", after := #[{ on := 9, ground := Ground.data }], guard := none },
  { dst := some 45, op := Op.call { callee := Callee.builtin Builtin.append, args := #[Operand.tmp 40, Operand.tmp 44], argTypes := #[23, 23] }, type := 23, pos := "law.go:98", after := #[{ on := 6, ground := Ground.data }, { on := 10, ground := Ground.data }, { on := 4, ground := Ground.chain }], guard := none },
  { dst := some 46, op := Op.fieldAddr 25 (Operand.tmp 5) 1, type := 0, pos := "law.go:98", after := #[{ on := 0, ground := Ground.phase }, { on := 1, ground := Ground.phase }, { on := 2, ground := Ground.phase }, { on := 3, ground := Ground.phase }, { on := 4, ground := Ground.phase }, { on := 5, ground := Ground.phase }, { on := 6, ground := Ground.phase }, { on := 7, ground := Ground.textOnly Departure.lateStores }, { on := 8, ground := Ground.textOnly Departure.lateStores }, { on := 9, ground := Ground.textOnly Departure.lateStores }, { on := 10, ground := Ground.textOnly Departure.lateStores }, { on := 11, ground := Ground.textOnly Departure.lateStoresUnsure }], guard := none },
  { dst := none, op := Op.store 23 (Operand.tmp 46) (Operand.tmp 38), type := 0, pos := "law.go:98", after := #[{ on := 12, ground := Ground.data }, { on := 4, ground := Ground.data }, { on := 11, ground := Ground.chain }, { on := 0, ground := Ground.phase }, { on := 1, ground := Ground.phase }, { on := 2, ground := Ground.phase }, { on := 3, ground := Ground.phase }, { on := 4, ground := Ground.phase }, { on := 5, ground := Ground.phase }, { on := 6, ground := Ground.phase }, { on := 7, ground := Ground.textOnly Departure.lateStores }, { on := 8, ground := Ground.textOnly Departure.lateStores }, { on := 9, ground := Ground.textOnly Departure.lateStores }, { on := 10, ground := Ground.textOnly Departure.lateStores }, { on := 11, ground := Ground.textOnly Departure.lateStoresUnsure }], guard := none },
  { dst := some 47, op := Op.fieldAddr 25 (Operand.tmp 5) 2, type := 0, pos := "law.go:98", after := #[{ on := 0, ground := Ground.phase }, { on := 1, ground := Ground.phase }, { on := 2, ground := Ground.phase }, { on := 3, ground := Ground.phase }, { on := 4, ground := Ground.phase }, { on := 5, ground := Ground.phase }, { on := 6, ground := Ground.phase }, { on := 7, ground := Ground.phase }, { on := 8, ground := Ground.phase }, { on := 9, ground := Ground.phase }, { on := 10, ground := Ground.phase }, { on := 11, ground := Ground.phase }, { on := 12, ground := Ground.phase }, { on := 13, ground := Ground.phase }], guard := none },
  { dst := none, op := Op.store 23 (Operand.tmp 47) (Operand.tmp 45), type := 0, pos := "law.go:98", after := #[{ on := 14, ground := Ground.data }, { on := 11, ground := Ground.data }, { on := 13, ground := Ground.chain }, { on := 0, ground := Ground.phase }, { on := 1, ground := Ground.phase }, { on := 2, ground := Ground.phase }, { on := 3, ground := Ground.phase }, { on := 4, ground := Ground.phase }, { on := 5, ground := Ground.phase }, { on := 6, ground := Ground.phase }, { on := 7, ground := Ground.phase }, { on := 8, ground := Ground.phase }, { on := 9, ground := Ground.phase }, { on := 10, ground := Ground.phase }, { on := 11, ground := Ground.phase }, { on := 12, ground := Ground.phase }, { on := 13, ground := Ground.phase }], guard := none }]

structure C79 where
  hb : Nat
  vk : Value
  vv : Value
  k : Nat
  i : Nat
def C79.fix (c : C79) (i : Nat) : Option Value := [some (.pointer (some ⟨c.hb, 1, none⟩)), some c.vk, some (.int .u64 (c.k : Int)), none, none, some (.pointer (some ⟨c.hb, 2, none⟩)), some c.vv, some (.int .i64 (c.i : Int)), some (.int .u64 (c.i : Int)), some (.int .u64 ((c.i + 7 : Nat) : Int)), none, none, some (.pointer (some ⟨c.hb, 1, none⟩)), none, some (.pointer (some ⟨c.hb, 2, none⟩)), none].getD i none
structure W79 (W : World) (B : Nat) (ks vs : List Nat) (c : C79) (d : Nat → Prop) (vals : Nat → Value) (w : World) : Prop where
  be : Below B W w
  sz : W.heap.size ≤ w.heap.size
  bx : ¬ d 13 → w.heap[c.hb]? = some (.cells #[nl, c.vk, c.vv] 25 (0, 0))
  b3 : d 3 → ∃ g, vals 3 = .slice (some ⟨g, 0, none⟩) 1 1 ∧ W.heap.size ≤ g ∧ g < w.heap.size ∧ w.heap[g]? = some (.cells #[qv c.k] 27 (0, 0))
  b10 : d 10 → ∃ g, vals 10 = .slice (some ⟨g, 0, none⟩) 1 1 ∧ W.heap.size ≤ g ∧ g < w.heap.size ∧ w.heap[g]? = some (.cells #[qv (c.i + 7)] 27 (0, 0))
  ka : ¬ d 4 → w.ownsRow B 27 1 c.vk ks.length (ks.map qv)
  kb : d 4 → ∃ g cap, vals 4 = .slice (some ⟨g, 0, none⟩) (ks.length + 1) cap ∧ w.ownsRow B 27 1 (.slice (some ⟨g, 0, none⟩) (ks.length + 1) cap) (ks.length + 1) (ks.map qv ++ [qv c.k]) ∧ (some g = c.vk.ownBlock ∨ W.heap.size ≤ g)
  va : ¬ d 11 → w.ownsRow B 27 1 c.vv vs.length (vs.map qv)
  vb : d 11 → ∃ g cap, vals 11 = .slice (some ⟨g, 0, none⟩) (vs.length + 1) cap ∧ w.ownsRow B 27 1 (.slice (some ⟨g, 0, none⟩) (vs.length + 1) cap) (vs.length + 1) (vs.map qv ++ [qv (c.i + 7)]) ∧ ∀ gk, (vals 4).ownBlock = some gk → gk ≠ g
  s13 : d 13 → ¬ d 15 → w.heap[c.hb]? = some (.cells #[nl, vals 4, c.vv] 25 (0, 0))
  s15 : d 15 → w.heap[c.hb]? = some (.cells #[nl, vals 4, vals 11] 25 (0, 0))
section
variable {W : World} {B : Nat} {ks vs : List Nat} {c : C79} {d : Nat → Prop} {vals : Nat → Value} {w : World}
theorem W79.plain (q : W79 W B ks vs c d vals w) {i : Nat} (h3 : i ≠ 3) (h4 : i ≠ 4) (h10 : i ≠ 10) (h11 : i ≠ 11) (h13 : i ≠ 13) (h15 : i ≠ 15) (v : Value) : W79 W B ks vs c (fun j => j = i ∨ d j) (dw.upd vals i v) w := by
  have n3 : ∀ {j}, j ≠ i → dw.upd vals i v j = vals j := fun h => dw.upd_ne _ _ h
  refine ⟨q.be, q.sz, fun a => q.bx fun b => a (.inr b), fun a => ?_, fun a => ?_, fun a => q.ka fun b => a (.inr b), fun a => ?_, fun a => q.va fun b => a (.inr b), fun a => ?_, fun a b => ?_, fun a => ?_⟩
  · rw [n3 (Ne.symm h3)]; exact q.b3 (a.resolve_left (fun e => h3 e.symm))
  · rw [n3 (Ne.symm h10)]; exact q.b10 (a.resolve_left (fun e => h10 e.symm))
  · rw [n3 (Ne.symm h4)]; exact q.kb (a.resolve_left (fun e => h4 e.symm))
  · rw [n3 (Ne.symm h11), n3 (Ne.symm h4)]; exact q.vb (a.resolve_left (fun e => h11 e.symm))
  · rw [n3 (Ne.symm h4)]; exact q.s13 (a.resolve_left (fun e => h13 e.symm)) (fun x => b (.inr x))
  · rw [n3 (Ne.symm h4), n3 (Ne.symm h11)]; exact q.s15 (a.resolve_left (fun e => h15 e.symm))
end
theorem own_low {W : World} {B e sz n : Nat} {v : Value} {xs : List Value} (h : W.ownsRow B e sz v n xs) (hB : B ≤ W.heap.size) {W' : World} (hg : W.grownBy W' v.ownBlock) : Below B W W' :=
  ⟨hg.os, hg.tape, hg.output, hg.size, fun g hgB => hg.block g (by omega) (fun e => by have := (ow.lt h e.symm).1; omega)⟩
theorem set_low {B : Nat} (w : World) (hb i : Nat) (v : Value) (h : B ≤ hb) : Below B w (w.setCell ⟨hb, i, none⟩ v) :=
  ⟨rfl, rfl, rfl, by simp, fun g hg => Below.heap_setCell _ _ _ _ (by show g ≠ hb; omega)⟩
section
variable {W : World} {B : Nat} {ks vs : List Nat} {c : C79} {d : Nat → Prop} {vals : Nat → Value} {w w' : World}
theorem W79.grow (q : W79 W B ks vs c d vals w) (hB : B ≤ W.heap.size) (b : Below w.heap.size w w') : W79 W B ks vs c d vals w' := by
  have hz := q.sz
  have lt : ∀ {o}, w.heap[c.hb]? = some o → w'.heap[c.hb]? = some o := fun h => (b.block _ (Array.getElem?_eq_some_iff.1 h).1).trans h
  refine ⟨q.be.trans (b.mono (by omega)), Nat.le_trans hz b.size, fun a => lt (q.bx a), fun a => ?_, fun a => ?_, fun a => ow.later (q.ka a) b, fun a => ?_, fun a => ow.later (q.va a) b, fun a => ?_, fun a x => lt (q.s13 a x), fun a => lt (q.s15 a)⟩
  · obtain ⟨g, e, h1, h2, h3⟩ := q.b3 a; exact ⟨g, e, h1, Nat.lt_of_lt_of_le h2 b.size, (b.block g h2).trans h3⟩
  · obtain ⟨g, e, h1, h2, h3⟩ := q.b10 a; exact ⟨g, e, h1, Nat.lt_of_lt_of_le h2 b.size, (b.block g h2).trans h3⟩
  · obtain ⟨g, cap, e, h1, h2⟩ := q.kb a; exact ⟨g, cap, e, ow.later h1 b, h2⟩
  · obtain ⟨g, cap, e, h1, h2⟩ := q.vb a; exact ⟨g, cap, e, ow.later h1 b, h2⟩
theorem W79.set3 (q : W79 W B ks vs c d vals w) {v : Value} (h : ∃ g, v = .slice (some ⟨g, 0, none⟩) 1 1 ∧ W.heap.size ≤ g ∧ g < w.heap.size ∧ w.heap[g]? = some (.cells #[qv c.k] 27 (0, 0))) : W79 W B ks vs c (fun j => j = 3 ∨ d j) (dw.upd vals 3 v) w := by
  have n3 : ∀ {j}, j ≠ 3 → dw.upd vals 3 v j = vals j := fun h => dw.upd_ne _ _ h
  refine ⟨q.be, q.sz, fun a => q.bx fun b => a (.inr b), fun a => ?_, fun a => ?_, fun a => q.ka fun b => a (.inr b), fun a => ?_, fun a => q.va fun b => a (.inr b), fun a => ?_, fun a b => ?_, fun a => ?_⟩
  · rw [dw.upd_same]; exact h
  · rw [n3 (by decide)]; exact q.b10 (a.resolve_left (by decide))
  · rw [n3 (by decide)]; exact q.kb (a.resolve_left (by decide))
  · rw [n3 (by decide), n3 (by decide)]; exact q.vb (a.resolve_left (by decide))
  · rw [n3 (by decide)]; exact q.s13 (a.resolve_left (by decide)) (fun x => b (.inr x))
  · rw [n3 (by decide), n3 (by decide)]; exact q.s15 (a.resolve_left (by decide))
theorem W79.set10 (q : W79 W B ks vs c d vals w) {v : Value} (h : ∃ g, v = .slice (some ⟨g, 0, none⟩) 1 1 ∧ W.heap.size ≤ g ∧ g < w.heap.size ∧ w.heap[g]? = some (.cells #[qv (c.i + 7)] 27 (0, 0))) : W79 W B ks vs c (fun j => j = 10 ∨ d j) (dw.upd vals 10 v) w := by
  have n3 : ∀ {j}, j ≠ 10 → dw.upd vals 10 v j = vals j := fun h => dw.upd_ne _ _ h
  refine ⟨q.be, q.sz, fun a => q.bx fun b => a (.inr b), fun a => ?_, fun a => ?_, fun a => q.ka fun b => a (.inr b), fun a => ?_, fun a => q.va fun b => a (.inr b), fun a => ?_, fun a b => ?_, fun a => ?_⟩
  · rw [n3 (by decide)]; exact q.b3 (a.resolve_left (by decide))
  · rw [dw.upd_same]; exact h
  · rw [n3 (by decide)]; exact q.kb (a.resolve_left (by decide))
  · rw [n3 (by decide), n3 (by decide)]; exact q.vb (a.resolve_left (by decide))
  · rw [n3 (by decide)]; exact q.s13 (a.resolve_left (by decide)) (fun x => b (.inr x))
  · rw [n3 (by decide), n3 (by decide)]; exact q.s15 (a.resolve_left (by decide))
end
set_option maxHeartbeats 1000000 in
theorem reg7_9 {Q : Exit → Act → World → Prop} {a0 : Act} {id : Nat} (hsz : a0.tmps.size = 91) (c : C79) (e5 : a0.eval (.tmp 5) = .pointer (some ⟨c.hb, 0, none⟩)) (e6 : a0.eval (.tmp 6) = .int .u64 (c.k : Int)) (e7 : a0.eval (.tmp 7) = .int .i64 (c.i : Int)) {W : World} {B : Nat} {ks vs : List Nat} (hB : B ≤ W.heap.size) (hlen : ks.length ≤ 1000000) (hvl : vs.length ≤ 1000000) (hi : c.i ≤ 1000000) (hM : Mk B c.hb c.vk c.vv ks vs W)
    (fin : ∀ vals w vk' vv', Mk B c.hb vk' vv' (ks ++ [c.k]) (vs ++ [c.i + 7]) w → Below B W w → Q .normal (dw.fold ops7_9.toList 0 vals a0) w) : (Code.region id ops7_9 true).wp Try.prog Q a0 W := by
  have hkl : ∀ g, c.vk.ownBlock = some g → g < W.heap.size := fun g e => (ow.lt hM.ok e).2
  have hvlt : ∀ g, c.vv.ownBlock = some g → g < W.heap.size := fun g e => (ow.lt hM.ov e).2
  have hhb := hM.lt
  refine dw.region (by kernel_rfl) (by rw [hsz]; kernel_rfl) c.fix (W79 W B ks vs c) (fun vals => ⟨(Below.refl _ _).drew, Nat.le_refl _, fun _ => hM.box, fun x => x.elim, fun x => x.elim, fun _ => hM.ok, fun x => x.elim, fun _ => hM.ov, fun x => x.elim, fun x => x.elim, fun x => x.elim⟩) ?_ ?_
  · intro i hi
    match i, hi with
    | 0, _ =>
        intro d vals a w o ho hn hd hdl hcl hf hx hw K Q' E hk
        exact dw.s_val (dw.gd_of ho rfl) (dw.x_field (dw.op_of ho rfl) ((hf.base 5 fun i hi => (by decide +kernel : ∀ i, i < ops7_9.size → dw.slot ops7_9 i ≠ some 5) i (hdl i hi)).trans e5) (f25_1 _ _)) (hk _ w (fun u hu => by cases hu; rfl) (hw.plain (by decide) (by decide) (by decide) (by decide) (by decide) (by decide) _))
    | 1, _ =>
        intro d vals a w o ho hn hd hdl hcl hf hx hw K Q' E hk
        have nS : ¬ d 13 := fun x => hn (hcl 13 1 x (by kernel_rfl))
        have hq : w.cell? ⟨c.hb, 1, none⟩ = some c.vk := by rw [Lib.cell_of_heap (hw.bx nS)]; rfl
        exact dw.s_val (dw.gd_of ho rfl) (x_load23 (dw.op_of ho rfl) ((hf.eval 0 (hd 0 (by kernel_rfl)) (t := 34) rfl).trans (hx 0 (hd 0 (by kernel_rfl)) _ rfl)) hq) (hk _ w (fun u hu => by cases hu; rfl) (hw.plain (by decide) (by decide) (by decide) (by decide) (by decide) (by decide) _))
    | 2, _ =>
        intro d vals a w o ho hn hd hdl hcl hf hx hw K Q' E hk
        exact dw.s_val (dw.gd_of ho rfl) ((dw.x_move (dw.op_of ho rfl)).trans (by rw [((hf.base 6 fun i hi => (by decide +kernel : ∀ i, i < ops7_9.size → dw.slot ops7_9 i ≠ some 6) i (hdl i hi)).trans e6)])) (hk _ w (fun u hu => by cases hu; rfl) (hw.plain (by decide) (by decide) (by decide) (by decide) (by decide) (by decide) _))
    | 3, _ =>
        intro d vals a w o ho hn hd hdl hcl hf hx hw K Q' E hk
        exact dw.s_val (dw.gd_of ho rfl) (x_build23 (dw.op_of ho rfl) ((hf.eval 2 (hd 2 (by kernel_rfl)) (t := 36) rfl).trans (hx 2 (hd 2 (by kernel_rfl)) _ rfl))) (hk _ _ (fun u hu => by cases hu) ((hw.grow hB (below_alloc w _)).set3 ⟨w.heap.size, rfl, hw.sz, by simp, World.alloc_heap_new w _⟩))
    | 4, _ =>
        intro d vals a w o ho hn hd hdl hcl hf hx hw K Q' E hk
        have n11 : ¬ d 11 := fun x => hn (hcl 11 4 x (by kernel_rfl))
        have n13 : ¬ d 13 := fun x => hn (hcl 13 4 x (by kernel_rfl))
        have n15 : ¬ d 15 := fun x => n13 (hcl 15 13 x (by kernel_rfl))
        have own := hw.ka hn
        have hBw : B ≤ w.heap.size := Nat.le_trans hB hw.sz
        obtain ⟨g, e, hg1, hg2, hg3⟩ := hw.b3 (hd 3 (by kernel_rfl))
        have v1 := ((hf.eval 1 (hd 1 (by kernel_rfl)) (t := 35) rfl).trans (hx 1 (hd 1 (by kernel_rfl)) _ rfl))
        have v3 := (hf.eval 3 (hd 3 (by kernel_rfl)) (t := 37) rfl).trans e
        refine ow.step_append (dw.gd_of ho rfl) (.tmp 35) (.tmp 37) 23 (dw.op_of ho rfl) 27 (.int .u64 0) 1 8 Try.underlying23 info27 rfl (by decide) (by decide) B c.vk ks.length (ks.map qv) g [qv c.k] v1 v3 own rfl (fun j u hu => ?_) (ow.one1 _ rfl) hlen hBw ?_
        · rcases j with _ | j
          · simp at hu
            subst hu
            rw [show ((⟨g, 0, none⟩ : Addr).add 0) = ⟨g, 0, none⟩ from rfl, Lib.cell_of_heap hg3]
            rfl
          · simp at hu
        intro g8 cap8 w8 hown8 hgr8 hw8
        have kept : ∀ x, x < w.heap.size → c.vk.ownBlock ≠ some x → w8.heap[x]? = w.heap[x]? := fun x h1 h2 => hgr8.block x h1 (fun e => h2 e.symm)
        have far : ∀ x, W.heap.size ≤ x → c.vk.ownBlock ≠ some x := fun x h1 e => by have := hkl x e; omega
        refine hk _ _ (fun u hu => by cases hu) ⟨hw.be.trans (own_low own hBw hgr8), Nat.le_trans hw.sz hgr8.size, fun _ => (kept _ (Nat.lt_of_lt_of_le hhb hw.sz) (fun e => ow.type own (hw.bx n13) (by decide) e.symm)).trans (hw.bx n13), fun a => ?_, fun a => ?_, fun a => absurd (.inl rfl) a, fun _ => ⟨g8, cap8, by rw [dw.upd_same], hown8, hw8.imp (fun e => e) (Nat.le_trans hw.sz)⟩, fun _ => ow.keep (hw.va n11) (fun x ex => kept x (ow.lt (hw.va n11) ex).2 (fun e => hM.ap x e ex)), fun a => absurd (a.resolve_left (by decide)) n11, fun a => absurd (a.resolve_left (by decide)) n13, fun a => absurd (a.resolve_left (by decide)) n15⟩
        · rw [dw.upd_ne _ _ (by decide)]
          exact ⟨g, e, hg1, Nat.lt_of_lt_of_le hg2 hgr8.size, (kept g hg2 (far g hg1)).trans hg3⟩
        · rw [dw.upd_ne _ _ (by decide)]
          obtain ⟨g, e, hg1, hg2, hg3⟩ := hw.b10 (a.resolve_left (by decide))
          exact ⟨g, e, hg1, Nat.lt_of_lt_of_le hg2 hgr8.size, (kept g hg2 (far g hg1)).trans hg3⟩
    | 5, _ =>
        intro d vals a w o ho hn hd hdl hcl hf hx hw K Q' E hk
        exact dw.s_val (dw.gd_of ho rfl) (dw.x_field (dw.op_of ho rfl) ((hf.base 5 fun i hi => (by decide +kernel : ∀ i, i < ops7_9.size → dw.slot ops7_9 i ≠ some 5) i (hdl i hi)).trans e5) (f25_2 _ _)) (hk _ w (fun u hu => by cases hu; rfl) (hw.plain (by decide) (by decide) (by decide) (by decide) (by decide) (by decide) _))
    | 6, _ =>
        intro d vals a w o ho hn hd hdl hcl hf hx hw K Q' E hk
        have nS : ¬ d 13 := fun x => hn (hcl 13 6 x (by kernel_rfl))
        have hq : w.cell? ⟨c.hb, 2, none⟩ = some c.vv := by rw [Lib.cell_of_heap (hw.bx nS)]; rfl
        exact dw.s_val (dw.gd_of ho rfl) (x_load23 (dw.op_of ho rfl) ((hf.eval 5 (hd 5 (by kernel_rfl)) (t := 39) rfl).trans (hx 5 (hd 5 (by kernel_rfl)) _ rfl)) hq) (hk _ w (fun u hu => by cases hu; rfl) (hw.plain (by decide) (by decide) (by decide) (by decide) (by decide) (by decide) _))
    | 7, _ =>
        intro d vals a w o ho hn hd hdl hcl hf hx hw K Q' E hk
        exact dw.s_val (dw.gd_of ho rfl) ((dw.x_move (dw.op_of ho rfl)).trans (by rw [((hf.base 7 fun i hi => (by decide +kernel : ∀ i, i < ops7_9.size → dw.slot ops7_9 i ≠ some 7) i (hdl i hi)).trans e7)])) (hk _ w (fun u hu => by cases hu; rfl) (hw.plain (by decide) (by decide) (by decide) (by decide) (by decide) (by decide) _))
    | 8, _ =>
        intro d vals a w o ho hn hd hdl hcl hf hx hw K Q' E hk
        exact dw.s_val (dw.gd_of ho rfl) (x_conv (by omega) (dw.op_of ho rfl) ((hf.eval 7 (hd 7 (by kernel_rfl)) (t := 41) rfl).trans (hx 7 (hd 7 (by kernel_rfl)) _ rfl))) (hk _ w (fun u hu => by cases hu; rfl) (hw.plain (by decide) (by decide) (by decide) (by decide) (by decide) (by decide) _))
    | 9, _ =>
        intro d vals a w o ho hn hd hdl hcl hf hx hw K Q' E hk
        exact dw.s_val (dw.gd_of ho rfl) (x_add7 (by omega) (dw.op_of ho rfl) ((hf.eval 8 (hd 8 (by kernel_rfl)) (t := 42) rfl).trans (hx 8 (hd 8 (by kernel_rfl)) _ rfl))) (hk _ w (fun u hu => by cases hu; rfl) (hw.plain (by decide) (by decide) (by decide) (by decide) (by decide) (by decide) _))
    | 10, _ =>
        intro d vals a w o ho hn hd hdl hcl hf hx hw K Q' E hk
        exact dw.s_val (dw.gd_of ho rfl) (x_build23 (dw.op_of ho rfl) ((hf.eval 9 (hd 9 (by kernel_rfl)) (t := 43) rfl).trans (hx 9 (hd 9 (by kernel_rfl)) _ rfl))) (hk _ _ (fun u hu => by cases hu) ((hw.grow hB (below_alloc w _)).set10 ⟨w.heap.size, rfl, hw.sz, by simp, World.alloc_heap_new w _⟩))
    | 11, _ =>
        intro d vals a w o ho hn hd hdl hcl hf hx hw K Q' E hk
        have n13 : ¬ d 13 := fun x => hn (hcl 13 11 x (by kernel_rfl))
        have n15 : ¬ d 15 := fun x => n13 (hcl 15 13 x (by kernel_rfl))
        have d4 : d 4 := hd 4 (by kernel_rfl)
        have own := hw.va hn
        have hBw : B ≤ w.heap.size := Nat.le_trans hB hw.sz
        obtain ⟨g, e, hg1, hg2, hg3⟩ := hw.b10 (hd 10 (by kernel_rfl))
        obtain ⟨gk, capk, ek, ownk, hgk⟩ := hw.kb d4
        have v1 := ((hf.eval 6 (hd 6 (by kernel_rfl)) (t := 40) rfl).trans (hx 6 (hd 6 (by kernel_rfl)) _ rfl))
        have v3 := (hf.eval 10 (hd 10 (by kernel_rfl)) (t := 44) rfl).trans e
        refine ow.step_append (dw.gd_of ho rfl) (.tmp 40) (.tmp 44) 23 (dw.op_of ho rfl) 27 (.int .u64 0) 1 8 Try.underlying23 info27 rfl (by decide) (by decide) B c.vv vs.length (vs.map qv) g [qv (c.i + 7)] v1 v3 own rfl (fun j u hu => ?_) (ow.one1 _ rfl) hvl hBw ?_
        · rcases j with _ | j
          · simp only [List.getElem?_cons_zero, Option.some.injEq] at hu
            subst hu
            rw [show ((⟨g, 0, none⟩ : Addr).add 0) = ⟨g, 0, none⟩ from rfl, Lib.cell_of_heap hg3]
            rfl
          · simp at hu
        intro g8 cap8 w8 hown8 hgr8 hw8
        have kept : ∀ x, x < w.heap.size → c.vv.ownBlock ≠ some x → w8.heap[x]? = w.heap[x]? := fun x h1 h2 => hgr8.block x h1 (fun e => h2 e.symm)
        have far : ∀ x, W.heap.size ≤ x → c.vv.ownBlock ≠ some x := fun x h1 e => by have := hvlt x e; omega
        have gkl := (ow.lt ownk (show Value.ownBlock _ = some gk from rfl)).2
        have gkn : c.vv.ownBlock ≠ some gk := hgk.elim (fun e => hM.ap gk e.symm) (fun h => far gk h)
        refine hk _ _ (fun u hu => by cases hu) ⟨hw.be.trans (own_low own hBw hgr8), Nat.le_trans hw.sz hgr8.size, fun _ => (kept _ (Nat.lt_of_lt_of_le hhb hw.sz) (fun e => ow.type own (hw.bx n13) (by decide) e.symm)).trans (hw.bx n13), fun a => ?_, fun a => ?_, fun a => absurd (.inr d4) a, fun _ => ⟨gk, capk, by rw [dw.upd_ne _ _ (by decide)]; exact ek, ow.keep ownk (fun x ex => by cases ex; exact kept gk gkl gkn), hgk⟩, fun a => absurd (.inl rfl) a, fun _ => ⟨g8, cap8, by rw [dw.upd_same], hown8, fun y ey => ?_⟩, fun a => absurd (a.resolve_left (by decide)) n13, fun a => absurd (a.resolve_left (by decide)) n15⟩
        · rw [dw.upd_ne _ _ (by decide)]
          obtain ⟨g, e, hg1, hg2, hg3⟩ := hw.b3 (a.resolve_left (by decide))
          exact ⟨g, e, hg1, Nat.lt_of_lt_of_le hg2 hgr8.size, (kept g hg2 (far g hg1)).trans hg3⟩
        · rw [dw.upd_ne _ _ (by decide)]
          exact ⟨g, e, hg1, Nat.lt_of_lt_of_le hg2 hgr8.size, (kept g hg2 (far g hg1)).trans hg3⟩
        · rw [dw.upd_ne _ _ (by decide), ek] at ey
          obtain rfl : gk = y := by cases ey; rfl
          rcases hw8 with h | h
          · exact fun e => gkn (by rw [← h, e])
          · omega
    | 12, _ =>
        intro d vals a w o ho hn hd hdl hcl hf hx hw K Q' E hk
        exact dw.s_val (dw.gd_of ho rfl) (dw.x_field (dw.op_of ho rfl) ((hf.base 5 fun i hi => (by decide +kernel : ∀ i, i < ops7_9.size → dw.slot ops7_9 i ≠ some 5) i (hdl i hi)).trans e5) (f25_1 _ _)) (hk _ w (fun u hu => by cases hu; rfl) (hw.plain (by decide) (by decide) (by decide) (by decide) (by decide) (by decide) _))
    | 13, _ =>
        intro d vals a w o ho hn hd hdl hcl hf hx hw K Q' E hk
        have n15 : ¬ d 15 := fun x => hn (hcl 15 13 x (by kernel_rfl))
        have d4 : d 4 := hd 4 (by kernel_rfl)
        have d11 : d 11 := hd 11 (by kernel_rfl)
        obtain ⟨gk, capk, ek, ownk, hgk⟩ := hw.kb d4
        obtain ⟨gv, capv, ev, ownv, hgv⟩ := hw.vb d11
        have bx := hw.bx hn
        have vx := ((hf.eval 12 (hd 12 (by kernel_rfl)) (t := 46) rfl).trans (hx 12 (hd 12 (by kernel_rfl)) _ rfl))
        have va := (hf.eval 4 d4 (t := 38) rfl).trans ek
        have c1 : w.cell? ⟨c.hb, 1, none⟩ = some c.vk := by rw [Lib.cell_of_heap bx]; rfl
        have z1 : w.frozen? ⟨c.hb, 1, none⟩ = false := by simp [World.frozen?, bx]
        have other : ∀ x o, x ≠ c.hb → w.heap[x]? = o → (w.setCell ⟨c.hb, 1, none⟩ (.slice (some ⟨gk, 0, none⟩) (ks.length + 1) capk)).heap[x]? = o := fun x o h1 h2 => (Below.heap_setCell _ _ _ _ h1).trans h2
        have eo : ∀ j, j ≠ 13 → dw.upd vals 13 undef j = vals j := fun j h => dw.upd_ne _ _ h
        refine dw.s_skip (dw.gd_of ho rfl) (x_store23 (dw.op_of ho rfl) vx va c1 z1) (hk _ _ (fun u hu => by cases hu) ⟨hw.be.trans (set_low w c.hb 1 _ hM.hB), by simpa using hw.sz, fun a => absurd (.inl rfl) a, fun a => ?_, fun a => ?_, fun a => absurd (.inr d4) a, fun _ => ⟨gk, capk, by rw [eo 4 (by decide)]; exact ek, ow.keep ownk (fun x ex => other x _ (fun e => ow.type ownk bx (by decide) (by rw [← e]; exact ex.symm)) rfl), hgk⟩, fun a => absurd (.inr d11) a, fun _ => ⟨gv, capv, by rw [eo 11 (by decide)]; exact ev, ow.keep ownv (fun x ex => other x _ (fun e => ow.type ownv bx (by decide) (by rw [← e]; exact ex.symm)) rfl), by rw [eo 4 (by decide)]; exact hgv⟩, fun _ _ => ?_, fun a => absurd (a.resolve_left (by decide)) n15⟩)
        · rw [eo 3 (by decide)]
          obtain ⟨g, e, hg1, hg2, hg3⟩ := hw.b3 (a.resolve_left (by decide))
          exact ⟨g, e, hg1, by simpa using hg2, other g _ (by omega) hg3⟩
        · rw [eo 10 (by decide)]
          obtain ⟨g, e, hg1, hg2, hg3⟩ := hw.b10 (a.resolve_left (by decide))
          exact ⟨g, e, hg1, by simpa using hg2, other g _ (by omega) hg3⟩
        · rw [eo 4 (by decide), ek, set_heap w c.hb _ _ 1 _ bx]; rfl
    | 14, _ =>
        intro d vals a w o ho hn hd hdl hcl hf hx hw K Q' E hk
        exact dw.s_val (dw.gd_of ho rfl) (dw.x_field (dw.op_of ho rfl) ((hf.base 5 fun i hi => (by decide +kernel : ∀ i, i < ops7_9.size → dw.slot ops7_9 i ≠ some 5) i (hdl i hi)).trans e5) (f25_2 _ _)) (hk _ w (fun u hu => by cases hu; rfl) (hw.plain (by decide) (by decide) (by decide) (by decide) (by decide) (by decide) _))
    | 15, _ =>
        intro d vals a w o ho hn hd hdl hcl hf hx hw K Q' E hk
        have d4 : d 4 := hd 4 (by kernel_rfl)
        have d11 : d 11 := hd 11 (by kernel_rfl)
        have d13 : d 13 := hd 13 (by kernel_rfl)
        obtain ⟨gk, capk, ek, ownk, hgk⟩ := hw.kb d4
        obtain ⟨gv, capv, ev, ownv, hgv⟩ := hw.vb d11
        have bx := hw.s13 d13 hn
        have vx := ((hf.eval 14 (hd 14 (by kernel_rfl)) (t := 47) rfl).trans (hx 14 (hd 14 (by kernel_rfl)) _ rfl))
        have va := (hf.eval 11 d11 (t := 45) rfl).trans ev
        have c1 : w.cell? ⟨c.hb, 2, none⟩ = some c.vv := by rw [Lib.cell_of_heap bx]; rfl
        have z1 : w.frozen? ⟨c.hb, 2, none⟩ = false := by simp [World.frozen?, bx]
        have other : ∀ x o, x ≠ c.hb → w.heap[x]? = o → (w.setCell ⟨c.hb, 2, none⟩ (.slice (some ⟨gv, 0, none⟩) (vs.length + 1) capv)).heap[x]? = o := fun x o h1 h2 => (Below.heap_setCell _ _ _ _ h1).trans h2
        have eo : ∀ j, j ≠ 15 → dw.upd vals 15 undef j = vals j := fun j h => dw.upd_ne _ _ h
        refine dw.s_skip (dw.gd_of ho rfl) (x_store23 (dw.op_of ho rfl) vx va c1 z1) (hk _ _ (fun u hu => by cases hu) ⟨hw.be.trans (set_low w c.hb 2 _ hM.hB), by simpa using hw.sz, fun a => absurd (.inr d13) a, fun a => ?_, fun a => ?_, fun a => absurd (.inr d4) a, fun _ => ⟨gk, capk, by rw [eo 4 (by decide)]; exact ek, ow.keep ownk (fun x ex => other x _ (fun e => ow.type ownk bx (by decide) (by rw [← e]; exact ex.symm)) rfl), hgk⟩, fun a => absurd (.inr d11) a, fun _ => ⟨gv, capv, by rw [eo 11 (by decide)]; exact ev, ow.keep ownv (fun x ex => other x _ (fun e => ow.type ownv bx (by decide) (by rw [← e]; exact ex.symm)) rfl), by rw [eo 4 (by decide)]; exact hgv⟩, fun _ a => absurd (.inl rfl) a, fun _ => ?_⟩)
        · rw [eo 3 (by decide)]
          obtain ⟨g, e, hg1, hg2, hg3⟩ := hw.b3 (a.resolve_left (by decide))
          exact ⟨g, e, hg1, by simpa using hg2, other g _ (by omega) hg3⟩
        · rw [eo 10 (by decide)]
          obtain ⟨g, e, hg1, hg2, hg3⟩ := hw.b10 (a.resolve_left (by decide))
          exact ⟨g, e, hg1, by simpa using hg2, other g _ (by omega) hg3⟩
        · rw [eo 4 (by decide), eo 11 (by decide), ev, set_heap w c.hb _ _ 2 _ bx]; rfl
    | i + 16, hi => exact absurd hi (by simp [ops7_9])
  · intro vals w hx hw
    obtain ⟨gk, capk, ek, ownk, hgk⟩ := hw.kb (by decide)
    obtain ⟨gv, capv, ev, ownv, hgv⟩ := hw.vb (by decide)
    refine fin vals w (vals 4) (vals 11) ⟨hw.s15 (by decide), ?_, ?_, fun g e1 e2 => ?_, hM.hB⟩ hw.be
    · rw [ek, List.length_append, List.map_append]; exact ownk
    · rw [ev, List.length_append, List.map_append]; exact ownv
    · rw [ev] at e2; exact hgv g e1 (by cases e2; rfl)
theorem fold7_9 (vals : Nat → Value) (a : Act) : dw.fold ops7_9.toList 0 vals a = ((((((((((((((a.put (some 34) (vals 0)).put (some 35) (vals 1)).put (some 36) (vals 2)).put (some 37) (vals 3)).put (some 38) (vals 4)).put (some 39) (vals 5)).put (some 40) (vals 6)).put (some 41) (vals 7)).put (some 42) (vals 8)).put (some 43) (vals 9)).put (some 44) (vals 10)).put (some 45) (vals 11)).put (some 46) (vals 12)).put (some 47) (vals 14)) := by
  unfold ops7_9
  simp only [dw.fold, dw.put_none, Nat.zero_add, Nat.reduceAdd]
end Go.Proofs.Ytfpkjgalokbkcaa.hs
