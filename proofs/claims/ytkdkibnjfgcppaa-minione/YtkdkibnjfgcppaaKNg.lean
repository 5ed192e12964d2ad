/-
  Over this program: the dfa that a law makes itself, of a dfa's classes and its states' signs twice: the statement that draws its order.
-/
import Derived.Test.YtkdkibnjfgcppaaKDw
import Derived.Test.YtkdkibnjfgcppaaKAp
import Derived.Test.YtkdkibnjfgcppaaKNe
namespace Go.Proofs.Ytkdkibnjfgcppaa.mi
open Go.ChangeShapes Go.WideShapes Go.ChangeAt Go.RowKit Go.Shelf Go.Maps
set_option linter.unusedVariables false
set_option maxRecDepth 10000

abbrev nl : Value := .slice none 0 0
abbrev clX (d : df.Dfa) : List Nat := (List.range 256).map d.cls
theorem ext_ccs {P : Nat → Prop} {w : World} {d : df.Dfa} {cs : Array Value} {o ao : Option Addr} {cap acap : Nat} (h : df.DAt P w d cs o cap ao acap) : cs.extract 0 256 = ccs (clX d) := by
  apply Array.ext_getElem?
  intro i
  have h1 := h.size
  rw [Array.getElem?_extract]
  unfold ccs
  by_cases hi : i < 256
  · rw [if_pos (by omega), Nat.zero_add, h.cl i hi]; simp [hi]
  · rw [if_neg (by omega), Array.getElem?_eq_none (by simp; omega)]
theorem add_block (a : Addr) (j : Nat) : (a.add j).block = a.block := by unfold Addr.add; split <;> rfl
theorem f26_0 (b : Nat) (w : World) : (Instr.fieldAt 26 (.pointer (some ⟨b, 0, none⟩)) 0).run Try.prog w = .ok (.pointer (some ⟨b, 0, none⟩)) w := by go_simp
theorem f26_2 (b : Nat) (w : World) : (Instr.fieldAt 26 (.pointer (some ⟨b, 0, none⟩)) 2).run Try.prog w = .ok (.pointer (some ⟨b, 257, none⟩)) w := by go_simp
section
variable {o : Oper} {a : Act} {w : World}
theorem x_load22 {x : Operand} {g : Nat} {cs : Array Value} (h : o.op = .load 22 x) (hx : a.eval x = .pointer (some ⟨g, 0, none⟩)) (hs : cs.size = 258) (hb : df.DBox w g cs) : (execOp a.eval o).run Try.prog w = .ok (.value (.agg (cs.extract 0 256))) w := by
  unfold execOp
  simp only [h, hx, Instr.loadAt, Instr.sureAddr, Sem.run_bind, Sem.run_pure, Result.andThen_ok, df.run_load22 w g cs hb hs]
theorem x_none24 (h : o.op = .buildSlice 24 0 #[]) : (execOp a.eval o).run Try.prog w = .ok (.value (.slice (some ⟨w.heap.size, 0, none⟩) 0 0)) (w.alloc (.cells #[] 4)) := by
  have e : (Instr.buildSlice 24 0 #[]).run Try.prog w = .ok (.slice (some ⟨w.heap.size, 0, none⟩) 0 0) (w.alloc (.cells #[] 4)) := by kernel_rfl
  unfold execOp
  rw [h]
  simp [e, Result.andThen]
theorem x_built26 {x y : Operand} {v u : Value} {cells : Array Value} (h : o.op = .build 26 #[(0, x), (2, y)]) (hx : a.eval x = v) (hy : a.eval y = u) (hb : Try.prog.built 26 [(0, v), (2, u)] = some cells) : (execOp a.eval o).run Try.prog w = .ok (.value (.agg cells)) w := by
  have e := run_build (P := Try.prog) w 26 #[(0, v), (2, u)] cells hb
  unfold execOp
  rw [h]
  simp only [List.map_toArray, List.map_cons, List.map_nil, hx, hy, Sem.run_bind, e, Result.andThen_ok, Sem.run_pure]
theorem x_alloc26 (h : o.op = .alloc 26) : (execOp a.eval o).run Try.prog w = .ok (.value (.pointer (some ⟨w.heap.size, 0, none⟩))) (w.alloc (.cells z26 26)) := by
  have hz := zero26 w
  unfold execOp
  rw [h]
  simp only []
  go_simp
theorem x_store26 {x y : Operand} {g : Nat} {cells old : Array Value} (h : o.op = .store 26 x y) (hx : a.eval x = .pointer (some ⟨g, 0, none⟩)) (hy : a.eval y = .agg cells) (hg : w.heap[g]? = some (.cells old 26 (0, 0))) (hs : cells.size = 258) (ho : old.size = 258) (h1 : cells.all (·.oneCell') = true) : (execOp a.eval o).run Try.prog w = .ok .skip (w.setRow g cells) := by
  have e := run_storeVar_row (P := Try.prog) w g 26 26 old cells hg (df.info26 cells hs) (by omega) h1
  unfold execOp
  simp only [h, hx, hy, Instr.storeAt, Instr.sureAddr, Sem.run_bind, Sem.run_pure, Result.andThen_ok, e]
end
theorem app24L {w : World} {K : Nat} {v : Value} {l l2 : List Bool} {n m cap : Nat} {p : Addr} (hl : l.length = n) (hm : l2.length = m) (hm1 : 0 < m)
    (ho : w.ownsRow K 4 1 v n (l.map Value.bool)) (hc : ∀ j (h : j < l2.length), w.cell? (p.add j) = some (.bool l2[j])) (hn : n + m ≤ 100000) (hK : K ≤ w.heap.size) :
    ∃ v' w', (Builtin.append_ #[24, 24] 24 #[v, .slice (some p) m cap]).run Try.prog w = .ok v' w' ∧ w'.ownsRow K 4 1 v' (n + m) ((l ++ l2).map Value.bool) ∧ w.grownBy w' v.ownBlock := by
  obtain ⟨i0, hi0, hz0, hz1, hz2⟩ := info_parts info4
  obtain ⟨v', w', e, h1, h2, _, h4⟩ := run_append_own_at (P := Try.prog) w K 24 24 4 i0 (.bool false) 1 1 Try.underlying24 hi0 hz0 hz1 hz2 rfl (by omega) v n (l.map Value.bool) ho p m cap (l2.map Value.bool) (by simp [hm]) (fun j u hu => by
    rw [List.getElem?_map] at hu
    by_cases hj : j < l2.length
    · rw [List.getElem?_eq_getElem hj] at hu
      rw [hc j hj]; exact hu
    · rw [List.getElem?_eq_none (by omega)] at hu; cases hu) (fun u hu => by
    obtain ⟨b, _, rfl⟩ := List.mem_map.1 hu
    rfl) (by unfold maxLen; omega) (by omega) hK
  exact ⟨v', w', e, by rw [List.map_append]; exact h1, h2⟩
theorem built26_02 (X : List Nat) (hX : X.length = 256) (s : Value) (hss : s.cells = #[s]) : ∃ cells, Try.prog.built 26 [(0, .agg (ccs X)), (2, s)] = some cells ∧ DCells cells X nl s := by
  have e : ∀ parts, Try.prog.built 26 parts = Instr.fill (fun i => (#[(0, 256), (256, 1), (257, 1)] : Array (Nat × Nat))[i]?) z26 parts := fun parts => by kernel_rfl
  rw [e, fill1 _ _ 0 0 256 (.agg (ccs X)) _ rfl (by show (ccs X).size = 256; rw [ccs_size, hX]) (by rw [z26_size]; omega)]
  rw [fill1 _ _ 2 257 1 s _ rfl (by rw [hss]; rfl) (by rw [lay_size, z26_size]; omega)]
  refine ⟨_, rfl, ?_⟩
  have hcl : (Value.agg (ccs X)).cells.toList = (ccs X).toList := rfl
  have hlen : (ccs X).toList.length = 256 := by simp [ccs_size, hX]
  rw [hcl, hss]
  have g1 : ∀ i, (List.foldl (fun cs (x : Value × Nat) => cs.setIfInBounds (0 + x.2) x.1) z26 (ccs X).toList.zipIdx)[i]? = if i < 256 then (ccs X)[i]? else z26[i]? := fun i => by
    rw [lay_get (ccs X).toList 0 0 z26 i, hlen, z26_size]
    by_cases h : i < 256
    · rw [if_pos (by omega), if_pos h]; simp
    · rw [if_neg (by omega), if_neg h]
  have hsz : (List.foldl (fun cs (x : Value × Nat) => cs.setIfInBounds (0 + x.2) x.1) z26 (ccs X).toList.zipIdx).size = 258 := by rw [lay_size, z26_size]
  have g2 : ∀ i, (List.foldl (fun cs (x : Value × Nat) => cs.setIfInBounds (257 + x.2) x.1) (List.foldl (fun cs (x : Value × Nat) => cs.setIfInBounds (0 + x.2) x.1) z26 (ccs X).toList.zipIdx) (#[s] : Array Value).toList.zipIdx)[i]? = if i = 257 then some s else if i < 256 then (ccs X)[i]? else z26[i]? := fun i => by
    rw [lay_get _ 0 257 _ i, hsz]
    by_cases h : i = 257
    · subst h; rw [if_pos (by simp), if_pos rfl]; simp
    · rw [if_neg (by simp; omega), if_neg h]; exact g1 i
  refine ⟨by rw [lay_size, hsz], fun i hi => ?_, ?_, ?_⟩
  · refine (g2 i).trans ?_; rw [if_neg (by omega), if_pos hi]; simp [ccs]
  · refine (g2 256).trans ?_; rw [if_neg (by omega), if_neg (by omega)]; exact z26_nil 256 (by omega) (by omega)
  · refine (g2 257).trans ?_; rw [if_pos rfl]

def ops7_9 : Array Oper := #[
  { dst := some 47, op := Op.fieldAddr 26 (Operand.tmp 1) 0, type := 0, pos := "law.go:104", after := #[], guard := none },
  { dst := some 48, op := Op.load 22 (Operand.tmp 47), type := 22, pos := "law.go:104", after := #[{ on := 0, ground := Ground.data }], guard := none },
  { dst := some 49, op := Op.buildSlice 24 0 #[], type := 24, pos := "law.go:104", after := #[], guard := none },
  { dst := some 50, op := Op.fieldAddr 26 (Operand.tmp 1) 2, type := 0, pos := "law.go:104", after := #[], guard := none },
  { dst := some 51, op := Op.load 24 (Operand.tmp 50), type := 24, pos := "law.go:104", after := #[{ on := 3, ground := Ground.data }], guard := none },
  { dst := some 52, op := Op.call { callee := Callee.builtin Builtin.append, args := #[Operand.tmp 49, Operand.tmp 51], argTypes := #[24, 24] }, type := 24, pos := "law.go:104", after := #[{ on := 2, ground := Ground.data }, { on := 4, ground := Ground.data }], guard := none },
  { dst := some 53, op := Op.fieldAddr 26 (Operand.tmp 1) 2, type := 0, pos := "law.go:104", after := #[], guard := none },
  { dst := some 54, op := Op.load 24 (Operand.tmp 53), type := 24, pos := "law.go:104", after := #[{ on := 6, ground := Ground.data }], guard := none },
  { dst := some 55, op := Op.call { callee := Callee.builtin Builtin.append, args := #[Operand.tmp 52, Operand.tmp 54], argTypes := #[24, 24] }, type := 24, pos := "law.go:104", after := #[{ on := 5, ground := Ground.data }, { on := 7, ground := Ground.data }, { on := 5, ground := Ground.chain }], guard := none },
  { dst := some 56, op := Op.build 26 #[(0, Operand.tmp 48), (2, Operand.tmp 55)], type := 26, pos := "law.go:104", after := #[{ on := 1, ground := Ground.data }, { on := 8, ground := Ground.data }], guard := none },
  { dst := some 7, op := Op.alloc 26, type := 0, pos := "law.go:104", after := #[], guard := none },
  { dst := none, op := Op.store 26 (Operand.tmp 7) (Operand.tmp 56), type := 0, pos := "law.go:104", after := #[{ on := 10, ground := Ground.data }, { on := 9, ground := Ground.data }, { on := 8, ground := Ground.chain }, { on := 0, ground := Ground.phase }, { on := 1, ground := Ground.phase }, { on := 2, ground := Ground.phase }, { on := 3, ground := Ground.phase }, { on := 4, ground := Ground.phase }, { on := 5, ground := Ground.phase }, { on := 6, ground := Ground.phase }, { on := 7, ground := Ground.phase }, { on := 8, ground := Ground.phase }, { on := 9, ground := Ground.phase }, { on := 10, ground := Ground.phase }], guard := none }]

/-- what is fixed beforehand -/
structure C9 where
  gb : Nat
  X : List Nat
  ao : Addr
  n : Nat
  acap : Nat
def C9.fix (c : C9) (i : Nat) : Option Value := [some (.pointer (some ⟨c.gb, 0, none⟩)), some (.agg (ccs c.X)), none, some (.pointer (some ⟨c.gb, 257, none⟩)), some (.slice (some c.ao) c.n c.acap), none, some (.pointer (some ⟨c.gb, 257, none⟩)), some (.slice (some c.ao) c.n c.acap), none, none, none, none].getD i none
structure W9 (W : World) (acc : List Bool) (c : C9) (d : Nat → Prop) (vals : Nat → Value) (w : World) : Prop where
  be : Below W.heap.size W w
  r2 : d 2 → ¬ d 5 → w.ownsRow W.heap.size 4 1 (vals 2) 0 []
  r5 : d 5 → ¬ d 8 → w.ownsRow W.heap.size 4 1 (vals 5) acc.length (acc.map Value.bool)
  r8 : d 8 → w.ownsRow W.heap.size 4 1 (vals 8) (acc.length + acc.length) ((acc ++ acc).map Value.bool)
  c9 : d 9 → ∃ cells, vals 9 = .agg cells ∧ DCells cells c.X nl (vals 8)
  g10 : d 10 → ¬ d 11 → ∃ g, vals 10 = .pointer (some ⟨g, 0, none⟩) ∧ W.heap.size ≤ g ∧ w.heap[g]? = some (.cells z26 26 (0, 0))
  g11 : d 11 → ∃ g, vals 10 = .pointer (some ⟨g, 0, none⟩) ∧ W.heap.size ≤ g ∧ DL w g c.X nl (vals 8)
section
variable {W : World} {acc : List Bool} {c : C9} {d : Nat → Prop} {vals : Nat → Value} {w w' : World}
theorem W9.plain (q : W9 W acc c d vals w) {i : Nat} (h2 : i ≠ 2) (h5 : i ≠ 5) (h8 : i ≠ 8) (h9 : i ≠ 9) (h10 : i ≠ 10) (h11 : i ≠ 11) (v : Value) : W9 W acc c (fun j => j = i ∨ d j) (dw.upd vals i v) w := by
  have n3 : ∀ {j}, j ≠ i → dw.upd vals i v j = vals j := fun h => dw.upd_ne _ _ h
  refine ⟨q.be, fun a b => ?_, fun a b => ?_, fun a => ?_, fun a => ?_, fun a b => ?_, fun a => ?_⟩
  · rw [n3 (Ne.symm h2)]; exact q.r2 (a.resolve_left (Ne.symm h2)) fun x => b (.inr x)
  · rw [n3 (Ne.symm h5)]; exact q.r5 (a.resolve_left (Ne.symm h5)) fun x => b (.inr x)
  · rw [n3 (Ne.symm h8)]; exact q.r8 (a.resolve_left (Ne.symm h8))
  · rw [n3 (Ne.symm h9), n3 (Ne.symm h8)]; exact q.c9 (a.resolve_left (Ne.symm h9))
  · rw [n3 (Ne.symm h10)]; exact q.g10 (a.resolve_left (Ne.symm h10)) fun x => b (.inr x)
  · rw [n3 (Ne.symm h10), n3 (Ne.symm h8)]; exact q.g11 (a.resolve_left (Ne.symm h11))
theorem DL.grow {w w' : World} {g : Nat} {X : List Nat} {nv av : Value} (h : DL w g X nv av) (e : w'.heap[g]? = w.heap[g]?) : DL w' g X nv av := by
  obtain ⟨cells, h1, h2⟩ := h
  exact ⟨cells, e.trans h1, h2⟩
theorem W9.grow (q : W9 W acc c d vals w) (b : Below w.heap.size w w') : W9 W acc c d vals w' := by
  refine ⟨df.chain q.be b, fun x y => ow.later (q.r2 x y) b, fun x y => ow.later (q.r5 x y) b, fun x => ow.later (q.r8 x) b, q.c9, fun x y => ?_, fun x => ?_⟩
  · obtain ⟨g, e, h1, h2⟩ := q.g10 x y
    exact ⟨g, e, h1, (b.block g (Array.getElem?_eq_some_iff.1 h2).1).trans h2⟩
  · obtain ⟨g, e, h1, h2⟩ := q.g11 x
    exact ⟨g, e, h1, h2.grow (b.block g h2.lt)⟩
end
theorem own_low {W w : World} {e sz n : Nat} {v : Value} {xs : List Value} (h : w.ownsRow W.heap.size e sz v n xs) (b : Below W.heap.size W w) {w' : World} (hg : w.grownBy w' v.ownBlock) : Below W.heap.size W w' :=
  b.trans ⟨hg.os, hg.tape, hg.output, hg.size, fun g hgB => hg.block g (by have := b.size; omega) (fun e => by have := (ow.lt h e.symm).1; omega)⟩
set_option maxHeartbeats 1000000 in
theorem reg7_9 {Q : Exit → Act → World → Prop} {a0 : Act} {id : Nat} (hsz : a0.tmps.size = 117) (c : C9) {W : World} {acc : List Bool} {cs : Array Value} (e1 : a0.eval (.tmp 1) = .pointer (some ⟨c.gb, 0, none⟩)) (hs : cs.size = 258) (hX : c.X.length = 256) (hext : cs.extract 0 256 = ccs c.X) (hbx : df.DBox W c.gb cs) (hac : cs[257]? = some (.slice (some c.ao) c.n c.acap)) (hnl : acc.length = c.n) (h1 : 0 < acc.length) (hn4 : acc.length ≤ 400) (hab : c.ao.block < W.heap.size) (hcell : ∀ j (h : j < acc.length), W.cell? (c.ao.add j) = some (.bool acc[j]))
    (fin : ∀ vals w g, vals 10 = .pointer (some ⟨g, 0, none⟩) → W.heap.size ≤ g → DL w g c.X nl (vals 8) → w.ownsRow W.heap.size 4 1 (vals 8) (acc.length + acc.length) ((acc ++ acc).map Value.bool) → Below W.heap.size W w → Q .normal (dw.fold ops7_9.toList 0 vals a0) w) : (Code.region id ops7_9 true).wp Try.prog Q a0 W := by
  refine dw.region (by kernel_rfl) (by rw [hsz]; kernel_rfl) c.fix (W9 W acc c) (fun vals => ⟨(Below.refl _ _).drew, fun x => x.elim, fun x => x.elim, fun x => x.elim, fun x => x.elim, fun x => x.elim, fun x => x.elim⟩) ?_ ?_
  · intro i hi
    match i, hi with
    | 0, _ =>
        intro d vals a w o ho hn hd hdl hcl hf hx hw K Q' E hk
        exact dw.s_val (dw.gd_of ho rfl) (dw.x_field (dw.op_of ho rfl) ((hf.base 1 fun i hi => (by decide +kernel : ∀ i, i < ops7_9.size → dw.slot ops7_9 i ≠ some 1) i (hdl i hi)).trans e1) (f26_0 _ _)) (hk _ w (fun u hu => by cases hu; rfl) (hw.plain (by decide) (by decide) (by decide) (by decide) (by decide) (by decide) _))
    | 1, _ =>
        intro d vals a w o ho hn hd hdl hcl hf hx hw K Q' E hk
        have bx : df.DBox w c.gb cs := hbx.later hw.be
        have e2 := x_load22 (dw.op_of ho rfl) ((hf.eval 0 (hd 0 (by kernel_rfl)) (t := 47) rfl).trans (hx 0 (hd 0 (by kernel_rfl)) _ rfl)) hs bx
        rw [hext] at e2
        exact dw.s_val (dw.gd_of ho rfl) e2 (hk _ w (fun u hu => by cases hu; rfl) (hw.plain (by decide) (by decide) (by decide) (by decide) (by decide) (by decide) _))
    | 2, _ =>
        intro d vals a w o ho hn hd hdl hcl hf hx hw K Q' E hk
        have b := below_alloc w (.cells #[] 4)
        have hg := hw.grow b
        have n5 : ¬ d 5 := fun x => hn (hcl 5 2 x (by kernel_rfl))
        refine dw.s_val (dw.gd_of ho rfl) (x_none24 (dw.op_of ho rfl)) (hk _ _ (fun u hu => by cases hu) ⟨hg.be, fun _ _ => ?_, fun x _ => absurd (x.resolve_left (by decide)) n5, fun x => ?_, fun x => ?_, fun x y => ?_, fun x => ?_⟩)
        · rw [dw.upd_same]; exact World.ownsRow_made w #[] 0 hw.be.size (Nat.zero_le _) rfl
        · rw [dw.upd_ne _ _ (by decide)]; exact hg.r8 (x.resolve_left (by decide))
        · rw [dw.upd_ne _ _ (by decide), dw.upd_ne _ _ (by decide)]; exact hg.c9 (x.resolve_left (by decide))
        · rw [dw.upd_ne _ _ (by decide)]; exact hg.g10 (x.resolve_left (by decide)) fun z => y (.inr z)
        · rw [dw.upd_ne _ _ (by decide), dw.upd_ne _ _ (by decide)]; exact hg.g11 (x.resolve_left (by decide))
    | 3, _ =>
        intro d vals a w o ho hn hd hdl hcl hf hx hw K Q' E hk
        exact dw.s_val (dw.gd_of ho rfl) (dw.x_field (dw.op_of ho rfl) ((hf.base 1 fun i hi => (by decide +kernel : ∀ i, i < ops7_9.size → dw.slot ops7_9 i ≠ some 1) i (hdl i hi)).trans e1) (f26_2 _ _)) (hk _ w (fun u hu => by cases hu; rfl) (hw.plain (by decide) (by decide) (by decide) (by decide) (by decide) (by decide) _))
    | 4, _ =>
        intro d vals a w o ho hn hd hdl hcl hf hx hw K Q' E hk
        have bx : df.DBox w c.gb cs := hbx.later hw.be
        have hq : w.cell? ⟨c.gb, 257, none⟩ = some (.slice (some c.ao) c.n c.acap) := by rw [Lib.cell_of_heap bx]; exact hac
        exact dw.s_val (dw.gd_of ho rfl) (x_load24 (dw.op_of ho rfl) ((hf.eval 3 (hd 3 (by kernel_rfl)) (t := 50) rfl).trans (hx 3 (hd 3 (by kernel_rfl)) _ rfl)) hq) (hk _ w (fun u hu => by cases hu; rfl) (hw.plain (by decide) (by decide) (by decide) (by decide) (by decide) (by decide) _))
    | 5, _ =>
        intro d vals a w o ho hn hd hdl hcl hf hx hw K Q' E hk
        have n8 : ¬ d 8 := fun x => hn (hcl 8 5 x (by kernel_rfl))
        have n9 : ¬ d 9 := fun x => n8 (hcl 9 8 x (by kernel_rfl))
        have n11 : ¬ d 11 := fun x => n9 (hcl 11 9 x (by kernel_rfl))
        have own := hw.r2 (hd 2 (by kernel_rfl)) hn
        have hc2 : ∀ j (h : j < acc.length), w.cell? (c.ao.add j) = some (.bool acc[j]) := fun j h => by
          have := hcell j h
          rw [← this]
          exact hw.be.cell (p := c.ao.add j) (by rw [add_block]; exact hab)
        have v1 := hf.eval 2 (hd 2 (by kernel_rfl)) (t := 49) rfl
        have v2 := ((hf.eval 4 (hd 4 (by kernel_rfl)) (t := 51) rfl).trans (hx 4 (hd 4 (by kernel_rfl)) _ rfl))
        obtain ⟨v', w', e, ho2, hg2⟩ := app24L (n := 0) (l := []) (l2 := acc) (cap := c.acap) (p := c.ao) rfl rfl h1 own hc2 (by omega) hw.be.size
        rw [hnl] at e
        have kept : ∀ (g : Nat) (cs : Array Value), w.heap[g]? = some (.cells cs 26 (0, 0)) → w'.heap[g]? = w.heap[g]? := fun g cs h => hg2.block g (Array.getElem?_eq_some_iff.1 h).1 (ow.type own h (by decide))
        refine dw.s_val (dw.gd_of ho rfl) (x_app24 (dw.op_of ho rfl) (by have := congrArg (Option.map (·.type)) ho; simpa [ops7_9] using this.symm) v1 v2 e) (hk _ _ (fun u hu => by cases hu) ⟨own_low own hw.be hg2, fun _ y => absurd (.inl rfl) y, fun _ _ => ?_, fun x => absurd (x.resolve_left (by decide)) n8, fun x => absurd (x.resolve_left (by decide)) n9, fun x y => ?_, fun x => ?_⟩)
        · rw [dw.upd_same]; rw [Nat.zero_add, List.nil_append] at ho2; exact ho2
        · rw [dw.upd_ne _ _ (by decide)]
          obtain ⟨g, e3, h3, h4⟩ := hw.g10 (x.resolve_left (by decide)) n11
          exact ⟨g, e3, h3, (kept g _ h4).trans h4⟩
        · exact absurd (x.resolve_left (by decide)) n11
    | 6, _ =>
        intro d vals a w o ho hn hd hdl hcl hf hx hw K Q' E hk
        exact dw.s_val (dw.gd_of ho rfl) (dw.x_field (dw.op_of ho rfl) ((hf.base 1 fun i hi => (by decide +kernel : ∀ i, i < ops7_9.size → dw.slot ops7_9 i ≠ some 1) i (hdl i hi)).trans e1) (f26_2 _ _)) (hk _ w (fun u hu => by cases hu; rfl) (hw.plain (by decide) (by decide) (by decide) (by decide) (by decide) (by decide) _))
    | 7, _ =>
        intro d vals a w o ho hn hd hdl hcl hf hx hw K Q' E hk
        have bx : df.DBox w c.gb cs := hbx.later hw.be
        have hq : w.cell? ⟨c.gb, 257, none⟩ = some (.slice (some c.ao) c.n c.acap) := by rw [Lib.cell_of_heap bx]; exact hac
        exact dw.s_val (dw.gd_of ho rfl) (x_load24 (dw.op_of ho rfl) ((hf.eval 6 (hd 6 (by kernel_rfl)) (t := 53) rfl).trans (hx 6 (hd 6 (by kernel_rfl)) _ rfl)) hq) (hk _ w (fun u hu => by cases hu; rfl) (hw.plain (by decide) (by decide) (by decide) (by decide) (by decide) (by decide) _))
    | 8, _ =>
        intro d vals a w o ho hn hd hdl hcl hf hx hw K Q' E hk
        have n9 : ¬ d 9 := fun x => hn (hcl 9 8 x (by kernel_rfl))
        have n11 : ¬ d 11 := fun x => n9 (hcl 11 9 x (by kernel_rfl))
        have d5 : d 5 := hd 5 (by kernel_rfl)
        have own := hw.r5 d5 hn
        have hc2 : ∀ j (h : j < acc.length), w.cell? (c.ao.add j) = some (.bool acc[j]) := fun j h => by
          have := hcell j h
          rw [← this]
          exact hw.be.cell (p := c.ao.add j) (by rw [add_block]; exact hab)
        have v1 := hf.eval 5 (hd 5 (by kernel_rfl)) (t := 52) rfl
        have v2 := ((hf.eval 7 (hd 7 (by kernel_rfl)) (t := 54) rfl).trans (hx 7 (hd 7 (by kernel_rfl)) _ rfl))
        obtain ⟨v', w', e, ho2, hg2⟩ := app24L (n := acc.length) (l := acc) (l2 := acc) (cap := c.acap) (p := c.ao) rfl rfl h1 own hc2 (by omega) hw.be.size
        rw [hnl] at e
        have kept : ∀ (g : Nat) (cs : Array Value), w.heap[g]? = some (.cells cs 26 (0, 0)) → w'.heap[g]? = w.heap[g]? := fun g cs h => hg2.block g (Array.getElem?_eq_some_iff.1 h).1 (ow.type own h (by decide))
        refine dw.s_val (dw.gd_of ho rfl) (x_app24 (dw.op_of ho rfl) (by have := congrArg (Option.map (·.type)) ho; simpa [ops7_9] using this.symm) v1 v2 e) (hk _ _ (fun u hu => by cases hu) ⟨own_low own hw.be hg2, fun _ y => absurd (.inr d5) y, fun _ y => absurd (.inl rfl) y, fun _ => ?_, fun x => absurd (x.resolve_left (by decide)) n9, fun x y => ?_, fun x => ?_⟩)
        · rw [dw.upd_same]; exact ho2
        · rw [dw.upd_ne _ _ (by decide)]
          obtain ⟨g, e3, h3, h4⟩ := hw.g10 (x.resolve_left (by decide)) n11
          exact ⟨g, e3, h3, (kept g _ h4).trans h4⟩
        · exact absurd (x.resolve_left (by decide)) n11
    | 9, _ =>
        intro d vals a w o ho hn hd hdl hcl hf hx hw K Q' E hk
        have d8 : d 8 := hd 8 (by kernel_rfl)
        have n11 : ¬ d 11 := fun x => hn (hcl 11 9 x (by kernel_rfl))
        obtain ⟨qo, qc, hq⟩ := own_sl (hw.r8 d8)
        obtain ⟨cells, hb, hC⟩ := built26_02 c.X hX (vals 8) (by rw [hq]; rfl)
        have v1 := ((hf.eval 1 (hd 1 (by kernel_rfl)) (t := 48) rfl).trans (hx 1 (hd 1 (by kernel_rfl)) _ rfl))
        have v2 := hf.eval 8 d8 (t := 55) rfl
        refine dw.s_val (dw.gd_of ho rfl) (x_built26 (dw.op_of ho rfl) v1 v2 hb) (hk _ _ (fun u hu => by cases hu) ⟨hw.be, fun x y => ?_, fun x y => ?_, fun x => ?_, fun x => ?_, fun x y => ?_, fun x => ?_⟩)
        · rw [dw.upd_ne _ _ (by decide)]; exact hw.r2 (x.resolve_left (by decide)) fun z => y (.inr z)
        · rw [dw.upd_ne _ _ (by decide)]; exact hw.r5 (x.resolve_left (by decide)) fun z => y (.inr z)
        · rw [dw.upd_ne _ _ (by decide)]; exact hw.r8 d8
        · rw [dw.upd_same, dw.upd_ne _ _ (by decide)]; exact ⟨cells, rfl, hC⟩
        · rw [dw.upd_ne _ _ (by decide)]; exact hw.g10 (x.resolve_left (by decide)) n11
        · exact absurd (x.resolve_left (by decide)) n11
    | 10, _ =>
        intro d vals a w o ho hn hd hdl hcl hf hx hw K Q' E hk
        have b := below_alloc w (.cells z26 26)
        have hg := hw.grow b
        have n11 : ¬ d 11 := fun x => hn (hcl 11 10 x (by kernel_rfl))
        refine dw.s_val (dw.gd_of ho rfl) (x_alloc26 (dw.op_of ho rfl)) (hk _ _ (fun u hu => by cases hu) ⟨hg.be, fun x y => ?_, fun x y => ?_, fun x => ?_, fun x => ?_, fun x y => ?_, fun x => ?_⟩)
        · rw [dw.upd_ne _ _ (by decide)]; exact hg.r2 (x.resolve_left (by decide)) fun z => y (.inr z)
        · rw [dw.upd_ne _ _ (by decide)]; exact hg.r5 (x.resolve_left (by decide)) fun z => y (.inr z)
        · rw [dw.upd_ne _ _ (by decide)]; exact hg.r8 (x.resolve_left (by decide))
        · rw [dw.upd_ne _ _ (by decide), dw.upd_ne _ _ (by decide)]; exact hg.c9 (x.resolve_left (by decide))
        · rw [dw.upd_same]; exact ⟨w.heap.size, rfl, hw.be.size, heap_alloc_new w _⟩
        · exact absurd (x.resolve_left (by decide)) n11
    | 11, _ =>
        intro d vals a w o ho hn hd hdl hcl hf hx hw K Q' E hk
        have d8 : d 8 := hd 8 (by kernel_rfl)
        have d5 : d 5 := hcl 8 5 d8 (by kernel_rfl)
        have d9 : d 9 := hd 9 (by kernel_rfl)
        have d10 : d 10 := hd 10 (by kernel_rfl)
        obtain ⟨cells, e9, hC⟩ := hw.c9 d9
        obtain ⟨g, e10, hg1, hg2⟩ := hw.g10 d10 hn
        have v1 := (hf.eval 10 d10 (t := 7) rfl).trans e10
        have v2 := (hf.eval 9 d9 (t := 56) rfl).trans e9
        have own := hw.r8 d8
        obtain ⟨qo, qc, hq⟩ := own_sl own
        have h1c : cells.all (·.oneCell') = true := by rw [hq] at hC; exact hC.one
        refine dw.s_skip (dw.gd_of ho rfl) (x_store26 (dw.op_of ho rfl) v1 v2 hg2 hC.size z26_size h1c) (hk _ _ (fun u hu => by cases hu) ⟨below_setRow hw.be hg1 _, fun x y => absurd (.inr d5) y, fun x y => absurd (.inr d8) y, fun x => ?_, fun x => ?_, fun x y => absurd (.inl rfl) y, fun x => ?_⟩)
        · rw [dw.upd_ne _ _ (by decide)]
          exact ow.keep own fun k hk => setRow_other _ _ _ _ (fun e => ow.type own hg2 (by decide) (by rw [← e, hk]))
        · rw [dw.upd_ne _ _ (by decide), dw.upd_ne _ _ (by decide)]; exact hw.c9 d9
        · rw [dw.upd_ne _ _ (by decide), dw.upd_ne _ _ (by decide)]; exact ⟨g, e10, hg1, cells, setRow_heap w g _ cells _ _ hg2, hC⟩
    | i + 12, hi => exact absurd hi (by simp [ops7_9])
  · intro vals w hx hw
    obtain ⟨g, e10, hg1, hg2⟩ := hw.g11 (by decide)
    exact fin vals w g e10 hg1 hg2 (hw.r8 (by decide)) hw.be
theorem fold7_9 (vals : Nat → Value) (a : Act) : dw.fold ops7_9.toList 0 vals a = (((((((((((a.put (some 47) (vals 0)).put (some 48) (vals 1)).put (some 49) (vals 2)).put (some 50) (vals 3)).put (some 51) (vals 4)).put (some 52) (vals 5)).put (some 53) (vals 6)).put (some 54) (vals 7)).put (some 55) (vals 8)).put (some 56) (vals 9)).put (some 7) (vals 10)) := by
  unfold ops7_9
  simp only [dw.fold, dw.put_none, Nat.zero_add, Nat.reduceAdd]
end Go.Proofs.Ytkdkibnjfgcppaa.mi
