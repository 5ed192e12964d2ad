/-
  Over this program: operations that put a row of 256 numbers behind others, one by one.
-/
import Derived.Test.YtkdkibnjfgcppaaMp
import Derived.Great.BuildSlice
namespace Go.Proofs.Ytkdkibnjfgcppaa.mi
open Go.ChangeShapes Go.WideShapes Go.ChangeAt Go.RowKit Go.Shelf Go.Maps
set_option linter.unusedVariables false

theorem info89 : (Try.prog.info? 89).map (fun i => (i.zero, i.size, i.bytes)) = some (some (.agg (ics zr)), 256, 2048) := by kernel_rfl
theorem fill89 (r : List Int) (hr : r.length = 256) (Z : Array Value) (hZ : Z.size = 256) : Instr.fill (fun i => some (i * 256, 256)) Z [(0, .agg (ics r))] = some (ics r) := by
  rw [fill1 _ _ 0 0 256 (.agg (ics r)) [] (by simp) (by show (ics r).size = 256; rw [ics_size, hr]) (by omega)]
  show some _ = some _
  congr 1
  have hcl : (Value.agg (ics r)).cells.toList = (ics r).toList := rfl
  have hlen : (ics r).toList.length = 256 := by simp [ics_size, hr]
  rw [hcl]
  apply Array.ext_getElem?
  intro i
  refine (lay_get (ics r).toList 0 0 Z i).trans ?_
  rw [hlen, hZ]
  by_cases h : i < 256
  · rw [if_pos (by omega)]; simp
  · rw [if_neg (by omega), Array.getElem?_eq_none (by omega), Array.getElem?_eq_none (by rw [ics_size, hr]; omega)]
set_option maxRecDepth 100000 in
theorem app82 {w : World} {K g0 : Nat} {v : Value} {rows : List (List Int)} {r : List Int} (hr : r.length = 256)
    (ho : w.ownsRow K 89 256 v rows.length (flat rows)) (hb : w.heap[g0]? = some (.cells (ics r) 89 (0, 0))) (hn : rows.length ≤ 100000) (hK : K ≤ w.heap.size) :
    ∃ q c w', (Builtin.append_ #[82, 82] 82 #[v, .slice (some ⟨g0, 0, none⟩) 1 1]).run Try.prog w = .ok (.slice (some ⟨q, 0, none⟩) (rows.length + 1) c) w' ∧ w'.ownsRow K 89 256 (.slice (some ⟨q, 0, none⟩) (rows.length + 1) c) (rows ++ [r]).length (flat (rows ++ [r])) ∧ w.grownBy w' v.ownBlock ∧ ((Value.slice (some ⟨q, 0, none⟩) (rows.length + 1) c).ownBlock = v.ownBlock ∨ q = w.heap.size) := by
  obtain ⟨i0, hi0, hz0, hz1, hz2⟩ := info_parts info89
  obtain ⟨v', w', e, h1, h2, _, h4⟩ := run_append_own_at (P := Try.prog) w K 82 82 89 i0 (.agg (ics zr)) 256 2048 Try.underlying82 hi0 hz0 hz1 hz2 (by show (ics zr).size = 256; rw [ics_size]; rfl) (by omega) v rows.length (flat rows) ho ⟨g0, 0, none⟩ 1 1 (ivs r) (by simp [hr]) (fun j u hu => by
    have hadd : (⟨g0, 0, none⟩ : Addr).add j = ⟨g0, j, none⟩ := by unfold Addr.add; split <;> simp_all
    rw [hadd, Lib.cell_of_heap hb]
    simpa [ics] using hu) (fun u hu => by obtain ⟨z, _, rfl⟩ := List.mem_map.1 hu; rfl) (by unfold maxLen; omega) (by omega) hK
  have h1' : w'.ownsRow K 89 256 v' (rows ++ [r]).length (flat (rows ++ [r])) := by
    rw [List.length_append]
    have : flat (rows ++ [r]) = flat rows ++ ivs r := by simp [flat]
    rw [this]
    exact h1
  rcases h1.2 with ⟨_, h0⟩ | ⟨q, c, cur, ev, _⟩
  · omega
  · subst ev
    refine ⟨q, c, w', e, h1', h2, h4.imp id (fun e2 => ?_)⟩
    exact Option.some.inj e2
section
variable {o : Oper} {a : Act} {w : World}
theorem x_build82 {x : Operand} {r : List Int} (hr : r.length = 256) (h : o.op = .buildSlice 82 1 #[(0, x)]) (hx : a.eval x = .agg (ics r)) : (execOp a.eval o).run Try.prog w = .ok (.value (.slice (some ⟨w.heap.size, 0, none⟩) 1 1)) (w.alloc (.cells (ics r) 89)) := by
  obtain ⟨i0, hi0, hz0, hz1, hz2⟩ := info_parts info89
  have e := run_buildSlice (P := Try.prog) w 82 89 1 #[(0, .agg (ics r))] (ics r) i0 (.agg (ics zr)) Try.underlying82 hi0 hz0 (by rw [hz1]; omega) (by rw [hz1]; omega) (by rw [hz1]; exact fill89 r hr _ (by simp))
  unfold execOp
  rw [h]
  simp [hx, e, Result.andThen]
theorem x_load82 {x : Operand} {g i : Nat} {v : Value} (h : o.op = .load 82 x) (hx : a.eval x = .pointer (some ⟨g, i, none⟩)) (hc : w.cell? ⟨g, i, none⟩ = some v) : (execOp a.eval o).run Try.prog w = .ok (.value v) w := by
  unfold execOp
  rw [h]
  simp only [hx]
  go_simp
theorem x_load89 {x : Operand} {g : Nat} {r : List Int} (hr : r.length = 256) (h : o.op = .load 89 x) (hx : a.eval x = .pointer (some ⟨g, 0, none⟩)) (hb : RBox w g r) : (execOp a.eval o).run Try.prog w = .ok (.value (.agg (ics r))) w := by
  unfold execOp
  simp only [h, hx, Instr.loadAt, Instr.sureAddr, Sem.run_bind, Sem.run_pure, Result.andThen_ok, run_loadVar_row w g 89 89 (ics r) (0, 0) _ hb Try.underlying89 rfl (sizeR r hr)]
theorem x_app82 {x y : Operand} {v u v' : Value} {w' : World} (h : o.op = .call { callee := .builtin .append, args := #[x, y], argTypes := #[82, 82] }) (ht : o.type = 82) (hx : a.eval x = v) (hy : a.eval y = u) (e : (Builtin.append_ #[82, 82] 82 #[v, u]).run Try.prog w = .ok v' w') : (execOp a.eval o).run Try.prog w = .ok (.value v') w' := by
  unfold execOp
  simp only [h, ht, resolve, invoke, builtin, Sem.run_bind, Sem.run_pure, Result.andThen_ok, List.map_toArray, List.map_cons, List.map_nil, hx, hy, e]
theorem x_store82 {x y : Operand} {g i n c : Nat} {q : Option Addr} {u : Value} (h : o.op = .store 82 x y) (hx : a.eval x = .pointer (some ⟨g, i, none⟩)) (hy : a.eval y = .slice q n c) (hc : w.cell? ⟨g, i, none⟩ = some u) (hf : w.frozen? ⟨g, i, none⟩ = false) : (execOp a.eval o).run Try.prog w = .ok .skip (w.setCell ⟨g, i, none⟩ (.slice q n c)) := by
  unfold execOp
  rw [h]
  simp only [hx, hy]
  go_simp
end
end Go.Proofs.Ytkdkibnjfgcppaa.mi
namespace Go.Proofs.Ytkdkibnjfgcppaa.rg
open Go.RowKit
theorem op_skip {ops : Array Oper} {op : Oper} {a : Act} {Q : Exit → Act → World → Prop} {w : World} {R : Act → World → Prop} (i : Nat) {w' : World} (ho : ops[i]? = some op) (hd : op.dst = none) (hw : Region.wanted op (yielded ops a.tmps) = true) (hx : (execOp a.eval op).run Try.prog w = .ok .skip w') (h : R a w') : wpOp Try.prog ops Q i R a w := by
  unfold wpOp
  simp only [ho, hw, if_true]
  refine .inl ?_
  unfold Oper.wp
  rw [hx]
  simp only [Oper.upon]
  rw [hd]
  exact h
end Go.Proofs.Ytkdkibnjfgcppaa.rg
