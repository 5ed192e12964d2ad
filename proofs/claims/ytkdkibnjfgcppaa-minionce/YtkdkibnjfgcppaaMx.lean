/-
  Over this program: operations that put a bool behind others, one by one.
-/
import Derived.Test.YtkdkibnjfgcppaaMw
namespace Go.Proofs.Ytkdkibnjfgcppaa.mi
open Go.ChangeShapes Go.WideShapes Go.ChangeAt Go.RowKit Go.Shelf Go.Maps
set_option linter.unusedVariables false

section
variable {o : Oper} {a : Act} {w : World}
theorem x_load24 {x : Operand} {g i : Nat} {v : Value} (h : o.op = .load 24 x) (hx : a.eval x = .pointer (some ⟨g, i, none⟩)) (hc : w.cell? ⟨g, i, none⟩ = some v) : (execOp a.eval o).run Try.prog w = .ok (.value v) w := by
  unfold execOp
  rw [h]
  simp only [hx]
  go_simp
theorem x_load4 {x : Operand} {g i : Nat} {v : Value} (h : o.op = .load 4 x) (hx : a.eval x = .pointer (some ⟨g, i, none⟩)) (hc : w.cell? ⟨g, i, none⟩ = some v) : (execOp a.eval o).run Try.prog w = .ok (.value v) w := by
  unfold execOp
  rw [h]
  simp only [hx]
  go_simp
theorem x_idx24 {x y : Operand} {g i n c s : Nat} (h : o.op = .indexAddr 24 x y) (hx : a.eval x = .slice (some ⟨g, i, none⟩) n c) (hy : a.eval y = .int .i64 (s : Int)) (hs : s < n) (hn : n ≤ 1000) : (execOp a.eval o).run Try.prog w = .ok (.value (.pointer (some ⟨g, i + s, none⟩))) w := by
  unfold execOp
  rw [h]
  simp only [hx, hy]
  go_simp
theorem x_build24 {x : Operand} {b : Bool} (h : o.op = .buildSlice 24 1 #[(0, x)]) (hx : a.eval x = .bool b) : (execOp a.eval o).run Try.prog w = .ok (.value (.slice (some ⟨w.heap.size, 0, none⟩) 1 1)) (w.alloc (.cells #[.bool b] 4)) := by
  have e : (Instr.buildSlice 24 1 #[(0, Value.bool b)]).run Try.prog w = .ok (.slice (some ⟨w.heap.size, 0, none⟩) 1 1) (w.alloc (.cells #[.bool b] 4)) := by kernel_rfl
  unfold execOp
  rw [h]
  simp [hx, e, Result.andThen]
theorem x_app24 {x y : Operand} {v u v' : Value} {w' : World} (h : o.op = .call { callee := .builtin .append, args := #[x, y], argTypes := #[24, 24] }) (ht : o.type = 24) (hx : a.eval x = v) (hy : a.eval y = u) (e : (Builtin.append_ #[24, 24] 24 #[v, u]).run Try.prog w = .ok v' w') : (execOp a.eval o).run Try.prog w = .ok (.value v') w' := by
  unfold execOp
  simp only [h, ht, resolve, invoke, builtin, Sem.run_bind, Sem.run_pure, Result.andThen_ok, List.map_toArray, List.map_cons, List.map_nil, hx, hy, e]
theorem x_store24 {x y : Operand} {g i n c : Nat} {q : Option Addr} {u : Value} (h : o.op = .store 24 x y) (hx : a.eval x = .pointer (some ⟨g, i, none⟩)) (hy : a.eval y = .slice q n c) (hc : w.cell? ⟨g, i, none⟩ = some u) (hf : w.frozen? ⟨g, i, none⟩ = false) : (execOp a.eval o).run Try.prog w = .ok .skip (w.setCell ⟨g, i, none⟩ (.slice q n c)) := by
  unfold execOp
  rw [h]
  simp only [hx, hy]
  go_simp
end
theorem info4 : (Try.prog.info? 4).map (fun i => (i.zero, i.size, i.bytes)) = some (some (.bool false), 1, 1) := by kernel_rfl
theorem app24 {w : World} {K g0 : Nat} {v : Value} {l : List Bool} {b : Bool} {n : Nat} (hl : l.length = n)
    (ho : w.ownsRow K 4 1 v n (l.map Value.bool)) (hb : w.heap[g0]? = some (.cells #[.bool b] 4 (0, 0))) (hn : n ≤ 100000) (hK : K ≤ w.heap.size) :
    ∃ q c w', (Builtin.append_ #[24, 24] 24 #[v, .slice (some ⟨g0, 0, none⟩) 1 1]).run Try.prog w = .ok (.slice (some ⟨q, 0, none⟩) (n + 1) c) w' ∧ w'.ownsRow K 4 1 (.slice (some ⟨q, 0, none⟩) (n + 1) c) (n + 1) (l.map Value.bool ++ [Value.bool b]) ∧ w.grownBy w' v.ownBlock ∧ ((Value.slice (some ⟨q, 0, none⟩) (n + 1) c).ownBlock = v.ownBlock ∨ (Value.slice (some ⟨q, 0, none⟩) (n + 1) c).ownBlock = some w.heap.size) := by
  obtain ⟨i0, hi0, hz0, hz1, hz2⟩ := info_parts info4
  obtain ⟨v', w', e, h1, h2, _, h4⟩ := run_append_own_at (P := Try.prog) w K 24 24 4 i0 (.bool false) 1 1 Try.underlying24 hi0 hz0 hz1 hz2 rfl (by omega) v n (l.map Value.bool) ho ⟨g0, 0, none⟩ 1 1 [.bool b] rfl (fun j u hu => by
    rcases j with _ | j
    · simp at hu
      subst hu
      rw [show (⟨g0, 0, none⟩ : Addr).add 0 = ⟨g0, 0, none⟩ from rfl, Lib.cell_of_heap hb]; rfl
    · simp at hu) (by simp [Value.oneCell']) (by unfold maxLen; omega) (by omega) hK
  obtain ⟨g', cap', rfl⟩ := ownsRow_succ h1
  exact ⟨g', cap', w', e, h1, h2, h4⟩
end Go.Proofs.Ytkdkibnjfgcppaa.mi
