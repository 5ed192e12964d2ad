/-
  Over this program: a region that draws its order, walked by hand: what only reads is taken first, calls and stores come up one behind the other.
-/
import Derived.Test.YtlmodfeiphffcaaM03
import Derived.OrdersHeld
namespace Go.Proofs.Ytlmodfeiphffcaa.rg
open Go.RowKit
set_option linter.unusedVariables false

section
variable {ops : Array Oper} {S : World → Prop} {op : Oper} {a : Act} {Q : Exit → Act → World → Prop} {fuel : Nat} {listed : Array Bool} {w : World}
theorem yields_run (hw : Region.wanted op (yielded ops a.tmps) = true) {v : Value} (h : ∀ W, S W → (execOp a.eval op).run Try.prog W = .ok (.value v) W) : YieldsIf Try.prog ops S op v a := .inl ⟨hw, h⟩
theorem yields_not (hw : Region.wanted op (yielded ops a.tmps) = false) : YieldsIf Try.prog ops S op undef a := .inr ⟨hw, rfl⟩
theorem take_op {i : Nat} (k : Nat) {v : Value} (hi : ops[i]? = some op) (hd : op.dst = some k) (hy : YieldsIf Try.prog ops S op v a) (hs : Region.noSelect ops = true) (hf : Region.free .any ops listed i = true) (hr : (Region.ready .any ops listed).contains i = true)
    (hQ : ∀ c a w, Q (.panic c) (a.put (some k) v) w → Q (.panic c) a w) (hS : S w)
    (h : wpAnyH Try.prog .any ops Q S fuel (listed.setIfInBounds i true) (a.put (some k) v) w) : wpAnyH Try.prog .any ops Q S (fuel + 1) listed a w :=
  wpAnyH_take hi hs hf hr (by rw [hd]; exact hQ) hy hS (by rw [hd]; exact h)
theorem call_op (i k : Nat) {f : FuncId} {args : Array Value} (hr : Region.ready .any ops listed = [i]) (ho : ops[i]? = some op) (hd : op.dst = some k) (hw : Region.wanted op (yielded ops a.tmps) = true) (hx : (execOp a.eval op).run Try.prog w = .ok (.enter f args) w)
    (hc : Calls Try.prog f args w fun e w' => ∃ v, e = .returned v ∧ S w' ∧ wpAnyH Try.prog .any ops Q S fuel (listed.setIfInBounds i true) (a.put (some k) v) w') : wpAnyH Try.prog .any ops Q S (fuel + 1) listed a w := by
  refine wpAnyH_all hr (by simp) (fun j hj => ?_)
  simp at hj
  subst hj
  unfold wpOp
  simp only [ho, hw, if_true]
  refine .inl ?_
  unfold Oper.wp
  rw [hx]
  simp only [Oper.upon]
  refine hc.mono ?_
  rintro e w' ⟨v, rfl, h1, h2⟩
  rw [hd]
  exact ⟨h1, h2⟩
theorem eff_op (i k : Nat) {v : Value} {w' : World} (hr : Region.ready .any ops listed = [i]) (ho : ops[i]? = some op) (hd : op.dst = some k) (hw : Region.wanted op (yielded ops a.tmps) = true) (hx : (execOp a.eval op).run Try.prog w = .ok (.value v) w') (hS : S w')
    (h : wpAnyH Try.prog .any ops Q S fuel (listed.setIfInBounds i true) (a.put (some k) v) w') : wpAnyH Try.prog .any ops Q S (fuel + 1) listed a w := by
  refine wpAnyH_all hr (by simp) (fun j hj => ?_)
  simp at hj
  subst hj
  unfold wpOp
  simp only [ho, hw, if_true]
  refine .inl ?_
  unfold Oper.wp
  rw [hx]
  simp only [Oper.upon]
  rw [hd]
  exact ⟨hS, h⟩
/-- a store: any operation that comes up alone -/
theorem wp_op (i : Nat) (hr : Region.ready .any ops listed = [i]) (ho : ops[i]? = some op) (hw : Region.wanted op (yielded ops a.tmps) = true) (h : Oper.wp Try.prog op a w (fun a' w' => S w' ∧ wpAnyH Try.prog .any ops Q S fuel (listed.setIfInBounds i true) a' w') Q) : wpAnyH Try.prog .any ops Q S (fuel + 1) listed a w := by
  refine wpAnyH_all hr (by simp) (fun j hj => ?_)
  simp at hj
  subst hj
  unfold wpOp
  simp only [ho, hw, if_true]
  exact .inl h
theorem done_op (hr : Region.ready .any ops listed = []) (h : Q .normal a w) : wpAnyH Try.prog .any ops Q S fuel listed a w := wpAnyH_done hr h fuel
end
section
variable {o : Oper} {a : Act} {w : World}
theorem x_load3 {x : Operand} {p : Addr} {v : Value} (h : o.op = .load 3 x) (hx : a.eval x = .pointer (some p)) (hc : w.cell? p = some v) : (execOp a.eval o).run Try.prog w = .ok (.value v) w := by
  unfold execOp; rw [h]; simp only [hx]; go_simp
theorem x_load9 {x : Operand} {p : Addr} {v : Value} (h : o.op = .load 9 x) (hx : a.eval x = .pointer (some p)) (hc : w.cell? p = some v) : (execOp a.eval o).run Try.prog w = .ok (.value v) w := by
  unfold execOp; rw [h]; simp only [hx]; go_simp
theorem x_load22 {x : Operand} {p : Addr} {v : Value} (h : o.op = .load 22 x) (hx : a.eval x = .pointer (some p)) (hc : w.cell? p = some v) : (execOp a.eval o).run Try.prog w = .ok (.value v) w := by
  unfold execOp; rw [h]; simp only [hx]; go_simp
theorem x_load23 {x : Operand} {p : Addr} {v : Value} (h : o.op = .load 23 x) (hx : a.eval x = .pointer (some p)) (hc : w.cell? p = some v) : (execOp a.eval o).run Try.prog w = .ok (.value v) w := by
  unfold execOp; rw [h]; simp only [hx]; go_simp
theorem x_load24 {x : Operand} {p : Addr} {v : Value} (h : o.op = .load 24 x) (hx : a.eval x = .pointer (some p)) (hc : w.cell? p = some v) : (execOp a.eval o).run Try.prog w = .ok (.value v) w := by
  unfold execOp; rw [h]; simp only [hx]; go_simp
theorem x_index23 {x y : Operand} {b off n cap i : Nat} (h : o.op = .indexAddr 23 x y) (hx : a.eval x = .slice (some ⟨b, off, none⟩) n cap) (hy : a.eval y = .int .i64 (i : Int)) (hi : i < n) : (execOp a.eval o).run Try.prog w = .ok (.value (.pointer (some ⟨b, off + i, none⟩))) w := by
  have h1 : (i : Int) < (n : Int) := by omega
  unfold execOp; rw [h]; simp only [hx, hy]; go_simp
theorem x_index24 {x y : Operand} {b off n cap i : Nat} (h : o.op = .indexAddr 24 x y) (hx : a.eval x = .slice (some ⟨b, off, none⟩) n cap) (hy : a.eval y = .int .i64 (i : Int)) (hi : i < n) : (execOp a.eval o).run Try.prog w = .ok (.value (.pointer (some ⟨b, off + i, none⟩))) w := by
  have h1 : (i : Int) < (n : Int) := by omega
  unfold execOp; rw [h]; simp only [hx, hy]; go_simp
theorem x_load48 {x : Operand} {g : Nat} {xs : List Nat} (h : o.op = .load 48 x) (hx : a.eval x = .pointer (some ⟨g, 0, none⟩)) (hA : tr.Arr w g xs) : (execOp a.eval o).run Try.prog w = .ok (.value (.agg (tr.cells48 xs))) w := by
  unfold execOp
  simp only [h, hx, Instr.loadAt, Instr.sureAddr, Sem.run_bind, Sem.run_pure, Result.andThen_ok, run_loadVar_row w g 48 48 _ (0, 0) _ hA.1 Try.underlying48 rfl (tr.info48 xs hA.2)]
theorem x_eql9 {x : Operand} {t : ByteArray} (h : o.op = .binOp .eql 9 x (.const (.string ⟨#[]⟩)) 9) (hx : a.eval x = .string t) : (execOp a.eval o).run Try.prog w = .ok (.value (.bool (t.size == 0))) w := by
  have e : t.toList.isEmpty = (t.size == 0) := by
    rw [ByteArray.toList_eq]
    cases t with
    | mk a =>
      cases a with
      | mk l => cases l <;> rfl
  unfold execOp; rw [h]; simp only [hx]; go_simp
end
end Go.Proofs.Ytlmodfeiphffcaa.rg
