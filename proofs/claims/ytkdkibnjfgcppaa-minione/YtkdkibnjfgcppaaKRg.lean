/-
  Over this program: a region that draws its order, walked by hand.
-/
import Derived.Test.YtkdkibnjfgcppaaKMl
import Derived.OrdersHeld
namespace Go.Proofs.Ytkdkibnjfgcppaa.rg
open Go.RowKit
set_option linter.unusedVariables false

section
variable {ops : Array Oper} {S : World → Prop} {op : Oper} {a : Act} {Q : Exit → Act → World → Prop} {fuel : Nat} {listed : Array Bool} {w : World}
theorem yields_run (hw : Region.wanted op (yielded ops a.tmps) = true) {v : Value} (h : ∀ W, S W → (execOp a.eval op).run Try.prog W = .ok (.value v) W) : YieldsIf Try.prog ops S op v a := .inl ⟨hw, h⟩
theorem yields_not (hw : Region.wanted op (yielded ops a.tmps) = false) : YieldsIf Try.prog ops S op undef a := .inr ⟨hw, rfl⟩
theorem take_op {i : Nat} (k : Nat) {v : Value} (hi : ops[i]? = some op) (hd : op.dst = some k) (hy : YieldsIf Try.prog ops S op v a) (hs : Region.noSelect ops = true) (hf : Region.free .any ops listed i = true) (hr : (Region.ready .any ops listed).contains i = true)
    (hQ : ∀ c a w, Q (.panic c) (a.put (some k) v) w → Q (.panic c) a w) (hS : S w)
    (h : wpAnyH Try.prog .any ops Q S fuel (listed.setIfInBounds i true) (a.put (some k) v) w) : wpAnyH Try.prog .any ops Q S (fuel + 1) listed a w :=
  wpAnyH_take hi hs hf hr (by rw [hd]; exact hQ) hy hS (by rw [hd]; exact h)
theorem call_op (i k : Nat) {f : FuncId} {args : Array Value} (hr : Region.ready .any ops listed = [i]) (ho : ops[i]? = some op) (hd : op.dst = some k) (hw : Region.wanted op (yielded ops a.tmps) = true) (hx : (execOp a.eval op).run Try.prog w = .ok (.enter f args) w)
    (hc : Calls Try.prog f args w fun e w' => ∃ v, e = .returned v ∧ S w' ∧ wpAnyH Try.prog .any ops Q S fuel (listed.setIfInBounds i true) (a.put (some k) v) w') : wpAnyH Try.prog .any ops Q S (fuel + 1) listed a w := by
  refine wpAnyH_all hr (by simp) (fun j hj => ?_)
  simp at hj
  subst hj
  unfold wpOp
  simp only [ho, hw, if_true]
  refine .inl ?_
  unfold Oper.wp
  rw [hx]
  simp only [Oper.upon]
  refine hc.mono ?_
  rintro e w' ⟨v, rfl, h1, h2⟩
  rw [hd]
  exact ⟨h1, h2⟩
theorem eff_op (i k : Nat) {v : Value} {w' : World} (hr : Region.ready .any ops listed = [i]) (ho : ops[i]? = some op) (hd : op.dst = some k) (hw : Region.wanted op (yielded ops a.tmps) = true) (hx : (execOp a.eval op).run Try.prog w = .ok (.value v) w') (hS : S w')
    (h : wpAnyH Try.prog .any ops Q S fuel (listed.setIfInBounds i true) (a.put (some k) v) w') : wpAnyH Try.prog .any ops Q S (fuel + 1) listed a w := by
  refine wpAnyH_all hr (by simp) (fun j hj => ?_)
  simp at hj
  subst hj
  unfold wpOp
  simp only [ho, hw, if_true]
  refine .inl ?_
  unfold Oper.wp
  rw [hx]
  simp only [Oper.upon]
  rw [hd]
  exact ⟨hS, h⟩
/-- a store: any operation that comes up alone -/
theorem wp_op (i : Nat) (hr : Region.ready .any ops listed = [i]) (ho : ops[i]? = some op) (hw : Region.wanted op (yielded ops a.tmps) = true) (h : Oper.wp Try.prog op a w (fun a' w' => S w' ∧ wpAnyH Try.prog .any ops Q S fuel (listed.setIfInBounds i true) a' w') Q) : wpAnyH Try.prog .any ops Q S (fuel + 1) listed a w := by
  refine wpAnyH_all hr (by simp) (fun j hj => ?_)
  simp at hj
  subst hj
  unfold wpOp
  simp only [ho, hw, if_true]
  exact .inl h
theorem done_op (hr : Region.ready .any ops listed = []) (h : Q .normal a w) : wpAnyH Try.prog .any ops Q S fuel listed a w := wpAnyH_done hr h fuel
end
section
variable {ops : Array Oper} {S : World → Prop} {op : Oper} {a : Act} {Q : Exit → Act → World → Prop} {fuel : Nat} {listed : Array Bool} {w : World} {R : Act → World → Prop}
theorem op_val (i k : Nat) {v : Value} {w' : World} (ho : ops[i]? = some op) (hd : op.dst = some k) (hw : Region.wanted op (yielded ops a.tmps) = true) (hx : (execOp a.eval op).run Try.prog w = .ok (.value v) w') (h : R (a.put (some k) v) w') : wpOp Try.prog ops Q i R a w := by
  unfold wpOp
  simp only [ho, hw, if_true]
  refine .inl ?_
  unfold Oper.wp
  rw [hx]
  simp only [Oper.upon]
  rw [hd]
  exact h
theorem op_call (i k : Nat) {f : FuncId} {args : Array Value} (ho : ops[i]? = some op) (hd : op.dst = some k) (hw : Region.wanted op (yielded ops a.tmps) = true) (hx : (execOp a.eval op).run Try.prog w = .ok (.enter f args) w)
    (hc : Calls Try.prog f args w fun e w' => ∃ v, e = .returned v ∧ R (a.put (some k) v) w') : wpOp Try.prog ops Q i R a w := by
  unfold wpOp
  simp only [ho, hw, if_true]
  refine .inl ?_
  unfold Oper.wp
  rw [hx]
  simp only [Oper.upon]
  refine hc.mono ?_
  rintro e w' ⟨v, rfl, h1⟩
  rw [hd]
  exact h1
theorem op_wp (i : Nat) (ho : ops[i]? = some op) (hw : Region.wanted op (yielded ops a.tmps) = true) (h : Oper.wp Try.prog op a w R Q) : wpOp Try.prog ops Q i R a w := by
  unfold wpOp
  simp only [ho, hw, if_true]
  exact .inl h
theorem one {i : Nat} (hr : Region.ready .any ops listed = [i]) (h : wpOp Try.prog ops Q i (fun a' w' => S w' ∧ wpAnyH Try.prog .any ops Q S fuel (listed.setIfInBounds i true) a' w') a w) : wpAnyH Try.prog .any ops Q S (fuel + 1) listed a w := by
  refine wpAnyH_all hr (by simp) (fun j hj => ?_)
  simp at hj
  subst hj
  exact h
theorem two {i j : Nat} (hr : Region.ready .any ops listed = [i, j]) (h : wpOp Try.prog ops Q i (fun a' w' => S w' ∧ wpAnyH Try.prog .any ops Q S fuel (listed.setIfInBounds i true) a' w') a w) (h' : wpOp Try.prog ops Q j (fun a' w' => S w' ∧ wpAnyH Try.prog .any ops Q S fuel (listed.setIfInBounds j true) a' w') a w) : wpAnyH Try.prog .any ops Q S (fuel + 1) listed a w := by
  refine wpAnyH_all hr (by simp) (fun l hl => ?_)
  simp at hl
  rcases hl with rfl | rfl
  · exact h
  · exact h'
theorem three {i j k : Nat} (hr : Region.ready .any ops listed = [i, j, k]) (h : wpOp Try.prog ops Q i (fun a' w' => S w' ∧ wpAnyH Try.prog .any ops Q S fuel (listed.setIfInBounds i true) a' w') a w) (h' : wpOp Try.prog ops Q j (fun a' w' => S w' ∧ wpAnyH Try.prog .any ops Q S fuel (listed.setIfInBounds j true) a' w') a w) (h'' : wpOp Try.prog ops Q k (fun a' w' => S w' ∧ wpAnyH Try.prog .any ops Q S fuel (listed.setIfInBounds k true) a' w') a w) : wpAnyH Try.prog .any ops Q S (fuel + 1) listed a w := by
  refine wpAnyH_all hr (by simp) (fun l hl => ?_)
  simp at hl
  rcases hl with rfl | rfl | rfl
  · exact h
  · exact h'
  · exact h''
end
section
variable {o : Oper} {a : Act} {w : World}
theorem x_move {x : Operand} {v : Value} (h : o.op = .move x) (hx : a.eval x = v) : (execOp a.eval o).run Try.prog w = .ok (.value v) w := by
  unfold execOp; rw [h]; simp only [hx]; go_simp
end
end Go.Proofs.Ytkdkibnjfgcppaa.rg
