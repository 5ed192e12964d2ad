/-
  Over this program: the iterator that hands on the places of Ends (dfa.taken's closure), for every body that keeps its memory.
-/
import Derived.Test.YtkdkibnjfgcppaaM01
import Derived.Test.YtkdkibnjfgcppaaKDf
import Derived.RangeFuncNested
import Derived.RangeFuncBound
import Derived.RangeFuncCalls
import Derived.RangeFuncLeaves
import Derived.RangeFuncBox
import Derived.Shelf.Abstract
import Derived.Shelf.RegionOpen
import Derived.OwnWalkIn
import Derived.TacticsInMore
import Derived.LoopNIn
import Derived.LoopIn
import Derived.Sort.QuietIn
namespace Go.Proofs.Ytkdkibnjfgcppaa.df
open Go.RowKit Go.Shelf
set_option linter.unusedVariables false
attribute [local go_sem] Oper.semAt_some

theorem wpListIn_load_row {F : Fence} {n : Nat} {P : Program} {ops : Array Oper} {rest : List Oper} {o : Oper} {a : Act} {w : World} {Q : Exit → Act → World → Prop} (hgd : o.guard = none) (ty : TypeId) (x : Operand) (ho : o.op = .load ty x)
    (g : Nat) (hx : a.eval x = .pointer (some ⟨g, 0, none⟩)) (t : TypeId) (cs : Array Value) (fr : Nat × Nat) (d : TypeDesc) (hg : w.heap[g]? = some (.cells cs t fr))
    (hu : P.underlying ty = some d) (hd : (match d with | .struct _ | .array _ _ => true | _ => false) = true) (hi : (P.info? ty).map (·.size) = some cs.size)
    (h : wpListIn F n P ops Q rest (a.put o.dst (.agg cs)) w) : wpListIn F n P ops Q (o :: rest) a w := by
  refine wpListIn_plain hgd fun K hK' => ?_
  unfold Oper.wpIn
  refine ⟨?_, ?_⟩
  · simp [Oper.about, ho]
  · rw [Oper.semAt_plain F _ _ (by rw [ho]; intro c hc'; cases hc')]
    unfold execOp
    simp only [ho, hx, Instr.loadAt, Instr.sureAddr, Sem.run_bind, Sem.run_pure, Result.andThen_ok, run_loadVar_row w g t ty cs fr d hg hu hd hi]
    exact hK' _ _ h

/-- what a round keeps: blocks of which P is said -/
def Kp (P : Nat → Prop) (W W' : World) : Prop := W.heap.size ≤ W'.heap.size ∧ ∀ b, P b → W'.heap[b]? = W.heap[b]?
theorem Kp.trans {P : Nat → Prop} {A B C : World} (h : Kp P A B) (k : Kp P B C) : Kp P A C := ⟨Nat.le_trans h.1 k.1, fun b hb => (k.2 b hb).trans (h.2 b hb)⟩
theorem Kp.book {P : Nat → Prop} {w : World} (hP : ∀ b, P b → b < w.heap.size) (W : World) (l : Nat) (o o' : Obj) (hl : w.heap.size ≤ l) (h : W.heap[l]? = some o) (_ : o.isCells = false) (_ : o.isWalk = false) : Kp P W (W.putObj l o') :=
  ⟨by simp, fun b hb => World.putObj_heap_other (fun e => by have := hP b hb; omega)⟩
theorem Kp.below {P : Nat → Prop} {n : Nat} {W W' : World} (b : Below n W W') (hn : W.heap.size ≤ W'.heap.size) (hP : ∀ b, P b → b < n) : Kp P W W' := ⟨hn, fun k hk => b.block k (hP k hk)⟩
theorem grown_of {w w' : World} (b : Below w.heap.size w w') : w.grownBy w' none := ⟨b.os, b.tape, b.output, b.size, fun k hk _ => b.block k hk⟩
theorem grown_drewN (w : World) (n : Nat) : w.grownBy (w.drewN n) none := ⟨rfl, rfl, rfl, Nat.le_refl _, fun _ _ _ => rfl⟩

structure Mem (P : Nat → Prop) (W : World) (d : Dfa) (cs : Array Value) (s : ByteArray) (gd gs : Nat) (o : Option Addr) (cap : Nat) (ao : Option Addr) (acap : Nat) : Prop where
  dt : DAt P W d cs o cap ao acap
  bx : DBox W gd cs
  sx : Boxed W gs 9 (.string s)
  pd : P gd
  ps : P gs
  lt : ∀ b, P b → b < W.heap.size
theorem Mem.carry {P : Nat → Prop} {W W' : World} {d : Dfa} {cs : Array Value} {s : ByteArray} {gd gs : Nat} {o ao : Option Addr} {cap acap : Nat} (h : Mem P W d cs s gd gs o cap ao acap) (k : Kp P W W') : Mem P W' d cs s gd gs o cap ao acap :=
  ⟨h.dt.carry k.2 (fun _ => id), (k.2 gd h.pd).trans h.bx, (k.2 gs h.ps).trans h.sx, h.pd, h.ps, fun b hb => Nat.lt_of_lt_of_le (h.lt b hb) k.1⟩

theorem acc_at {P : Nat → Prop} {W : World} {d : Dfa} {cs : Array Value} {o ao : Option Addr} {cap acap : Nat} (h : DAt P W d cs o cap ao acap) (q : Nat) (hq : q < d.acc.length) :
    ∃ b off, ao = some ⟨b, off, none⟩ ∧ P b ∧ W.cell? ⟨b, off + q, none⟩ = some (.bool (acpt d q)) := by
  obtain ⟨b, off, e, hp, hc⟩ := h.accs.lie q hq
  refine ⟨b, off, e, hp, ?_⟩
  unfold acpt
  rw [List.getElem?_eq_getElem hq]
  exact hc
theorem nxt_at {P : Nat → Prop} {W : World} {d : Dfa} {cs : Array Value} {o ao : Option Addr} {cap acap : Nat} (h : DAt P W d cs o cap ao acap) (k : Ok d) (q c : Nat) (hq : q < d.next.length) (hc : c < width d) :
    ∃ b off b' off' ci, o = some ⟨b, off, none⟩ ∧ W.cell? ⟨b, off + q, none⟩ = some (.slice (some ⟨b', off', none⟩) (width d) ci) ∧ width d ≤ ci ∧ ci ≤ 9223372036854775807 ∧ W.cell? ⟨b', off' + c, none⟩ = some (.int .i64 (nxt d q c)) := by
  obtain ⟨b, off, oi, ci, e, hp, hx, hr⟩ := h.rows.lie q hq
  have hw := k.wide q hq
  obtain ⟨b', off', rfl, hp', hy⟩ := hr.lie c (by omega)
  rw [hw] at hx
  have hf := hr.fit
  refine ⟨b, off, b', off', ci, e, hx, by omega, hr.top, ?_⟩
  unfold nxt
  rw [List.getElem?_eq_getElem hq, Option.getD_some, List.getElem?_eq_getElem (by omega)]
  exact hy

set_option maxRecDepth 100000 in
set_option maxHeartbeats 4000000 in
theorem taken1_no (P : Nat → Prop) (l gd gs ga : Nat) (d : Dfa) (cs : Array Value) (s : ByteArray) (at' : Int) (o ao : Option Addr) (cap acap : Nat) (J Jx : List Int → World → Prop)
    (hbad : right d = false ∨ at' < 0 ∨ (s.size : Int) < at') (hs : s.size ≤ 1000000000000)
    (W : World) (hM : Mem P W d cs s gd gs o cap ao acap) (hA : Boxed W ga 3 (.int .i64 at')) (hJ : AbidesFrom W.heap.size J) (h0 : J [] W) :
    CallsIn Fence.wide 5 Try.prog 44 #[.func (.yield l) #[] #[], .pointer (some ⟨gd, 0, none⟩), .pointer (some ⟨ga, 0, none⟩), .pointer (some ⟨gs, 0, none⟩)] W fun e W' => (∃ v, e = .returned v) ∧
      ((∃ ys, ys = [] ∧ J ys W') ∨ (∃ pre, pre <+: [] ∧ Jx pre W')) := by
  have hrt := right_any d _ rfl
  unfold RtIs at hrt
  have hD : DAt (In W) W d cs o cap ao acap := hM.dt.carry (fun _ _ => rfl) hM.lt
  have hcall := fun w => hrt cs o cap ao acap w
  have hlt := hA.lt
  have hlt2 := hM.sx.lt
  have hc2 := hA.cell
  have hc3 := hM.sx.cell
  have bx := hM.bx
  have hw8 := hM.dt.size
  have HM : Hid (Mem P W d cs s gd gs o cap ao acap) := hM
  clear hM hrt
  cases hr : right d with
  | false =>
    rw [hr] at hcall
    clear hbad
    refine callsIn_of_wp Try.func44 rfl trivial ?_ rfl
    simp only [Try.ntmps44, List.size_toArray, List.length_cons, List.length_nil, Nat.reduceAdd, Nat.reduceSub, Array.replicate_succ, Array.replicate_zero, List.push_toArray, List.append_toArray, List.nil_append, List.cons_append]
    gi_wp2_with (first | (refine wpListIn_load_row rfl 26 (.tmp 1) rfl gd rfl 26 cs (0, 0) _ bx Try.underlying26 rfl (info26 cs hw8) ?_) | (refine ⟨trivial, ?_⟩; gi_at_call 23; refine (callsIn_wide.2 (hcall _ hD)).mono ?_; rintro e w1 ⟨rfl, b1⟩))
    refine bodyPost_ret (results_none rfl _ _ _) rfl ?_
    exact ⟨⟨_, rfl⟩, .inl ⟨[], rfl, hJ _ _ _ none h0 (grown_of b1) (fun r e => by cases e)⟩⟩
  | true =>
    rw [hr] at hcall
    by_cases h1 : at' < 0
    · have f1 : decide (at' < 0) = true := decide_eq_true h1
      clear hbad
      refine callsIn_of_wp Try.func44 rfl trivial ?_ rfl
      simp only [Try.ntmps44, List.size_toArray, List.length_cons, List.length_nil, Nat.reduceAdd, Nat.reduceSub, Array.replicate_succ, Array.replicate_zero, List.push_toArray, List.append_toArray, List.nil_append, List.cons_append]
      gi_wp2_with (first | (refine wpListIn_load_row rfl 26 (.tmp 1) rfl gd rfl 26 cs (0, 0) _ bx Try.underlying26 rfl (info26 cs hw8) ?_) | (refine ⟨trivial, ?_⟩; gi_at_call 23; refine (callsIn_wide.2 (hcall _ hD)).mono ?_; rintro e w1 ⟨rfl, b1⟩; have d2 := (b1.cell (p := ⟨ga, 0, none⟩) hlt).trans hc2; have d3 := (b1.cell (p := ⟨gs, 0, none⟩) hlt2).trans hc3))
      refine bodyPost_ret (results_none rfl _ _ _) rfl ?_
      exact ⟨⟨_, rfl⟩, .inl ⟨[], rfl, hJ _ _ _ none h0 (grown_of b1) (fun r e => by cases e)⟩⟩
    · have h2 : (s.size : Int) < at' := by rcases hbad with h | h | h
                                           · rw [hr] at h; cases h
                                           · exact absurd h h1
                                           · exact h
      have f1 : decide (at' < 0) = false := decide_eq_false h1
      have f2 : decide ((s.size : Int) < at') = true := decide_eq_true h2
      clear hbad h2 h1
      refine callsIn_of_wp Try.func44 rfl trivial ?_ rfl
      simp only [Try.ntmps44, List.size_toArray, List.length_cons, List.length_nil, Nat.reduceAdd, Nat.reduceSub, Array.replicate_succ, Array.replicate_zero, List.push_toArray, List.append_toArray, List.nil_append, List.cons_append]
      gi_wp2_with (first | (refine wpListIn_load_row rfl 26 (.tmp 1) rfl gd rfl 26 cs (0, 0) _ bx Try.underlying26 rfl (info26 cs hw8) ?_) | (refine ⟨trivial, ?_⟩; gi_at_call 23; refine (callsIn_wide.2 (hcall _ hD)).mono ?_; rintro e w1 ⟨rfl, b1⟩; have d2 := (b1.cell (p := ⟨ga, 0, none⟩) hlt).trans hc2; have d3 := (b1.cell (p := ⟨gs, 0, none⟩) hlt2).trans hc3))
      refine bodyPost_ret (results_none rfl _ _ _) rfl ?_
      exact ⟨⟨_, rfl⟩, .inl ⟨[], rfl, hJ _ _ _ none h0 (grown_of b1) (fun r e => by cases e)⟩⟩
end Go.Proofs.Ytkdkibnjfgcppaa.df
