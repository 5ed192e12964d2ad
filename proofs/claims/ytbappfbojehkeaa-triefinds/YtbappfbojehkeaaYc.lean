/-
  Over this program: the iterator that hands on the states that one goes through (trie.walk's closure), for every body that keeps its memory.
-/
import Derived.Test.YtbappfbojehkeaaYb
import Derived.RangeFuncNested
import Derived.RangeFuncBound
import Derived.RangeFuncCalls
import Derived.RangeFuncLeaves
import Derived.RangeFuncBox
import Derived.Shelf.Abstract
import Derived.Shelf.RegionOpen
import Derived.OwnWalkIn
import Derived.TacticsInMore
import Derived.LoopNIn
import Derived.LoopIn
import Derived.Sort.QuietIn
import Derived.Lib.QuietBelowIn
namespace Go.Proofs.Ytbappfbojehkeaa.ti
open Go.RowKit Go.Shelf Go.Sort
set_option linter.unusedVariables false
attribute [local go_sem] Oper.semAt_some

theorem wpListIn_load_row {F : Fence} {n : Nat} {P : Program} {ops : Array Oper} {rest : List Oper} {o : Oper} {a : Act} {w : World} {Q : Exit → Act → World → Prop} (hgd : o.guard = none) (ty : TypeId) (x : Operand) (ho : o.op = .load ty x)
    (g : Nat) (hx : a.eval x = .pointer (some ⟨g, 0, none⟩)) (t : TypeId) (cs : Array Value) (fr : Nat × Nat) (d : TypeDesc) (hg : w.heap[g]? = some (.cells cs t fr))
    (hu : P.underlying ty = some d) (hd : (match d with | .struct _ | .array _ _ => true | _ => false) = true) (hi : (P.info? ty).map (·.size) = some cs.size)
    (h : wpListIn F n P ops Q rest (a.put o.dst (.agg cs)) w) : wpListIn F n P ops Q (o :: rest) a w := by
  refine wpListIn_plain hgd fun K hK' => ?_
  unfold Oper.wpIn
  refine ⟨?_, ?_⟩
  · simp [Oper.about, ho]
  · rw [Oper.semAt_plain F _ _ (by rw [ho]; intro c hc'; cases hc')]
    unfold execOp
    simp only [ho, hx, Instr.loadAt, Instr.sureAddr, Sem.run_bind, Sem.run_pure, Result.andThen_ok, run_loadVar_row w g t ty cs fr d hg hu hd hi]
    exact hK' _ _ h

/-- what a round keeps: blocks of which P is said -/
def Kp (P : Nat → Prop) (W W' : World) : Prop := W.heap.size ≤ W'.heap.size ∧ ∀ b, P b → W'.heap[b]? = W.heap[b]?
theorem Kp.trans {P : Nat → Prop} {A B C : World} (h : Kp P A B) (k : Kp P B C) : Kp P A C := ⟨Nat.le_trans h.1 k.1, fun b hb => (k.2 b hb).trans (h.2 b hb)⟩
theorem Kp.book {P : Nat → Prop} {w : World} (hP : ∀ b, P b → b < w.heap.size) (W : World) (l : Nat) (o o' : Obj) (hl : w.heap.size ≤ l) (h : W.heap[l]? = some o) (_ : o.isCells = false) (_ : o.isWalk = false) : Kp P W (W.putObj l o') :=
  ⟨by simp, fun b hb => World.putObj_heap_other (fun e => by have := hP b hb; omega)⟩
theorem Kp.below {P : Nat → Prop} {n : Nat} {W W' : World} (b : Below n W W') (hn : W.heap.size ≤ W'.heap.size) (hP : ∀ b, P b → b < n) : Kp P W W' := ⟨hn, fun k hk => b.block k (hP k hk)⟩
theorem grown_of {w w' : World} (b : Below w.heap.size w w') : w.grownBy w' none := ⟨b.os, b.tape, b.output, b.size, fun k hk _ => b.block k hk⟩

structure Mem (P : Nat → Prop) (W : World) (t : Tr) (p : Tp) (s : ByteArray) (gd gs : Nat) : Prop where
  dt : TAt P W t p
  bx : Box W gd t p
  sx : Boxed W gs 9 (.string s)
  pd : P gd
  ps : P gs
  lt : ∀ b, P b → b < W.heap.size
theorem Mem.carry {P : Nat → Prop} {W W' : World} {t : Tr} {p : Tp} {s : ByteArray} {gd gs : Nat} (h : Mem P W t p s gd gs) (k : Kp P W W') : Mem P W' t p s gd gs :=
  ⟨h.dt.carry k.2 (fun _ => id), (k.2 gd h.pd).trans h.bx, (k.2 gs h.ps).trans h.sx, h.pd, h.ps, fun b hb => Nat.lt_of_lt_of_le (h.lt b hb) k.1⟩
theorem Mem.in {P : Nat → Prop} {W : World} {t : Tr} {p : Tp} {s : ByteArray} {gd gs : Nat} (h : Mem P W t p s gd gs) : TAt (In W) W t p := h.dt.carry (fun _ _ => rfl) h.lt
/-- what is handed on: the bytes gone, and a state that is one -/
def kl (n q : Nat) : Nat := if q < n then q else 0
theorem kl_lt {n q : Nat} (h : q < n) : kl n q = q := by unfold kl; rw [if_pos h]
theorem kl_in {n : Nat} (h : 0 < n) (q : Nat) : kl n q < n := by unfold kl; split <;> omega
abbrev ev (m n : Nat) (x : Nat × Nat) : Array Value := #[.int .i64 (kl m x.1 : Int), .int .i64 (kl n x.2 : Int)]
theorem ev_lt {m n e q : Nat} (h0 : e < m) (h : q < n) : ev m n (e, q) = #[.int .i64 (e : Int), .int .i64 (q : Int)] := by simp [ev, kl_lt h, kl_lt h0]

set_option maxRecDepth 100000 in
set_option maxHeartbeats 4000000 in
theorem walk1_no (P : Nat → Prop) (l gd gs : Nat) (t : Tr) (p : Tp) (s : ByteArray) (J Jx : List (Nat × Nat) → World → Prop)
    (hbad : right t = false)
    (W : World) (hM : Mem P W t p s gd gs) (hJ : AbidesFrom W.heap.size J) (h0 : J [] W) :
    CallsIn Fence.wide 5 Try.prog 25 #[.func (.yield l) #[] #[], .pointer (some ⟨gd, 0, none⟩), .pointer (some ⟨gs, 0, none⟩)] W fun e W' => (∃ v, e = .returned v) ∧
      ((∃ ys, ys = [] ∧ J ys W') ∨ (∃ pre, pre <+: [] ∧ Jx pre W')) := by
  have hcall := right_any t p W hM.in
  rw [hbad] at hcall
  have bx := hM.bx
  have HM : Hid (Mem P W t p s gd gs) := hM
  clear hM
  refine callsIn_of_wp Try.func25 rfl trivial ?_ rfl
  simp only [Try.ntmps25, List.size_toArray, List.length_cons, List.length_nil, Nat.reduceAdd, Nat.reduceSub, Array.replicate_succ, Array.replicate_zero, List.push_toArray, List.append_toArray, List.nil_append, List.cons_append]
  gi_wp2_with (first | (refine wpListIn_load_row rfl 24 (.tmp 1) rfl gd rfl 24 (tv t p) (0, 0) _ bx Try.underlying24 rfl info24 ?_) | (refine ⟨trivial, ?_⟩; gi_at_call 6; refine (callsIn_wide.2 hcall).mono ?_; rintro e w1 ⟨rfl, b1⟩))
  refine ⟨fun _ h => (by cases h), ?_⟩
  gi_wp2
  refine bodyPost_ret (results_none rfl _ _ _) rfl ?_
  exact ⟨⟨_, rfl⟩, .inl ⟨[], rfl, hJ _ _ _ none h0 (grown_of b1) (fun r e => by cases e)⟩⟩
end Go.Proofs.Ytbappfbojehkeaa.ti
