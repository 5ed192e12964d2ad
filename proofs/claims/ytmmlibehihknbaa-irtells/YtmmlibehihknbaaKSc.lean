/-
  Contracts over this program: ir.stepOf at a mapper; whether a mapper may be.
-/
import Derived.Test.YtmmlibehihknbaaKSb
namespace Go.Proofs.Ytmmlibehihknbaa.ir
open Go.ChangeShapes Go.WideShapes Go.ChangeAt Go.RowKit
open mg (Row iv IntsV chain below_alloc Mg Mgs)
open tr (Mc Mp mv MAt)
set_option linter.unusedVariables false
set_option maxRecDepth 100000

theorem built74 (a b c d : Value) : Try.prog.built 74 [(0, .agg #[a, b, c, d])] = some #[a, b, c, d] := by kernel_rfl
theorem wp_build66 {oo : Oper} {a : Act} {w : World} {K : Act → World → Prop} {Q : Exit → Act → World → Prop} (x : Operand) (ho : oo.op = .build 74 #[(0, x)]) (v : Value) (hx : a.eval x = v) (cells : Array Value) (hb : Try.prog.built 74 [(0, v)] = some cells)
    (h : K (a.put oo.dst (.agg cells)) w) : oo.wp Try.prog a w K Q := by
  have e := run_build (P := Try.prog) w 74 #[(0, v)] cells hb
  unfold Oper.wp execOp
  rw [ho]
  simp only [List.map_toArray, List.map_cons, List.map_nil, hx, Sem.run_bind, e, Result.andThen_ok]
  exact h
theorem wpList_build66 {ops : Array Oper} {rest : List Oper} {oo : Oper} {a : Act} {w : World} {Q : Exit → Act → World → Prop} (hgd : oo.guard = none) (x : Operand) (ho : oo.op = .build 74 #[(0, x)]) (v : Value) (hx : a.eval x = v) (cells : Array Value) (hb : Try.prog.built 74 [(0, v)] = some cells)
    (h : wpList Try.prog ops Q rest (a.put oo.dst (.agg cells)) w) : wpList Try.prog ops Q (oo :: rest) a w :=
  wpList_plain hgd fun _ hK => wp_build66 x ho v hx cells hb (hK _ _ h)
set_option maxHeartbeats 1000000 in
theorem step1 (g : Sg) (p : Sp) (hk : g.kind = 1) (w : World) (h : SgAt w g p) : Calls Try.prog 17 #[.agg (svL g p).toArray] w fun e w' => e = .returned (.iface 74 (.agg g.mc.toArray)) ∧ Below w.heap.size w w' := by
  have hx : SBox (w.alloc (.cells (svL g p).toArray 39)) w.heap.size g p := World.alloc_heap_new w _
  have hl : SgAt (w.alloc (.cells (svL g p).toArray 39)) g p := h.later (below_alloc w _)
  have r1 := hx.rmc hl
  have h0 := sv0 g p
  rw [hk] at h0
  have i1 : (Try.prog.info? 32).map (·.size) = some g.mc.length := by rw [h.mc]; exact info32
  have hb : Try.prog.built 74 [(0, .agg g.mc.toArray)] = some g.mc.toArray := by
    have hm := h.mc
    match hg : g.mc, hm with
    | [a, b, c, d], _ => exact built74 a b c d
  have hB := below_alloc w (.cells (svL g p).toArray 39)
  clear hx hl
  generalize (svL g p).toArray = C at *
  generalize g.mc = M at *
  clear h
  go_enter Try.func17, Try.ntmps17
  go_wp2_with (first | (refine wpList_load_mid rfl 32 (.tmp 7) rfl w.heap.size 1 rfl M _ r1 Try.underlying32 rfl i1 ?_) | (refine wpList_build66 rfl (.tmp 8) rfl (.agg M.toArray) rfl M.toArray hb ?_))
  go_ret
  exact ⟨rfl, hB⟩
set_option maxHeartbeats 1000000 in
theorem may1 (m : Mc) (q : Mp) (r : Bool) (hr : r = tr.right m) (w : World) (h : MAt (tr.In w) w m q) : Calls Try.prog 59 #[.agg (mv m q)] w fun e w' => e = .returned (.bool r) ∧ Below w.heap.size w w' := by
  obtain ⟨C, hC⟩ : ∃ C, C = mv m q := ⟨_, rfl⟩
  have hB := below_alloc w (.cells (mv m q) 74)
  have hx : tr.XBox (w.alloc (.cells (mv m q) 74)) w.heap.size m q := tr.xbox_new w m q
  have hl : MAt (tr.In (w.alloc (.cells (mv m q) 74))) (w.alloc (.cells (mv m q) 74)) m q := h.later hB
  have c := tr.right_any m r hr q _ hl
  have k0 := hx.c0
  have k1 := hx.c1
  have k2 := hx.c2
  have k3 := hx.c3
  rw [← hC] at k0 k1 k2 k3 hB c ⊢
  have HB := (show Hid _ from hB)
  have HC := (show Hid (C = mv m q) from hC)
  clear hx hl hC hr h hB
  go_enter Try.func59, Try.ntmps59
  go_wp2_with (fail)
  go_at_call 61
  rw [show (Value.agg C) = .agg (mv m q) by rw [HC.out]] at c
  refine c.mono ?_
  rintro e w1 ⟨rfl, b1⟩
  clear c
  go_wp2_with (fail)
  go_ret
  exact ⟨rfl, chain HB.out b1⟩
end Go.Proofs.Ytmmlibehihknbaa.ir
