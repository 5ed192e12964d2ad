/-
  Texts put together: Over this program: a region that draws its order, walked by hand. Contracts over this program: a row that is begun (newRow). Contracts over this program: ids merged (merged), merge.Apply.
-/
import Derived.Test.YtmmlibehihknbaaM02
import Derived.OrdersHeld
namespace Go.Proofs.Ytmmlibehihknbaa.mg
open Go.ChangeShapes Go.WideShapes Go.ChangeAt Go.RowKit Go.Shelf Go.Maps
def icells (l : List Int) : Array Value := (l.map (Value.int .i64)).toArray
theorem icells_made (n : Nat) : madeCells #[.int .i64 0] n = icells (List.replicate n 0) := by
  apply Array.toList_inj.1
  rw [toList_madeCells_one]
  simp [icells]
theorem make25 (n : Nat) (hn : n ≤ 1000000) (W : World) : (Instr.makeSlice 25 (.int .i64 (n : Int)) (.int .i64 (n : Int))).run Try.prog W = .ok (.slice (some ⟨W.heap.size, 0, none⟩) n n) (W.alloc (.cells (icells (List.replicate n 0)) 3)) := by
  rw [← icells_made]
  exact run_make_row' (P := Try.prog) 25 3 (.int .i64 0) 8 Try.underlying25 info3 rfl .i64 .i64 n (by omega) (by omega) W
end Go.Proofs.Ytmmlibehihknbaa.mg
namespace Go.Proofs.Ytmmlibehihknbaa.rg
open Go.RowKit
set_option linter.unusedVariables false
set_option maxRecDepth 100000

section
variable {ops : Array Oper} {S : World → Prop} {op : Oper} {a : Act} {Q : Exit → Act → World → Prop} {fuel : Nat} {listed : Array Bool} {w : World}
theorem yields_run (hw : Region.wanted op (yielded ops a.tmps) = true) {v : Value} (h : ∀ W, S W → (execOp a.eval op).run Try.prog W = .ok (.value v) W) : YieldsIf Try.prog ops S op v a := .inl ⟨hw, h⟩
theorem yields_not (hw : Region.wanted op (yielded ops a.tmps) = false) : YieldsIf Try.prog ops S op undef a := .inr ⟨hw, rfl⟩
theorem take_op {i : Nat} (k : Nat) {v : Value} (hi : ops[i]? = some op) (hd : op.dst = some k) (hy : YieldsIf Try.prog ops S op v a) (hs : Region.noSelect ops = true) (hf : Region.free .any ops listed i = true) (hr : (Region.ready .any ops listed).contains i = true)
    (hQ : ∀ c a w, Q (.panic c) (a.put (some k) v) w → Q (.panic c) a w) (hS : S w)
    (h : wpAnyH Try.prog .any ops Q S fuel (listed.setIfInBounds i true) (a.put (some k) v) w) : wpAnyH Try.prog .any ops Q S (fuel + 1) listed a w :=
  wpAnyH_take hi hs hf hr (by rw [hd]; exact hQ) hy hS (by rw [hd]; exact h)
theorem call_op (i k : Nat) {f : FuncId} {args : Array Value} (hr : Region.ready .any ops listed = [i]) (ho : ops[i]? = some op) (hd : op.dst = some k) (hw : Region.wanted op (yielded ops a.tmps) = true) (hx : (execOp a.eval op).run Try.prog w = .ok (.enter f args) w)
    (hc : Calls Try.prog f args w fun e w' => ∃ v, e = .returned v ∧ S w' ∧ wpAnyH Try.prog .any ops Q S fuel (listed.setIfInBounds i true) (a.put (some k) v) w') : wpAnyH Try.prog .any ops Q S (fuel + 1) listed a w := by
  refine wpAnyH_all hr (by simp) (fun j hj => ?_)
  simp at hj
  subst hj
  unfold wpOp
  simp only [ho, hw, if_true]
  refine .inl ?_
  unfold Oper.wp
  rw [hx]
  simp only [Oper.upon]
  refine hc.mono ?_
  rintro e w' ⟨v, rfl, h1, h2⟩
  rw [hd]
  exact ⟨h1, h2⟩
theorem eff_op (i k : Nat) {v : Value} {w' : World} (hr : Region.ready .any ops listed = [i]) (ho : ops[i]? = some op) (hd : op.dst = some k) (hw : Region.wanted op (yielded ops a.tmps) = true) (hx : (execOp a.eval op).run Try.prog w = .ok (.value v) w') (hS : S w')
    (h : wpAnyH Try.prog .any ops Q S fuel (listed.setIfInBounds i true) (a.put (some k) v) w') : wpAnyH Try.prog .any ops Q S (fuel + 1) listed a w := by
  refine wpAnyH_all hr (by simp) (fun j hj => ?_)
  simp at hj
  subst hj
  unfold wpOp
  simp only [ho, hw, if_true]
  refine .inl ?_
  unfold Oper.wp
  rw [hx]
  simp only [Oper.upon]
  rw [hd]
  exact ⟨hS, h⟩
/-- a store: any operation that comes up alone -/
theorem wp_op (i : Nat) (hr : Region.ready .any ops listed = [i]) (ho : ops[i]? = some op) (hw : Region.wanted op (yielded ops a.tmps) = true) (h : Oper.wp Try.prog op a w (fun a' w' => S w' ∧ wpAnyH Try.prog .any ops Q S fuel (listed.setIfInBounds i true) a' w') Q) : wpAnyH Try.prog .any ops Q S (fuel + 1) listed a w := by
  refine wpAnyH_all hr (by simp) (fun j hj => ?_)
  simp at hj
  subst hj
  unfold wpOp
  simp only [ho, hw, if_true]
  exact .inl h
theorem done_op (hr : Region.ready .any ops listed = []) (h : Q .normal a w) : wpAnyH Try.prog .any ops Q S fuel listed a w := wpAnyH_done hr h fuel
end
section
variable {ops : Array Oper} {S : World → Prop} {op : Oper} {a : Act} {Q : Exit → Act → World → Prop} {fuel : Nat} {listed : Array Bool} {w : World} {R : Act → World → Prop}
theorem op_val (i k : Nat) {v : Value} {w' : World} (ho : ops[i]? = some op) (hd : op.dst = some k) (hw : Region.wanted op (yielded ops a.tmps) = true) (hx : (execOp a.eval op).run Try.prog w = .ok (.value v) w') (h : R (a.put (some k) v) w') : wpOp Try.prog ops Q i R a w := by
  unfold wpOp
  simp only [ho, hw, if_true]
  refine .inl ?_
  unfold Oper.wp
  rw [hx]
  simp only [Oper.upon]
  rw [hd]
  exact h
theorem op_call (i k : Nat) {f : FuncId} {args : Array Value} (ho : ops[i]? = some op) (hd : op.dst = some k) (hw : Region.wanted op (yielded ops a.tmps) = true) (hx : (execOp a.eval op).run Try.prog w = .ok (.enter f args) w)
    (hc : Calls Try.prog f args w fun e w' => ∃ v, e = .returned v ∧ R (a.put (some k) v) w') : wpOp Try.prog ops Q i R a w := by
  unfold wpOp
  simp only [ho, hw, if_true]
  refine .inl ?_
  unfold Oper.wp
  rw [hx]
  simp only [Oper.upon]
  refine hc.mono ?_
  rintro e w' ⟨v, rfl, h1⟩
  rw [hd]
  exact h1
theorem op_wp (i : Nat) (ho : ops[i]? = some op) (hw : Region.wanted op (yielded ops a.tmps) = true) (h : Oper.wp Try.prog op a w R Q) : wpOp Try.prog ops Q i R a w := by
  unfold wpOp
  simp only [ho, hw, if_true]
  exact .inl h
theorem one {i : Nat} (hr : Region.ready .any ops listed = [i]) (h : wpOp Try.prog ops Q i (fun a' w' => S w' ∧ wpAnyH Try.prog .any ops Q S fuel (listed.setIfInBounds i true) a' w') a w) : wpAnyH Try.prog .any ops Q S (fuel + 1) listed a w := by
  refine wpAnyH_all hr (by simp) (fun j hj => ?_)
  simp at hj
  subst hj
  exact h
theorem two {i j : Nat} (hr : Region.ready .any ops listed = [i, j]) (h : wpOp Try.prog ops Q i (fun a' w' => S w' ∧ wpAnyH Try.prog .any ops Q S fuel (listed.setIfInBounds i true) a' w') a w) (h' : wpOp Try.prog ops Q j (fun a' w' => S w' ∧ wpAnyH Try.prog .any ops Q S fuel (listed.setIfInBounds j true) a' w') a w) : wpAnyH Try.prog .any ops Q S (fuel + 1) listed a w := by
  refine wpAnyH_all hr (by simp) (fun l hl => ?_)
  simp at hl
  rcases hl with rfl | rfl
  · exact h
  · exact h'
theorem three {i j k : Nat} (hr : Region.ready .any ops listed = [i, j, k]) (h : wpOp Try.prog ops Q i (fun a' w' => S w' ∧ wpAnyH Try.prog .any ops Q S fuel (listed.setIfInBounds i true) a' w') a w) (h' : wpOp Try.prog ops Q j (fun a' w' => S w' ∧ wpAnyH Try.prog .any ops Q S fuel (listed.setIfInBounds j true) a' w') a w) (h'' : wpOp Try.prog ops Q k (fun a' w' => S w' ∧ wpAnyH Try.prog .any ops Q S fuel (listed.setIfInBounds k true) a' w') a w) : wpAnyH Try.prog .any ops Q S (fuel + 1) listed a w := by
  refine wpAnyH_all hr (by simp) (fun l hl => ?_)
  simp at hl
  rcases hl with rfl | rfl | rfl
  · exact h
  · exact h'
  · exact h''
end
section
variable {o : Oper} {a : Act} {w : World}
theorem x_move {x : Operand} {v : Value} (h : o.op = .move x) (hx : a.eval x = v) : (execOp a.eval o).run Try.prog w = .ok (.value v) w := by
  unfold execOp; rw [h]; simp only [hx]; go_simp
theorem x_make30 {x y : Operand} {n : Nat} (h : o.op = .makeSlice 25 x y) (hx : a.eval x = .int .i64 (n : Int)) (hy : a.eval y = .int .i64 (n : Int)) (hn : n ≤ 1000000) : (execOp a.eval o).run Try.prog w = .ok (.value (.slice (some ⟨w.heap.size, 0, none⟩) n n)) (w.alloc (.cells (mg.icells (List.replicate n 0)) 3)) := by
  have := mg.make25 n hn w
  unfold execOp; rw [h]; simp only [hx, hy]; simp [this, Result.andThen]
end
end Go.Proofs.Ytmmlibehihknbaa.rg

namespace Go.Proofs.Ytmmlibehihknbaa.mg
open Go.ChangeShapes Go.WideShapes Go.ChangeAt Go.RowKit Go.Shelf Go.Maps
set_option linter.unusedVariables false
set_option maxRecDepth 100000

theorem Owns.base {W : World} {B B' : Nat} {v : Value} {l : List Int} (h : Owns W B v l) (hb : B' ≤ B) : Owns W B' v l := by
  refine ⟨h.1, ?_⟩
  rcases h.2 with h0 | ⟨g, cap, cur, e, hg, r⟩
  · exact .inl h0
  · exact .inr ⟨g, cap, cur, e, Nat.le_trans hb hg, r⟩
theorem nz_rep (n : Nat) : nz (List.replicate n 0) = List.replicate n (0 : Int) := by simp [nz]
theorem made_owns (W : World) (B n : Nat) (hB : B ≤ W.heap.size) (hn : n ≤ 1000000) : Owns (W.alloc (.cells (icells (List.replicate n 0)) 3)) B (.slice (some ⟨W.heap.size, 0, none⟩) n n) (nz (List.replicate n 0)) := by
  rw [nz_rep]
  refine ⟨by simp, .inr ⟨W.heap.size, n, _, by simp, hB, World.alloc_heap_new W _, by simp, by unfold maxLen; omega, by simp [icells], ?_⟩⟩
  simp [icells]
theorem own_lt {W : World} {B : Nat} {v : Value} {l : List Int} (h : Owns W B v l) {g : Nat} (e : v.ownBlock = some g) : B ≤ g ∧ g < W.heap.size := ow.lt h e
/-- what the three that are begun with leave -/
def Three (w : World) (l : List Mg) (ids : List Int) (n mb : Nat) (vi vr : Value) (W : World) : Prop :=
  w.heap.size ≤ mb ∧ PairMap W mb l ∧ Owns W w.heap.size vi ids ∧ Owns W w.heap.size vr (nz (List.replicate n 0)) ∧ (∀ g, vi.ownBlock = some g → vr.ownBlock ≠ some g) ∧ Below w.heap.size w W
theorem Three.row {w : World} {l : List Mg} {ids : List Int} {mb : Nat} {vi vr : Value} {W : World} (h : Three w l ids ids.length mb vi vr W) : RS w.heap.size W.heap.size mb l vi vr ids (List.replicate ids.length 0) (W.alloc (.cells #[.map (some mb), vi, vr] 109)) := by
  obtain ⟨h1, h2, h3, h4, h5, h6⟩ := h
  have b := below_alloc W (.cells #[.map (some mb), vi, vr] 109)
  exact ⟨World.alloc_heap_new W _, ow.later h3 b, ow.later h4 b, by simp, h2.keep (b.block mb h2.lt), h5, h6.size, h1⟩
theorem next_rank {l : List Mg} {ids : List Int} {kn : List Nat} {i : Nat} (hk : kn.length = ids.length) (h : ∀ j, j < i → kn.getD j 0 = rk l ids j) (hi : i < ids.length) (j : Nat) (hj : j < i + 1) : (kn.set i (rk l ids i)).getD j 0 = rk l ids j := by
  rw [getD_set _ _ _ _ (by omega)]
  by_cases e : j = i
  · subst e; rw [if_pos rfl]
  · rw [if_neg e]; exact h j (by omega)
def NewOut (l : List Mg) (ids : List Int) (w : World) (e : Ending) (W' : World) : Prop := ∃ rb mb vi vr kn, e = .returned (.pointer (some ⟨rb, 0, none⟩)) ∧ RS w.heap.size rb mb l vi vr ids kn W' ∧ Rk l ids kn ∧ Below w.heap.size w W'
end Go.Proofs.Ytmmlibehihknbaa.mg

namespace Go.Proofs.Ytmmlibehihknbaa.mg
open Go.ChangeShapes Go.WideShapes Go.ChangeAt Go.RowKit Go.Shelf Go.Maps
set_option linter.unusedVariables false
set_option maxRecDepth 100000

def rowLen (w : World) (rb : Nat) : Nat := match w.cell? ⟨rb, 1, none⟩ with
  | some (.slice _ n _) => n
  | _ => 0
theorem RS.len {B rb mb : Nat} {l : List Mg} {vi vr : Value} {ids : List Int} {kn : List Nat} {W : World} (h : RS B rb mb l vi vr ids kn W) : rowLen W rb = ids.length := by
  obtain ⟨g, c, e, _, _⟩ := ow.form h.oi
  unfold rowLen
  rw [h.c1, e]
theorem Rk.lst {l : List Mg} {ids : List Int} {kn : List Nat} (h : Rk l ids kn) : lst (fun i => kn.getD i 0) kn.length = lst (rk l ids) ids.length := by
  rw [h.1]
  exact lst_congr _ _ _ (fun i hi => h.2 i hi)
/-- how far the ids are merged -/
structure MI (w : World) (rb mb : Nat) (l : List Mg) (ids0 ids : List Int) (W : World) : Prop where
  row : ∃ vi vr kn, RS w.heap.size rb mb l vi vr ids kn W ∧ Rk l ids kn
  app : app l ids = app l ids0
  all : AllIn 100000 ids
  le : ids.length ≤ ids0.length
  below : Below w.heap.size w W
def MergedOut (l : List Mg) (ids : List Int) (w : World) (e : Ending) (W' : World) : Prop := ∃ v', e = .returned v' ∧ IntsV W' v' (app l ids) ∧ Below w.heap.size w W'
instance (n : Nat) (ids : List Int) : Decidable (AllIn n ids) := by unfold AllIn; infer_instance
def applyE (l : List Mg) (ids : List Int) : Nat := if errOf l ≠ 0 then errOf l else if 4096 < ids.length then 2 else if AllIn (256 + l.length) ids then 0 else 1
def applyL (l : List Mg) (ids : List Int) : List Int := if applyE l ids = 0 then app l ids else []
def ApplyOut (l : List Mg) (ids : List Int) (w : World) (e : Ending) (W' : World) : Prop := ∃ v', e = .returned (.tuple #[v', .int .i64 (applyE l ids : Int)]) ∧ IntsV W' v' (applyL l ids) ∧ Below w.heap.size w W'
theorem ApplyOut.bad {l : List Mg} {ids : List Int} {w w' : World} (x : Nat) (hx : applyE l ids = x) (h0 : x ≠ 0) (hb : Below w.heap.size w w') : ApplyOut l ids w (.returned (.tuple #[.slice none 0 0, .int .i64 (x : Int)])) w' := by
  refine ⟨.slice none 0 0, by rw [hx], ?_, hb⟩
  unfold applyL
  rw [if_neg (by rw [hx]; exact h0)]
  exact RowV.nil _
theorem applyE_err {l : List Mg} {ids : List Int} {x : Nat} (h : errOf l = x) (h0 : x ≠ 0) : applyE l ids = x := by unfold applyE; rw [if_pos (by rw [h]; exact h0), h]
theorem applyE_long {l : List Mg} {ids : List Int} (h : errOf l = 0) (h0 : 4096 < ids.length) : applyE l ids = 2 := by unfold applyE; rw [if_neg (by rw [h]; simp), if_pos h0]
theorem applyE_arg {l : List Mg} {ids : List Int} (h : errOf l = 0) (h0 : ¬ 4096 < ids.length) {i : Nat} (hi : i < ids.length) (h1 : ¬ InR ids[i] (256 + l.length)) : applyE l ids = 1 := by
  unfold applyE
  rw [if_neg (by rw [h]; simp), if_neg h0, if_neg (fun k => h1 (k _ (List.getElem_mem hi)))]
theorem applyE_ok {l : List Mg} {ids : List Int} (h : errOf l = 0) (h0 : ¬ 4096 < ids.length) (h1 : AllIn (256 + l.length) ids) : applyE l ids = 0 := by
  unfold applyE
  rw [if_neg (by rw [h]; simp), if_neg h0, if_pos h1]
end Go.Proofs.Ytmmlibehihknbaa.mg
