/-
  Texts put together: Plain mathematics and contracts over this program: how much a machine may put (trans.Grow). Contracts over this program: the document's Grow (fretsawref12). Arrays of 256 bytes, rows of ints; plain mathematics: which states are reached, which bytes a state makes of each.
-/
import Derived.Test.YtlmodfeiphffcaaM02
import Derived.Deep.WholeRow
import Derived.Laws.Tables
import Derived.Laws.ResultCell
import Derived.Laws.CopyOwn
import Derived.ChangeKeysEq
import Derived.Deep.OwnRows
namespace Go.Proofs.Ytlmodfeiphffcaa.tr
open Go.ChangeShapes Go.WideShapes Go.ChangeAt Go.RowKit Go.Shelf
set_option linter.unusedVariables false

/-- bytes that are put at a byte, and at the end -/
def ol (m : Mc) (s b : Nat) : Nat := (tx m (pt m s b / 2)).size + pt m s b % 2
def el (m : Mc) (s : Nat) : Nat := (tx m (en m s)).size
def inn (m : Mc) (s k j : Nat) : Nat := (List.range j).foldl (fun k b => max k (ol m s b)) k
def most (N : Nat) (m : Mc) (i : Nat) : Nat := (List.range i).foldl (fun k s => inn m s k N) 0
def last (m : Mc) (i : Nat) : Nat := (List.range i).foldl (fun k s => max k (el m s)) 0
theorem inn_zero (m : Mc) (s k : Nat) : inn m s k 0 = k := rfl
theorem inn_succ (m : Mc) (s k j : Nat) : inn m s k (j + 1) = max (inn m s k j) (ol m s j) := by
  unfold inn
  rw [List.range_succ, List.foldl_append]
  rfl
theorem most_succ (N : Nat) (m : Mc) (i : Nat) : most N m (i + 1) = inn m i (most N m i) N := by
  unfold most
  rw [List.range_succ, List.foldl_append]
  rfl
theorem last_succ (m : Mc) (i : Nat) : last m (i + 1) = max (last m i) (el m i) := by
  unfold last
  rw [List.range_succ, List.foldl_append]
  rfl
theorem outp_length (m : Mc) (s : Nat) (b : UInt8) : (outp m s b).length = ol m s b.toNat := by
  unfold outp ol
  rw [List.length_append, list_len]
  split <;> simp <;> omega
theorem ol_le {m : Mc} (h : Right m) (s b : Nat) : ol m s b ≤ 4097 := by
  have := h.tx_le (pt m s b / 2)
  unfold ol
  omega
theorem inn_le {m : Mc} (h : Right m) (s k j : Nat) (hk : k ≤ 4097) : inn m s k j ≤ 4097 := by
  induction j with
  | zero => exact hk
  | succ j ih => rw [inn_succ]; have := ol_le h s j; omega
theorem inn_ge (m : Mc) (s k j : Nat) : k ≤ inn m s k j := by
  induction j with
  | zero => exact Nat.le_refl _
  | succ j ih => rw [inn_succ]; omega
theorem inn_at (m : Mc) (s k j b : Nat) (hb : b < j) : ol m s b ≤ inn m s k j := by
  induction j with
  | zero => omega
  | succ j ih =>
    rw [inn_succ]
    by_cases h : b = j
    · subst h; omega
    · have := ih (by omega); omega
theorem most_le (N : Nat) {m : Mc} (h : Right m) (i : Nat) : most N m i ≤ 4097 := by
  induction i with
  | zero => exact Nat.zero_le _
  | succ i ih => rw [most_succ]; exact inn_le h i _ N ih
theorem most_at (N : Nat) (m : Mc) (i s b : Nat) (hs : s < i) (hb : b < N) : ol m s b ≤ most N m i := by
  induction i with
  | zero => omega
  | succ i ih =>
    rw [most_succ]
    by_cases h : s = i
    · subst h; exact inn_at m s _ N b hb
    · exact Nat.le_trans (ih (by omega)) (inn_ge m i _ N)
theorem last_le {m : Mc} (h : Right m) (i : Nat) : last m i ≤ 4096 := by
  induction i with
  | zero => exact Nat.zero_le _
  | succ i ih => rw [last_succ]; have := h.tx_le (en m i); unfold el; omega
theorem last_at (m : Mc) (i s : Nat) (hs : s < i) : el m s ≤ last m i := by
  induction i with
  | zero => omega
  | succ i ih =>
    rw [last_succ]
    by_cases h : s = i
    · subst h; omega
    · have := ih (by omega); omega
theorem go_most (N : Nat) (hN : N = 256) {m : Mc} (h : Right m) {s : Nat} (hs : s < m.next.length) (l : List UInt8) : (go m s l).1.length ≤ most N m m.next.length * l.length := by
  induction l generalizing s with
  | nil => simp [go]
  | cons b l ih =>
    have h1 := ih (h.nx_lt hs b.toNat_lt)
    have h2 := most_at N m m.next.length s b.toNat hs (by rw [hN]; exact b.toNat_lt)
    simp only [go, List.length_append, List.length_cons, outp_length, Nat.mul_add, Nat.mul_one]
    omega
theorem total_most (N : Nat) (hN : N = 256) {m : Mc} (h : Right m) (l : List UInt8) : (total m 0 l).length ≤ most N m m.next.length * l.length + last m m.next.length := by
  have h1 := go_most N hN h h.one l
  have h2 := last_at m m.next.length _ (go_lt h h.one l)
  unfold total
  rw [List.length_append, list_len]
  unfold el at h2
  omega
def gN (N : Nat) (m : Mc) : Nat := if right m = true then most N m m.next.length else 0
def gL (m : Mc) : Nat := if right m = true then last m m.next.length else 0

def GrowIs (f : Nat) (m : Mc) (n l : Nat) : Prop := ∀ p w, MAt (In w) w m p → Calls Try.prog f #[.agg (mv m p)] w fun e w' => e = .returned (.tuple #[.int .i64 (n : Int), .int .i64 (l : Int)]) ∧ Below w.heap.size w w'
end Go.Proofs.Ytlmodfeiphffcaa.tr

namespace Go.Proofs.Ytlmodfeiphffcaa.tr
open Go.ChangeShapes Go.WideShapes Go.ChangeAt Go.RowKit Go.Shelf
set_option linter.unusedVariables false

theorem u8_nat (b : Nat) (hb : b < 256) : IntKind.u8.wrap (b : Int) = (b : Int) := by
  unfold IntKind.wrap
  simp [IntKind.bits, IntKind.signed]
  omega
theorem of_nat (b : Nat) (hb : b < 256) : (UInt8.ofNat b).toNat = b := by simp; omega
end Go.Proofs.Ytlmodfeiphffcaa.tr

namespace Go.Proofs.Ytlmodfeiphffcaa.tr
open Go.ChangeShapes Go.WideShapes Go.ChangeAt Go.RowKit
set_option linter.unusedVariables false

theorem set_heap (w : World) (g : Nat) (cs : Array Value) (T : TypeId) (i : Nat) (x : Value) (h : w.heap[g]? = some (.cells cs T (0, 0))) : (w.setCell ⟨g, i, none⟩ x).heap[g]? = some (.cells (cs.setIfInBounds i x) T (0, 0)) := by
  show (w.heap.modify g _)[g]? = _
  rw [Array.getElem?_modify, if_pos rfl, h]
  rfl
/-- an array of 256 bytes in a block of its own -/
def cells48 (xs : List Nat) : Array Value := (xs.map fun n : Nat => Value.int .u8 (n : Int)).toArray
def Arr (w : World) (g : Nat) (xs : List Nat) : Prop := w.heap[g]? = some (.cells (cells48 xs) 48 (0, 0)) ∧ xs.length = 256
theorem Arr.lt {w : World} {g : Nat} {xs : List Nat} (h : Arr w g xs) : g < w.heap.size := (Array.getElem?_eq_some_iff.1 h.1).1
theorem Arr.later {w w' : World} {g : Nat} {xs : List Nat} (h : Arr w g xs) {B : Nat} (b : Below B w w') (hB : g < B) : Arr w' g xs := ⟨by rw [b.block g hB]; exact h.1, h.2⟩
theorem Arr.cell {w : World} {g : Nat} {xs : List Nat} (h : Arr w g xs) (i : Nat) (hi : i < 256) : w.cell? ⟨g, i, none⟩ = some (.int .u8 (xs.getD i 0 : Nat)) := by
  have hi2 : i < xs.length := by rw [h.2]; exact hi
  rw [Lib.cell_of_heap h.1, List.getD_eq_getElem?_getD, List.getElem?_eq_getElem hi2]
  simp [cells48, hi2]
theorem Arr.fz {w : World} {g : Nat} {xs : List Nat} (h : Arr w g xs) (i : Nat) : w.frozen? ⟨g, i, none⟩ = false := Lib.frozen_of_heap h.1 i
theorem Arr.put {w : World} {g : Nat} {xs : List Nat} (h : Arr w g xs) (i v : Nat) : Arr (w.setCell ⟨g, i, none⟩ (.int .u8 v)) g (xs.set i v) := by
  refine ⟨?_, by rw [List.length_set]; exact h.2⟩
  rw [set_heap w g _ _ i _ h.1]
  congr 2
  simp [cells48]
theorem Arr.other {w : World} {g k : Nat} {xs : List Nat} (h : Arr w g xs) (hne : g ≠ k) (i : Nat) (u : Value) : Arr (w.setCell ⟨k, i, none⟩ u) g xs := ⟨by rw [Below.heap_setCell _ _ _ _ hne]; exact h.1, h.2⟩
theorem cells48_size (xs : List Nat) (h : xs.length = 256) : (cells48 xs).size = 256 := by simp [cells48, h]
theorem cells48_one (xs : List Nat) : (cells48 xs).all (·.oneCell') = true := by
  rw [Array.all_eq_true_iff_forall_mem]
  intro x hx
  simp [cells48] at hx
  obtain ⟨n, _, rfl⟩ := hx
  rfl
def noughts : List Nat := List.replicate 256 0
theorem noughts_len : noughts.length = 256 := List.length_replicate
theorem zero48 : ∀ w, (zeroValue 48).run Try.prog w = .ok (.agg (cells48 noughts)) w :=
  (zero_of_info (P := Try.prog) (t := 48) (v := .agg (cells48 noughts)) (n := 256) (by kernel_rfl)).1
theorem info48 (xs : List Nat) (h : xs.length = 256) : (Try.prog.info? 48).map (·.size) = some (cells48 xs).size := by
  rw [cells48_size xs h]
  kernel_rfl
theorem Arr.row {w : World} {g : Nat} {xs ys : List Nat} (h : Arr w g xs) (hy : ys.length = 256) : Arr (w.setRow g (cells48 ys)) g ys := ⟨setRow_heap w g _ _ _ _ h.1, hy⟩
theorem Arr.row_other {w : World} {g k : Nat} {xs : List Nat} (h : Arr w g xs) (hne : g ≠ k) (cs : Array Value) : Arr (w.setRow k cs) g xs := ⟨by rw [setRow_other _ _ _ _ hne]; exact h.1, h.2⟩
/-- an array of 256 bytes that is handed back through a cell, and a bool beside it -/
theorem ret48 {fn : Func} {p u : Tmp} (h : fn.results = #[.cell p 48, .tmp u]) {a : Act} {W : World} {R : Ending → World → Prop} (g : Nat) (xs : List Nat) (n : Bool) (hp : a.tmps.getD p undef = .pointer (some ⟨g, 0, none⟩)) (hA : Arr W g xs) (hu : a.tmps.getD u undef = .bool n) (hd : a.defers = [])
    (hR : R (.returned (.tuple #[.agg (cells48 xs), .bool n])) W) : bodyPost Try.prog fn R .ret a W :=
  bodyPost_ret (by rw [results_cell_tmp h, hp, hu]; simp [asAddr, Result.andThen, run_loadVar_row W g 48 48 _ (0, 0) _ hA.1 Try.underlying48 rfl (info48 xs hA.2)]) hd hR
theorem store_new (w : World) (xs ys : List Nat) (hx : xs.length = 256) (hy : ys.length = 256) : (storeCells ⟨w.heap.size, 0, none⟩ (cells48 ys).toList).run Try.prog (w.alloc (.cells (cells48 xs) 48)) = .ok () (w.alloc (.cells (cells48 ys) 48)) :=
  run_storeCells_new (P := Try.prog) w 48 (cells48 xs) (cells48 ys) (info48 ys hy) (by rw [cells48_size xs hx, cells48_size ys hy]) (cells48_one ys)
section
variable {ops : Array Oper} {o : Oper} {a : Act} {w : World} {K : Act → World → Prop} {Q : Exit → Act → World → Prop} {E : Prop}
theorem step_load48 (hgd : o.guard = none) (x : Operand) (ho : o.op = .load 48 x) (g : Nat) (hx : a.eval x = .pointer (some ⟨g, 0, none⟩)) (xs : List Nat) (hA : Arr w g xs) (h : K (a.put o.dst (.agg (cells48 xs))) w) : if Region.wanted o (yielded ops a.tmps) = true then Oper.wp Try.prog o a w K Q else E := by
  have hw : Region.wanted o (yielded ops a.tmps) = true := by simp [Region.wanted, hgd]
  rw [if_pos hw]
  exact wp_load_row 48 x ho g hx 48 _ (0, 0) _ hA.1 Try.underlying48 rfl (info48 xs hA.2) h
theorem step_store48 (hgd : o.guard = none) (x y : Operand) (ho : o.op = .store 48 x y) (g : Nat) (ys : List Nat) (hx : a.eval x = .pointer (some ⟨g, 0, none⟩)) (hy : a.eval y = .agg (cells48 ys)) (xs : List Nat) (hA : Arr w g xs) (hl : ys.length = 256) (h : K (a.put o.dst undef) (w.setRow g (cells48 ys))) : if Region.wanted o (yielded ops a.tmps) = true then Oper.wp Try.prog o a w K Q else E := by
  have hw : Region.wanted o (yielded ops a.tmps) = true := by simp [Region.wanted, hgd]
  rw [if_pos hw]
  exact wp_store_row 48 x y ho g _ hx hy 48 _ hA.1 (info48 ys hl) (by rw [cells48_size _ hA.2, cells48_size _ hl]) (cells48_one _) h
end
/-- two arrays held against one another -/
theorem eq48 (xs ys : List Nat) (hx : xs.length = 256) (hy : ys.length = 256) (W : World) : (Op.equalIn 10000 48 (.agg (cells48 xs)) (.agg (cells48 ys))).run Try.prog W = .ok (decide (xs = ys)) W := by
  obtain ⟨i, hi, _, _, _⟩ := info_parts info5
  have c5 : Try.prog.cellsOf 5 = 1 := by kernel_rfl
  have he : ∀ x y : Int, (Op.equalIn 9999 5 (.int .u8 x) (.int .u8 y)).run Try.prog W = .ok (x == y) W := fun x y => by
    rw [run_equalIn_int W 9998 5 .u8 .u8 x y Try.underlying5]
  have hp : ∀ zs : List Nat, zs.length = 256 → ∀ j, j < 256 → (part 5 (cells48 zs) j).run Try.prog W = .ok (.int .u8 (zs.getD j 0 : Nat)) W := fun zs hz j hj => by
    have hj2 : j < zs.length := by omega
    simp [part, Try.isAgg5, cells48, hj2]
  rw [run_equalIn_array W 9999 _ _ Try.underlying48 hi, c5]
  have key : ∀ is : List Nat, (∀ j ∈ is, j < 256) → (Op.eqItems 9999 5 1 (cells48 xs) (cells48 ys) is).run Try.prog W = .ok (is.all fun j => xs.getD j 0 == ys.getD j 0) W := by
    intro is
    induction is with
    | nil => intro _; simp [Op.eqItems]
    | cons j is ih =>
      intro hj
      have h1 := hp xs hx j (hj j (by simp))
      have h2 := hp ys hy j (hj j (by simp))
      have e : (((xs.getD j 0 : Nat) : Int) == ((ys.getD j 0 : Nat) : Int)) = (xs.getD j 0 == ys.getD j 0) := by
        rw [Bool.eq_iff_iff, beq_iff_eq, beq_iff_eq]
        omega
      have h3 := he (xs.getD j 0 : Nat) (ys.getD j 0 : Nat)
      rw [e] at h3
      have h4 := ih (fun k hk => hj k (by simp [hk]))
      rw [List.all_cons]
      clear e he ih hp
      generalize xs.getD j 0 = x at *
      generalize ys.getD j 0 = y at *
      cases hb : (x == y) with
      | true =>
        rw [hb] at h3
        rw [Bool.true_and]
        simp [Op.eqItems, h1, h2, h3, h4]
      | false =>
        rw [hb] at h3
        rw [Bool.false_and]
        simp [Op.eqItems, h1, h2, h3]
  rw [key _ (fun j hj => by simpa using hj)]
  have e : ((List.range 256).all fun j => xs.getD j 0 == ys.getD j 0) = decide (xs = ys) := by
    rw [Bool.eq_iff_iff, List.all_eq_true, decide_eq_true_iff]
    constructor
    · intro h
      refine List.ext_getElem (by omega) fun i h1 h2 => ?_
      have := h i (List.mem_range.2 (by omega))
      rw [beq_iff_eq] at this
      simpa [List.getD_eq_getElem?_getD, h1, h2] using this
    · rintro rfl
      intro j _
      exact beq_iff_eq.2 rfl
  rw [e]

/-- a row of ints that is made -/
def icells (l : List Int) : Array Value := (l.map fun x => Value.int .i64 x).toArray
def IRow (w : World) (g : Nat) (l : List Int) : Prop := w.heap[g]? = some (.cells (icells l) 3 (0, 0))
section
variable {w w' : World} {g : Nat} {l : List Int}
theorem IRow.lt (h : IRow w g l) : g < w.heap.size := (Array.getElem?_eq_some_iff.1 h).1
theorem IRow.later (h : IRow w g l) (b : Below w.heap.size w w') : IRow w' g l := by unfold IRow; rw [b.block g h.lt]; exact h
theorem IRow.keep (h : IRow w g l) (e : w'.heap[g]? = w.heap[g]?) : IRow w' g l := e.trans h
theorem IRow.cell (h : IRow w g l) (i : Nat) (hi : i < l.length) : w.cell? ⟨g, i, none⟩ = some (.int .i64 l[i]) := by
  rw [Lib.cell_of_heap h]
  simp [icells, hi]
theorem IRow.fz (h : IRow w g l) (i : Nat) : w.frozen? ⟨g, i, none⟩ = false := Lib.frozen_of_heap h i
theorem IRow.put (h : IRow w g l) (i : Nat) (x : Int) : IRow (w.setCell ⟨g, i, none⟩ (.int .i64 x)) g (l.set i x) := by
  unfold IRow
  rw [set_heap w g _ _ i _ h]
  congr 2
  simp [icells]
theorem IRow.other (h : IRow w g l) {k : Nat} (hne : g ≠ k) (i : Nat) (v : Value) : IRow (w.setCell ⟨k, i, none⟩ v) g l := (Below.heap_setCell _ _ _ g (fun e => hne e)).trans h
end
theorem info3 : (Try.prog.info? 3).map (fun i => (i.zero, i.size, i.bytes)) = some (some (.int .i64 0), 1, 8) := by kernel_rfl
theorem icells_made (n : Nat) : madeCells #[.int .i64 0] n = icells (List.replicate n 0) := by
  apply Array.toList_inj.1
  rw [toList_madeCells_one]
  simp [icells]
theorem make23 (n : Nat) (hn : n ≤ 1000000) (W : World) : (Instr.makeSlice 23 (.int .i64 (n : Int)) (.int .i64 (n : Int))).run Try.prog W = .ok (.slice (some ⟨W.heap.size, 0, none⟩) n n) (W.alloc (.cells (icells (List.replicate n 0)) 3)) := by
  rw [← icells_made]
  exact run_make_row' (P := Try.prog) 23 3 (.int .i64 0) 8 Try.underlying23 info3 rfl .i64 .i64 n (by omega) (by omega) W
theorem irow_new (W : World) (l : List Int) : IRow (W.alloc (.cells (icells l) 3)) W.heap.size l := heap_alloc_new W _

/-- the states that are reached -/
inductive Rch (m : Mc) : Nat → Prop
  | zero : Rch m 0
  | step {s b : Nat} : Rch m s → b < 256 → Rch m (nx m s b)
theorem Rch.lt {m : Mc} (h : Right m) {s : Nat} (r : Rch m s) : s < m.next.length := by
  induction r with
  | zero => exact h.one
  | step _ hb ih => exact h.nx_lt ih hb
/-- a state makes one byte of each, and nothing at the end -/
def Sg (m : Mc) (s : Nat) : Prop := el m s = 0 ∧ ∀ b, b < 256 → ol m s b = 1
/-- the byte -/
def fbyte (m : Mc) (s b : Nat) : Nat := if pt m s b % 2 = 1 then b else ((tx m (pt m s b / 2)).data.toList.headD 0).toNat
def tb (f : Nat → Nat) (j : Nat) : List Nat := (List.range 256).map fun i => if i < j then f i else 0
theorem tb_len (f : Nat → Nat) (j : Nat) : (tb f j).length = 256 := by rw [tb, List.length_map, List.length_range]
theorem tb_set (f : Nat → Nat) (j : Nat) (hj : j < 256) : (tb f j).set j (f j) = tb f (j + 1) := by
  refine List.ext_getElem (by rw [List.length_set, tb_len, tb_len]) fun i h1 h2 => ?_
  rw [List.getElem_set]
  simp only [tb, List.getElem_map, List.getElem_range]
  by_cases e : j = i
  · subst e
    simp
  · rw [if_neg e]
    by_cases hlt : i < j
    · rw [if_pos hlt, if_pos (by omega)]
    · rw [if_neg hlt, if_neg (by omega)]
theorem tb_zero (f : Nat → Nat) : tb f 0 = noughts := by
  refine List.ext_getElem (by rw [tb_len, noughts_len]) fun i h1 h2 => ?_
  simp only [tb, List.getElem_map, noughts, List.getElem_replicate]
  rw [if_neg (by omega)]
def fb (m : Mc) (s : Nat) : List Nat := tb (fbyte m s) 256
/-- what Bytes asks -/
def One (m : Mc) : Prop := ∀ s, Rch m s → Sg m s ∧ fb m s = fb m 0
end Go.Proofs.Ytlmodfeiphffcaa.tr
