/-
  Plain mathematics and memory: a dfa, which may be, what it takes; how it lies in memory; the load of its classes.
-/
import Derived.Test.YtkdkibnjfgcppaaRows
import Derived.WalkKit
import Derived.ChangeAt
import Derived.Below
import Derived.Lib.OthersKept
import Derived.Laws.Rows
import Derived.WalkLawsBesides
namespace Go.Proofs.Ytkdkibnjfgcppaa.df
open Go.ChangeShapes Go.WideShapes Go.ChangeAt Go.RowKit
set_option linter.unusedVariables false

theorem below_alloc (w : World) (o : Obj) : Below w.heap.size w (w.alloc o) := (Below.refl _ _).alloc (Nat.le_refl _) o
theorem chain {w w1 w2 : World} (h1 : Below w.heap.size w w1) (h2 : Below w1.heap.size w1 w2) : Below w.heap.size w w2 := h1.trans (h2.mono h1.size)

theorem below_drewN {B : Nat} {a w : World} (h : Below B a w) (n : Nat) : Below B a (w.drewN n) := ⟨h.os, h.tape, h.output, h.size, h.block⟩

structure Dfa where
  cls : Nat → Nat
  next : List (List Int)
  acc : List Bool

def goOn (n : Nat) (r : List Int) : Bool := r.all fun x => decide (-1 ≤ x) && decide (x < (n : Int))
def width (d : Dfa) : Nat := (d.next[0]?.getD []).length
def rowOk (n k : Nat) (r : List Int) : Bool := r.length == k && goOn n r
def clsOk (d : Dfa) : Bool := (List.range 256).all fun i => decide (d.cls i < width d)
def right (d : Dfa) : Bool := decide (1 ≤ d.next.length) && decide (d.next.length ≤ 400) && (d.acc.length == d.next.length) && decide (1 ≤ width d) && decide (width d ≤ 256) && d.next.all (rowOk d.next.length (width d)) && clsOk d

/-- a row of one cell each, in blocks of which P is said -/
structure Row {α : Type} (P : Nat → Prop) (w : World) (g : α → Value) (o : Option Addr) (cap : Nat) (l : List α) : Prop where
  fit : l.length ≤ cap
  top : cap ≤ 9223372036854775807
  lie : ∀ i (h : i < l.length), ∃ b off, o = some ⟨b, off, none⟩ ∧ P b ∧ w.cell? ⟨b, off + i, none⟩ = some (g l[i])
theorem Row.carry {α : Type} {P Q : Nat → Prop} {w w' : World} {g : α → Value} {o : Option Addr} {cap : Nat} {l : List α} (h : Row P w g o cap l) (hk : ∀ b, P b → w'.heap[b]? = w.heap[b]?) (hq : ∀ b, P b → Q b) : Row Q w' g o cap l :=
  ⟨h.fit, h.top, fun i hi => by
    obtain ⟨b, off, e, hp, hc⟩ := h.lie i hi
    exact ⟨b, off, e, hq b hp, by simp only [World.cell?, hk b hp] at hc ⊢; exact hc⟩⟩
abbrev iv (x : Int) : Value := .int .i64 x
abbrev bv (x : Bool) : Value := .bool x
/-- rows of rows -/
structure RowRow (P : Nat → Prop) (w : World) (o : Option Addr) (cap : Nat) (l : List (List Int)) : Prop where
  fit : l.length ≤ cap
  top : cap ≤ 9223372036854775807
  lie : ∀ i (h : i < l.length), ∃ b off oi ci, o = some ⟨b, off, none⟩ ∧ P b ∧ w.cell? ⟨b, off + i, none⟩ = some (.slice oi l[i].length ci) ∧ Row P w iv oi ci l[i]
theorem RowRow.carry {P Q : Nat → Prop} {w w' : World} {o : Option Addr} {cap : Nat} {l : List (List Int)} (h : RowRow P w o cap l) (hk : ∀ b, P b → w'.heap[b]? = w.heap[b]?) (hq : ∀ b, P b → Q b) : RowRow Q w' o cap l :=
  ⟨h.fit, h.top, fun i hi => by
    obtain ⟨b, off, oi, ci, e, hp, hc, hr⟩ := h.lie i hi
    exact ⟨b, off, oi, ci, e, hq b hp, by simp only [World.cell?, hk b hp] at hc ⊢; exact hc, hr.carry hk hq⟩⟩
/-- a dfa as a value, with what it leads to in memory -/
structure DAt (P : Nat → Prop) (w : World) (d : Dfa) (cs : Array Value) (o : Option Addr) (cap : Nat) (ao : Option Addr) (acap : Nat) : Prop where
  size : cs.size = 258
  cl : ∀ i, i < 256 → cs[i]? = some (.int .u8 (d.cls i : Nat))
  c8 : ∀ i, d.cls i < 256
  nx : cs[256]? = some (.slice o d.next.length cap)
  ac : cs[257]? = some (.slice ao d.acc.length acap)
  rows : RowRow P w o cap d.next
  accs : Row P w bv ao acap d.acc
theorem DAt.carry {P Q : Nat → Prop} {w w' : World} {d : Dfa} {cs : Array Value} {o ao : Option Addr} {cap acap : Nat} (h : DAt P w d cs o cap ao acap) (hk : ∀ b, P b → w'.heap[b]? = w.heap[b]?) (hq : ∀ b, P b → Q b) : DAt Q w' d cs o cap ao acap :=
  ⟨h.size, h.cl, h.c8, h.nx, h.ac, h.rows.carry hk hq, h.accs.carry hk hq⟩
abbrev In (w : World) (b : Nat) : Prop := b < w.heap.size
theorem DAt.later {w w' : World} {d : Dfa} {cs : Array Value} {o ao : Option Addr} {cap acap : Nat} (h : DAt (In w) w d cs o cap ao acap) (b : Below w.heap.size w w') : DAt (In w') w' d cs o cap ao acap :=
  h.carry (fun k hk => b.block k hk) (fun k hk => Nat.lt_of_lt_of_le hk b.size)

/-- a dfa in a cell of its own -/
def DBox (w : World) (g : Nat) (cs : Array Value) : Prop := w.heap[g]? = some (.cells cs 26 (0, 0))
section
variable {P : Nat → Prop} {w w' : World} {g : Nat} {d : Dfa} {cs : Array Value} {o ao : Option Addr} {cap acap : Nat}
theorem DBox.lt (h : DBox w g cs) : g < w.heap.size := (Array.getElem?_eq_some_iff.1 h).1
theorem DBox.later (h : DBox w g cs) (b : Below w.heap.size w w') : DBox w' g cs := by unfold DBox; rw [b.block g h.lt]; exact h
theorem DBox.cl (h : DBox w g cs) (k : DAt P w' d cs o cap ao acap) (i : Nat) (hi : i < 256) : w.cell? ⟨g, i, none⟩ = some (.int .u8 (d.cls i : Nat)) := by rw [Lib.cell_of_heap h]; exact k.cl i hi
theorem DBox.nx (h : DBox w g cs) (k : DAt P w' d cs o cap ao acap) : w.cell? ⟨g, 256, none⟩ = some (.slice o d.next.length cap) := by rw [Lib.cell_of_heap h]; exact k.nx
theorem DBox.ac (h : DBox w g cs) (k : DAt P w' d cs o cap ao acap) : w.cell? ⟨g, 257, none⟩ = some (.slice ao d.acc.length acap) := by rw [Lib.cell_of_heap h]; exact k.ac
end
theorem dbox_new (w : World) (cs : Array Value) : DBox (w.alloc (.cells cs 26)) w.heap.size cs := heap_alloc_new w _
theorem info26 (cs : Array Value) (h : cs.size = 258) : (Try.prog.info? 26).map (·.size) = some cs.size := by rw [h]; kernel_rfl
theorem info22 : (Try.prog.info? 22).map (·.size) = some 256 := by kernel_rfl

theorem run_load_part {P : Program} (w : World) (g : Nat) (t ty : TypeId) (cs : Array Value) (n : Nat) (hn : n ≤ cs.size) (d : TypeDesc) (hg : w.heap[g]? = some (.cells cs t (0, 0)))
    (hu : P.underlying ty = some d) (hd : (match d with | .struct _ | .array _ _ => true | _ => false) = true) (hi : (P.info? ty).map (·.size) = some n) :
    (loadVar ty ⟨g, 0, none⟩).run P w = .ok (.agg (cs.extract 0 n)) w := by
  have hl : (loadCells ⟨g, 0, none⟩ (cs.extract 0 n).toList.length).run P w = .ok (cs.extract 0 n).toList.toArray w :=
    run_loadCells_list (P := P) w ⟨g, 0, none⟩ (cs.extract 0 n).toList (fun j v hv => by
      have hadd : (⟨g, 0, none⟩ : Addr).add j = ⟨g, j, none⟩ := by unfold Addr.add; split <;> simp_all
      rw [hadd, cell_of_row w g j cs t (0, 0) hg]
      rw [Array.getElem?_toList, Array.getElem?_extract] at hv
      split at hv
      · simpa using hv
      · cases hv)
  have he : (cs.extract 0 n).size = n := by simp; omega
  cases hq : P.info? ty with
  | none => simp [hq] at hi
  | some i =>
    have hs : i.size = n := by simpa [hq] using hi
    have hagg : (isAgg ty).run P w = .ok true w := by
      unfold isAgg
      rw [Sem.run_bind, run_underlying hu w]
      cases d <;> simp_all
    simp only [Array.length_toList, Array.toArray_toList, he] at hl
    simp [loadVar, Sem.run_bind, hagg, sizeOf, typeInfo, hq, hs, hl]
theorem run_load22 (w : World) (g : Nat) (cs : Array Value) (h : DBox w g cs) (hs : cs.size = 258) : (loadVar 22 ⟨g, 0, none⟩).run Try.prog w = .ok (.agg (cs.extract 0 256)) w :=
  run_load_part w g 26 22 cs 256 (by omega) _ h Try.underlying22 rfl info22
theorem wpList_load22 {ops : Array Oper} {rest : List Oper} {oo : Oper} {a : Act} {w : World} {Q : Exit → Act → World → Prop} (hgd : oo.guard = none) (x : Operand) (ho : oo.op = .load 22 x)
    (g : Nat) (hx : a.eval x = .pointer (some ⟨g, 0, none⟩)) (cs : Array Value) (hg : DBox w g cs) (hs : cs.size = 258)
    (h : wpList Try.prog ops Q rest (a.put oo.dst (.agg (cs.extract 0 256))) w) : wpList Try.prog ops Q (oo :: rest) a w :=
  wpList_plain hgd fun _ hK => by
    unfold Oper.wp execOp
    simp only [ho, hx, Instr.loadAt, Instr.sureAddr, Sem.run_bind, Sem.run_pure, Result.andThen_ok, run_load22 w g cs hg hs]
    exact hK _ _ h
theorem run_index_arr {P : Program} (t e : TypeId) (n : Nat) (cs : Array Value) (i : Nat) (hi : i < n) (v : Value) (hv : cs[i]? = some v) (W : World) (hu : P.underlying t = some (.array n e)) (ha : (isAgg e).run P W = .ok false W) (hz : (sizeOf e).run P W = .ok 1 W) : (Instr.index t (.agg cs) (.int .i64 (i : Int))).run P W = .ok v W := by
  simp [Instr.index, asIntOf, run_underlying hu, part, ha, hz, hv]
  intro h
  omega
theorem index22 (cs : Array Value) (i : Nat) (hi : i < 256) (v : Value) (hv : cs[i]? = some v) (hs : cs.size = 258) (W : World) : (Instr.index 22 (.agg (cs.extract 0 256)) (.int .i64 (i : Int))).run Try.prog W = .ok v W := by
  have he : (cs.extract 0 256)[i]? = some v := by
    rw [Array.getElem?_extract]
    rw [if_pos (by omega)]
    simpa using hv
  exact run_index_arr 22 5 256 _ i hi v he W Try.underlying22 (Try.isAgg5 W) (Try.sizeOf5 W)
end Go.Proofs.Ytkdkibnjfgcppaa.df
