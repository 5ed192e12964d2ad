/-
  Texts put together: Plain mathematics and memory: a dfa, which may be, what it takes; how it lies in memory; the load of its classes. Contracts over this program: whether a row's elements are states or none (dfa.goOn). Contracts over this program: which dfa may be (dfa.Right). Contracts over this program: which dfa may be (dfa.Right), its loops; as a whole. Contracts over this program: which dfa may be, as the document has it (fretsawref08's Right). Plain mathematics: the places at which what a dfa takes may end. Over this program: the iterator that hands on the places of Ends (dfa.taken's closure), for every body that keeps its memory. Over this program: the iterator that hands on the places of Ends goes on (dfa.taken's closure). Contracts over this program: dfa.taken, slices.AppendSeq and slices.Collect over it, dfa.Ends, dfa.Longest. Contracts over this program: the document's Ends and Longest (fretsawref08), Ints (fretsawref07), short.
-/
import Derived.Test.YtfilndgbgdnpiaaRows
import Derived.WalkKit
import Derived.ChangeAt
import Derived.Below
import Derived.Lib.OthersKept
import Derived.Laws.Rows
import Derived.WalkLawsBesides
import Derived.BigQuiet
import Derived.Deep.QuietTactic
import Derived.RangeFuncNested
import Derived.RangeFuncBound
import Derived.RangeFuncCalls
import Derived.RangeFuncLeaves
import Derived.RangeFuncBox
import Derived.Shelf.Abstract
import Derived.Shelf.RegionOpen
import Derived.OwnWalkIn
import Derived.TacticsInMore
import Derived.LoopNIn
import Derived.LoopIn
import Derived.Sort.QuietIn
import Derived.Maps.AppendAt
import Derived.Laws.OwnMore
import Derived.OwnWalk
namespace Go.Proofs.Ytfilndgbgdnpiaa.df
open Go.ChangeShapes Go.WideShapes Go.ChangeAt Go.RowKit
set_option linter.unusedVariables false

theorem below_alloc (w : World) (o : Obj) : Below w.heap.size w (w.alloc o) := (Below.refl _ _).alloc (Nat.le_refl _) o
theorem chain {w w1 w2 : World} (h1 : Below w.heap.size w w1) (h2 : Below w1.heap.size w1 w2) : Below w.heap.size w w2 := h1.trans (h2.mono h1.size)

theorem below_drewN {B : Nat} {a w : World} (h : Below B a w) (n : Nat) : Below B a (w.drewN n) := ⟨h.os, h.tape, h.output, h.size, h.block⟩

structure Dfa where
  cls : Nat → Nat
  next : List (List Int)
  acc : List Bool

def goOn (n : Nat) (r : List Int) : Bool := r.all fun x => decide (-1 ≤ x) && decide (x < (n : Int))
def width (d : Dfa) : Nat := (d.next[0]?.getD []).length
def rowOk (n k : Nat) (r : List Int) : Bool := r.length == k && goOn n r
def clsOk (d : Dfa) : Bool := (List.range 256).all fun i => decide (d.cls i < width d)
def right (d : Dfa) : Bool := decide (1 ≤ d.next.length) && decide (d.next.length ≤ 400) && (d.acc.length == d.next.length) && decide (1 ≤ width d) && decide (width d ≤ 256) && d.next.all (rowOk d.next.length (width d)) && clsOk d

/-- a row of one cell each, in blocks of which P is said -/
structure Row {α : Type} (P : Nat → Prop) (w : World) (g : α → Value) (o : Option Addr) (cap : Nat) (l : List α) : Prop where
  fit : l.length ≤ cap
  top : cap ≤ 9223372036854775807
  lie : ∀ i (h : i < l.length), ∃ b off, o = some ⟨b, off, none⟩ ∧ P b ∧ w.cell? ⟨b, off + i, none⟩ = some (g l[i])
theorem Row.carry {α : Type} {P Q : Nat → Prop} {w w' : World} {g : α → Value} {o : Option Addr} {cap : Nat} {l : List α} (h : Row P w g o cap l) (hk : ∀ b, P b → w'.heap[b]? = w.heap[b]?) (hq : ∀ b, P b → Q b) : Row Q w' g o cap l :=
  ⟨h.fit, h.top, fun i hi => by
    obtain ⟨b, off, e, hp, hc⟩ := h.lie i hi
    exact ⟨b, off, e, hq b hp, by simp only [World.cell?, hk b hp] at hc ⊢; exact hc⟩⟩
abbrev iv (x : Int) : Value := .int .i64 x
abbrev bv (x : Bool) : Value := .bool x
/-- rows of rows -/
structure RowRow (P : Nat → Prop) (w : World) (o : Option Addr) (cap : Nat) (l : List (List Int)) : Prop where
  fit : l.length ≤ cap
  top : cap ≤ 9223372036854775807
  lie : ∀ i (h : i < l.length), ∃ b off oi ci, o = some ⟨b, off, none⟩ ∧ P b ∧ w.cell? ⟨b, off + i, none⟩ = some (.slice oi l[i].length ci) ∧ Row P w iv oi ci l[i]
theorem RowRow.carry {P Q : Nat → Prop} {w w' : World} {o : Option Addr} {cap : Nat} {l : List (List Int)} (h : RowRow P w o cap l) (hk : ∀ b, P b → w'.heap[b]? = w.heap[b]?) (hq : ∀ b, P b → Q b) : RowRow Q w' o cap l :=
  ⟨h.fit, h.top, fun i hi => by
    obtain ⟨b, off, oi, ci, e, hp, hc, hr⟩ := h.lie i hi
    exact ⟨b, off, oi, ci, e, hq b hp, by simp only [World.cell?, hk b hp] at hc ⊢; exact hc, hr.carry hk hq⟩⟩
/-- a dfa as a value, with what it leads to in memory -/
structure DAt (P : Nat → Prop) (w : World) (d : Dfa) (cs : Array Value) (o : Option Addr) (cap : Nat) (ao : Option Addr) (acap : Nat) : Prop where
  size : cs.size = 258
  cl : ∀ i, i < 256 → cs[i]? = some (.int .u8 (d.cls i : Nat))
  c8 : ∀ i, d.cls i < 256
  nx : cs[256]? = some (.slice o d.next.length cap)
  ac : cs[257]? = some (.slice ao d.acc.length acap)
  rows : RowRow P w o cap d.next
  accs : Row P w bv ao acap d.acc
theorem DAt.carry {P Q : Nat → Prop} {w w' : World} {d : Dfa} {cs : Array Value} {o ao : Option Addr} {cap acap : Nat} (h : DAt P w d cs o cap ao acap) (hk : ∀ b, P b → w'.heap[b]? = w.heap[b]?) (hq : ∀ b, P b → Q b) : DAt Q w' d cs o cap ao acap :=
  ⟨h.size, h.cl, h.c8, h.nx, h.ac, h.rows.carry hk hq, h.accs.carry hk hq⟩
abbrev In (w : World) (b : Nat) : Prop := b < w.heap.size
theorem DAt.later {w w' : World} {d : Dfa} {cs : Array Value} {o ao : Option Addr} {cap acap : Nat} (h : DAt (In w) w d cs o cap ao acap) (b : Below w.heap.size w w') : DAt (In w') w' d cs o cap ao acap :=
  h.carry (fun k hk => b.block k hk) (fun k hk => Nat.lt_of_lt_of_le hk b.size)

/-- a dfa in a cell of its own -/
def DBox (w : World) (g : Nat) (cs : Array Value) : Prop := w.heap[g]? = some (.cells cs 51 (0, 0))
section
variable {P : Nat → Prop} {w w' : World} {g : Nat} {d : Dfa} {cs : Array Value} {o ao : Option Addr} {cap acap : Nat}
theorem DBox.lt (h : DBox w g cs) : g < w.heap.size := (Array.getElem?_eq_some_iff.1 h).1
theorem DBox.later (h : DBox w g cs) (b : Below w.heap.size w w') : DBox w' g cs := by unfold DBox; rw [b.block g h.lt]; exact h
theorem DBox.cl (h : DBox w g cs) (k : DAt P w' d cs o cap ao acap) (i : Nat) (hi : i < 256) : w.cell? ⟨g, i, none⟩ = some (.int .u8 (d.cls i : Nat)) := by rw [Lib.cell_of_heap h]; exact k.cl i hi
theorem DBox.nx (h : DBox w g cs) (k : DAt P w' d cs o cap ao acap) : w.cell? ⟨g, 256, none⟩ = some (.slice o d.next.length cap) := by rw [Lib.cell_of_heap h]; exact k.nx
theorem DBox.ac (h : DBox w g cs) (k : DAt P w' d cs o cap ao acap) : w.cell? ⟨g, 257, none⟩ = some (.slice ao d.acc.length acap) := by rw [Lib.cell_of_heap h]; exact k.ac
end
theorem dbox_new (w : World) (cs : Array Value) : DBox (w.alloc (.cells cs 51)) w.heap.size cs := heap_alloc_new w _
theorem info51 (cs : Array Value) (h : cs.size = 258) : (Try.prog.info? 51).map (·.size) = some cs.size := by rw [h]; kernel_rfl
theorem info48 : (Try.prog.info? 48).map (·.size) = some 256 := by kernel_rfl

theorem run_load_part {P : Program} (w : World) (g : Nat) (t ty : TypeId) (cs : Array Value) (n : Nat) (hn : n ≤ cs.size) (d : TypeDesc) (hg : w.heap[g]? = some (.cells cs t (0, 0)))
    (hu : P.underlying ty = some d) (hd : (match d with | .struct _ | .array _ _ => true | _ => false) = true) (hi : (P.info? ty).map (·.size) = some n) :
    (loadVar ty ⟨g, 0, none⟩).run P w = .ok (.agg (cs.extract 0 n)) w := by
  have hl : (loadCells ⟨g, 0, none⟩ (cs.extract 0 n).toList.length).run P w = .ok (cs.extract 0 n).toList.toArray w :=
    run_loadCells_list (P := P) w ⟨g, 0, none⟩ (cs.extract 0 n).toList (fun j v hv => by
      have hadd : (⟨g, 0, none⟩ : Addr).add j = ⟨g, j, none⟩ := by unfold Addr.add; split <;> simp_all
      rw [hadd, cell_of_row w g j cs t (0, 0) hg]
      rw [Array.getElem?_toList, Array.getElem?_extract] at hv
      split at hv
      · simpa using hv
      · cases hv)
  have he : (cs.extract 0 n).size = n := by simp; omega
  cases hq : P.info? ty with
  | none => simp [hq] at hi
  | some i =>
    have hs : i.size = n := by simpa [hq] using hi
    have hagg : (isAgg ty).run P w = .ok true w := by
      unfold isAgg
      rw [Sem.run_bind, run_underlying hu w]
      cases d <;> simp_all
    simp only [Array.length_toList, Array.toArray_toList, he] at hl
    simp [loadVar, Sem.run_bind, hagg, sizeOf, typeInfo, hq, hs, hl]
theorem run_load48 (w : World) (g : Nat) (cs : Array Value) (h : DBox w g cs) (hs : cs.size = 258) : (loadVar 48 ⟨g, 0, none⟩).run Try.prog w = .ok (.agg (cs.extract 0 256)) w :=
  run_load_part w g 51 48 cs 256 (by omega) _ h Try.underlying48 rfl info48
theorem wpList_load48 {ops : Array Oper} {rest : List Oper} {oo : Oper} {a : Act} {w : World} {Q : Exit → Act → World → Prop} (hgd : oo.guard = none) (x : Operand) (ho : oo.op = .load 48 x)
    (g : Nat) (hx : a.eval x = .pointer (some ⟨g, 0, none⟩)) (cs : Array Value) (hg : DBox w g cs) (hs : cs.size = 258)
    (h : wpList Try.prog ops Q rest (a.put oo.dst (.agg (cs.extract 0 256))) w) : wpList Try.prog ops Q (oo :: rest) a w :=
  wpList_plain hgd fun _ hK => by
    unfold Oper.wp execOp
    simp only [ho, hx, Instr.loadAt, Instr.sureAddr, Sem.run_bind, Sem.run_pure, Result.andThen_ok, run_load48 w g cs hg hs]
    exact hK _ _ h
theorem run_index_arr {P : Program} (t e : TypeId) (n : Nat) (cs : Array Value) (i : Nat) (hi : i < n) (v : Value) (hv : cs[i]? = some v) (W : World) (hu : P.underlying t = some (.array n e)) (ha : (isAgg e).run P W = .ok false W) (hz : (sizeOf e).run P W = .ok 1 W) : (Instr.index t (.agg cs) (.int .i64 (i : Int))).run P W = .ok v W := by
  simp [Instr.index, asIntOf, run_underlying hu, part, ha, hz, hv]
  intro h
  omega
theorem index48 (cs : Array Value) (i : Nat) (hi : i < 256) (v : Value) (hv : cs[i]? = some v) (hs : cs.size = 258) (W : World) : (Instr.index 48 (.agg (cs.extract 0 256)) (.int .i64 (i : Int))).run Try.prog W = .ok v W := by
  have he : (cs.extract 0 256)[i]? = some v := by
    rw [Array.getElem?_extract]
    rw [if_pos (by omega)]
    simpa using hv
  exact run_index_arr 48 5 256 _ i hi v he W Try.underlying48 (Try.isAgg5 W) (Try.sizeOf5 W)
end Go.Proofs.Ytfilndgbgdnpiaa.df

namespace Go.Proofs.Ytfilndgbgdnpiaa.df
open Go.ChangeShapes Go.WideShapes Go.ChangeAt Go.RowKit
set_option linter.unusedVariables false

theorem all_take {α : Type} (p : α → Bool) (l : List α) (i : Nat) (h : i < l.length) : (l.take (i + 1)).all p = ((l.take i).all p && p l[i]) := by
  rw [List.take_add_one, List.getElem?_eq_getElem h, List.all_append]
  simp only [Option.toList_some, List.all_cons, List.all_nil, Bool.and_true]
theorem all_no {α : Type} (p : α → Bool) (l : List α) (i : Nat) (h : i < l.length) (hp : p l[i] = false) : l.all p = false := by
  rw [List.all_eq_false]
  exact ⟨l[i], List.getElem_mem h, by simp [hp]⟩

def GoIs (n : Nat) (r : List Int) (a : Bool) : Prop := ∀ o cap w, Row (In w) w iv o cap r → Calls Try.prog 85 #[.slice o r.length cap, .int .i64 (n : Int)] w fun e w' => e = .returned (.bool a) ∧ w' = w
set_option maxHeartbeats 1000000 in
theorem goOn_any (n : Nat) (hn : n ≤ 400) (r : List Int) (a : Bool) (ha : a = goOn n r) : GoIs n r a := by
  intro o cap w hR
  have hfit := hR.fit
  have htop := hR.top
  have HR : Hid (Row (In w) w iv o cap r) := hR
  have HA : Hid (a = goOn n r) := ha
  clear hR ha
  go_enter Try.func85, Try.ntmps85
  go_wp2
  go_loop [9] (fun y => ∃ i : Nat, y = .int .i64 i ∧ i ≤ r.length ∧ Hid ((r.take i).all (fun x => decide (-1 ≤ x) && decide (x < (n : Int))) = true)) (fun y => r.length - (intOf y).toNat)
  case atStart => exact ⟨0, rfl, by omega, by show _ = _; simp⟩
  case round =>
    obtain ⟨i, rfl, hil, HI⟩ := hrel
    by_cases hend : i < r.length
    · obtain ⟨b, off, rfl, hb, hc⟩ := HR.out.lie i hend
      have hall := all_take (fun x => decide (-1 ≤ x) && decide (x < (n : Int))) r i hend
      have hno := all_no (fun x => decide (-1 ≤ x) && decide (x < (n : Int))) r i hend
      rw [HI.out, Bool.true_and] at hall
      unfold In at hb
      obtain ⟨x, hx⟩ : ∃ x, x = r[i] := ⟨_, rfl⟩
      rw [← hx] at hc hall hno
      clear hx
      have HA2 : Hid (a = goOn n r) := HA
      unfold goOn at HA2
      have HNO : Hid ((decide (-1 ≤ x) && decide (x < (n : Int))) = false → a = false) := fun h => HA2.out.trans (hno h)
      have HALL : Hid ((r.take (i + 1)).all (fun x => decide (-1 ≤ x) && decide (x < (n : Int))) = (decide (-1 ≤ x) && decide (x < (n : Int)))) := hall
      clear hno hall HA2
      by_cases g0 : x < -1
      · have f0 : decide (x < -1) = true := decide_eq_true g0
        have HF : Hid (a = false) := HNO.out (by simp; omega)
        clear g0 HNO HALL
        go_wp2
        go_ret
        exact ⟨by rw [HF.out]; rfl, rfl⟩
      · have f0 : decide (x < -1) = false := decide_eq_false g0
        by_cases g1 : (n : Int) ≤ x
        · have f1 : decide ((n : Int) ≤ x) = true := decide_eq_true g1
          have HF : Hid (a = false) := HNO.out (by simp; omega)
          clear g0 g1 HNO HALL
          go_wp2
          go_ret
          exact ⟨by rw [HF.out]; rfl, rfl⟩
        · have f1 : decide ((n : Int) ≤ x) = false := decide_eq_false g1
          have HT : Hid ((r.take (i + 1)).all (fun x => decide (-1 ≤ x) && decide (x < (n : Int))) = true) := by show _ = _; rw [HALL.out]; simp; omega
          clear g0 g1 HNO HALL
          go_wp2
          go_round
          case rel => exact ⟨i + 1, by go_num, by omega, HT⟩
          case measure => simp [intOf]; omega
    · have HF : Hid (a = true) := by
        show _ = _
        have := HI.out
        rw [List.take_of_length_le (by omega)] at this
        rw [HA.out]
        exact this
      go_wp2
      go_ret
      exact ⟨by rw [HF.out]; rfl, rfl⟩
end Go.Proofs.Ytfilndgbgdnpiaa.df

namespace Go.Proofs.Ytfilndgbgdnpiaa.df
open Go.ChangeShapes Go.WideShapes Go.ChangeAt Go.RowKit
set_option linter.unusedVariables false

def RtIs (f : Nat) (d : Dfa) (r : Bool) : Prop := ∀ cs o cap ao acap w, DAt (In w) w d cs o cap ao acap → Calls Try.prog f #[.agg cs] w fun e w' => e = .returned (.bool r) ∧ Below w.heap.size w w'

theorem first_row {w : World} {o : Option Addr} {cap : Nat} {l : List (List Int)} (h : RowRow (In w) w o cap l) (h1 : 1 ≤ l.length) :
    ∃ b off oi ci, o = some ⟨b, off, none⟩ ∧ b < w.heap.size ∧ w.cell? ⟨b, off, none⟩ = some (.slice oi (l[0]?.getD []).length ci) ∧ Row (In w) w iv oi ci (l[0]?.getD []) := by
  obtain ⟨b, off, oi, ci, e, hb, hc, hr⟩ := h.lie 0 (by omega)
  have e0 : l[0]?.getD [] = l[0] := by rw [List.getElem?_eq_getElem (by omega)]; rfl
  rw [e0]
  exact ⟨b, off, oi, ci, e, hb, hc, hr⟩
theorem row_at {w : World} {b off : Nat} {cap : Nat} {l : List (List Int)} (h : RowRow (In w) w (some ⟨b, off, none⟩) cap l) (i : Nat) (hi : i < l.length) :
    ∃ oi ci, w.cell? ⟨b, off + i, none⟩ = some (.slice oi l[i].length ci) ∧ Row (In w) w iv oi ci l[i] := by
  obtain ⟨b', off', oi, ci, e, hb, hc, hr⟩ := h.lie i hi
  cases e
  exact ⟨oi, ci, hc, hr⟩
set_option maxRecDepth 100000 in
set_option maxHeartbeats 1000000 in
theorem right_0 (d : Dfa) (g0 : d.next.length < 1) : RtIs 68 d false := by
  intro cs o cap ao acap w hD
  have hw8 := hD.size
  have hnx := hD.nx
  have hac := hD.ac
  have b0 := dbox_new w cs
  have k0 := b0.nx hD
  have k1 := b0.ac hD
  have hfit := hD.rows.fit
  have htop := hD.rows.top
  have hafit := hD.accs.fit
  have hatop := hD.accs.top
  clear hD
  generalize d.next.length = n at *
  generalize d.acc.length = m at *
  go_enter Try.func68, Try.ntmps68
  go_wp2_with (fail)
  go_ret
  exact ⟨rfl, below_alloc _ _⟩
set_option maxRecDepth 100000 in
set_option maxHeartbeats 1000000 in
theorem right_1 (d : Dfa) (g0 : ¬ d.next.length < 1) (g1 : 400 < d.next.length) : RtIs 68 d false := by
  intro cs o cap ao acap w hD
  have hw8 := hD.size
  have hnx := hD.nx
  have hac := hD.ac
  have b0 := dbox_new w cs
  have k0 := b0.nx hD
  have k1 := b0.ac hD
  have hfit := hD.rows.fit
  have htop := hD.rows.top
  have hafit := hD.accs.fit
  have hatop := hD.accs.top
  clear hD
  generalize d.next.length = n at *
  generalize d.acc.length = m at *
  go_enter Try.func68, Try.ntmps68
  go_wp2_with (fail)
  go_ret
  exact ⟨rfl, below_alloc _ _⟩
set_option maxRecDepth 100000 in
set_option maxHeartbeats 1000000 in
theorem right_2 (d : Dfa) (g0 : ¬ d.next.length < 1) (g1 : ¬ 400 < d.next.length) (g2 : d.acc.length ≠ d.next.length) : RtIs 68 d false := by
  intro cs o cap ao acap w hD
  have hw8 := hD.size
  have hnx := hD.nx
  have hac := hD.ac
  have b0 := dbox_new w cs
  have k0 := b0.nx hD
  have k1 := b0.ac hD
  have hfit := hD.rows.fit
  have htop := hD.rows.top
  have hafit := hD.accs.fit
  have hatop := hD.accs.top
  have f2 : ((d.acc.length : Int) == (d.next.length : Int)) = false := beq_eq_false_iff_ne.2 (by omega)
  have f3 : ((d.acc.length : Int) != (d.next.length : Int)) = true := bne_iff_ne.2 (by omega)
  clear hD
  generalize d.next.length = n at *
  generalize d.acc.length = m at *
  go_enter Try.func68, Try.ntmps68
  go_wp2_with (fail)
  go_ret
  exact ⟨rfl, below_alloc _ _⟩
set_option maxRecDepth 100000 in
set_option maxHeartbeats 1000000 in
theorem right_3 (d : Dfa) (g0 : ¬ d.next.length < 1) (g1 : ¬ 400 < d.next.length) (g2 : d.acc.length = d.next.length) (g3 : width d < 1) : RtIs 68 d false := by
  intro cs o cap ao acap w hD
  have hw8 := hD.size
  have hnx := hD.nx
  have hac := hD.ac
  have b0 := dbox_new w cs
  have k0 := b0.nx hD
  have k1 := b0.ac hD
  have hfit := hD.rows.fit
  have htop := hD.rows.top
  have hafit := hD.accs.fit
  have hatop := hD.accs.top
  have f2 : ((d.acc.length : Int) == (d.next.length : Int)) = true := beq_iff_eq.2 (by omega)
  have f3 : ((d.acc.length : Int) != (d.next.length : Int)) = false := by rw [bne, f2]; rfl
  have f3' : (!((d.acc.length : Int) == (d.next.length : Int))) = false := by rw [f2]; rfl
  obtain ⟨b, off, oi, ci, rfl, hb, hc, hr⟩ := first_row hD.rows (by omega)
  have hrf := hr.fit
  have hrt := hr.top
  have hn1 : 1 ≤ d.next.length := by omega
  unfold width at *
  clear hD hr
  generalize (d.next[0]?.getD []).length = k at *
  generalize d.next.length = n at *
  generalize d.acc.length = m at *
  go_enter Try.func68, Try.ntmps68
  go_wp2_with (fail)
  go_ret
  exact ⟨rfl, below_alloc _ _⟩
set_option maxRecDepth 100000 in
set_option maxHeartbeats 1000000 in
theorem right_4 (d : Dfa) (g0 : ¬ d.next.length < 1) (g1 : ¬ 400 < d.next.length) (g2 : d.acc.length = d.next.length) (g3 : ¬ width d < 1) (g4 : 256 < width d) : RtIs 68 d false := by
  intro cs o cap ao acap w hD
  have hw8 := hD.size
  have hnx := hD.nx
  have hac := hD.ac
  have b0 := dbox_new w cs
  have k0 := b0.nx hD
  have k1 := b0.ac hD
  have hfit := hD.rows.fit
  have htop := hD.rows.top
  have hafit := hD.accs.fit
  have hatop := hD.accs.top
  have f2 : ((d.acc.length : Int) == (d.next.length : Int)) = true := beq_iff_eq.2 (by omega)
  have f3 : ((d.acc.length : Int) != (d.next.length : Int)) = false := by rw [bne, f2]; rfl
  have f3' : (!((d.acc.length : Int) == (d.next.length : Int))) = false := by rw [f2]; rfl
  obtain ⟨b, off, oi, ci, rfl, hb, hc, hr⟩ := first_row hD.rows (by omega)
  have hrf := hr.fit
  have hrt := hr.top
  have hn1 : 1 ≤ d.next.length := by omega
  unfold width at *
  clear hD hr
  generalize (d.next[0]?.getD []).length = k at *
  generalize d.next.length = n at *
  generalize d.acc.length = m at *
  go_enter Try.func68, Try.ntmps68
  go_wp2_with (fail)
  go_ret
  exact ⟨rfl, below_alloc _ _⟩
end Go.Proofs.Ytfilndgbgdnpiaa.df

namespace Go.Proofs.Ytfilndgbgdnpiaa.df
open Go.ChangeShapes Go.WideShapes Go.ChangeAt Go.RowKit
set_option linter.unusedVariables false

theorem cls_take (d : Dfa) (j k : Nat) (hk : k = width d) (h : ∀ i, i < j → d.cls i < k) (hj : 256 ≤ j) : clsOk d = true := by
  unfold clsOk
  rw [List.all_eq_true]
  intro i hi
  rw [List.mem_range] at hi
  rw [← hk]
  exact decide_eq_true (h i (by omega))
theorem cls_no (d : Dfa) (j k : Nat) (hk : k = width d) (h : k ≤ d.cls j) (hj : j < 256) : clsOk d = false := by
  unfold clsOk
  rw [List.all_eq_false]
  exact ⟨j, List.mem_range.2 hj, by simp; omega⟩

set_option maxRecDepth 100000 in
set_option maxHeartbeats 2000000 in
theorem right_loop (d : Dfa) (g0 : ¬ d.next.length < 1) (g1 : ¬ 400 < d.next.length) (g2 : d.acc.length = d.next.length) (g3 : ¬ width d < 1) (g4 : ¬ 256 < width d) (r : Bool) (hr : r = (d.next.all (rowOk d.next.length (width d)) && clsOk d)) : RtIs 68 d r := by
  intro cs o cap ao acap w hD
  have hw8 := hD.size
  have hnx := hD.nx
  have hac := hD.ac
  have b0 := dbox_new w cs
  have k0 := b0.nx hD
  have k1 := b0.ac hD
  have hfit := hD.rows.fit
  have htop := hD.rows.top
  have hafit := hD.accs.fit
  have hatop := hD.accs.top
  have f2 : ((d.acc.length : Int) == (d.next.length : Int)) = true := beq_iff_eq.2 (by omega)
  have f3 : ((d.acc.length : Int) != (d.next.length : Int)) = false := by rw [bne, f2]; rfl
  have f3' : (!((d.acc.length : Int) == (d.next.length : Int))) = false := by rw [f2]; rfl
  obtain ⟨b, off, oi, ci, rfl, hb, hc, hrw⟩ := first_row hD.rows (by omega)
  have hrf := hrw.fit
  have hrt := hrw.top
  have hn1 : 1 ≤ d.next.length := by omega
  have HK : Hid (width d = (d.next[0]?.getD []).length) := rfl
  rw [← HK.out] at hc hrf
  have HR : Hid (r = (d.next.all (rowOk d.next.length (width d)) && clsOk d)) := hr
  have HB := below_alloc w (.cells cs 51)
  have HD : Hid (DAt (In (w.alloc (.cells cs 51))) (w.alloc (.cells cs 51)) d cs (some ⟨b, off, none⟩) cap ao acap) := hD.later HB
  clear hD hr hrw HK
  have HW : Hid (∀ k, width d = k → (d.next.all (rowOk d.next.length k) && clsOk d) = r) := fun k hk => by rw [← hk]; exact HR.out.symm
  have HCK : Hid (∀ k, width d = k → ∀ j, (∀ i, i < j → d.cls i < k) → 256 ≤ j → clsOk d = true) := fun k hk j => cls_take d j k hk.symm
  have HCN : Hid (∀ k, width d = k → ∀ j, k ≤ d.cls j → j < 256 → clsOk d = false) := fun k hk j => cls_no d j k hk.symm
  obtain ⟨k, hk⟩ : ∃ k, width d = k := ⟨_, rfl⟩
  rw [hk] at g3 g4 hc hrf
  have HW2 : Hid ((d.next.all (rowOk d.next.length k) && clsOk d) = r) := HW.out k hk
  have HCK2 := (show Hid (∀ j, (∀ i, i < j → d.cls i < k) → 256 ≤ j → clsOk d = true) from HCK.out k hk)
  have HCN2 := (show Hid (∀ j, k ≤ d.cls j → j < 256 → clsOk d = false) from HCN.out k hk)
  clear HW HCK HCN HR hk
  have h8 := HD.out.c8
  go_enter Try.func68, Try.ntmps68
  go_wp2_with (fail)
  obtain ⟨w1, hw1⟩ : ∃ x, x = w.alloc (.cells cs 51) := ⟨_, rfl⟩
  rw [← hw1] at HD HB b0 ⊢
  clear hb hc k0 k1 hrf hrt
  clear hw1
  go_loop [39] (fun y => ∃ i : Nat, y = .int .i64 i ∧ i ≤ d.next.length ∧ Hid ((d.next.take i).all (rowOk d.next.length k) = true)) (fun y => d.next.length - (intOf y).toNat)
  case atStart => exact ⟨0, rfl, by omega, by show _ = _; simp⟩
  case round =>
    obtain ⟨i, rfl, hil, HI⟩ := hrel
    by_cases hend : i < d.next.length
    · obtain ⟨oi, ci, hc, hrw⟩ := row_at HD.out.rows i hend
      have hrf := hrw.fit
      have hrt := hrw.top
      have hall := all_take (rowOk d.next.length k) d.next i hend
      have hno := all_no (rowOk d.next.length k) d.next i hend
      rw [HI.out, Bool.true_and] at hall
      obtain ⟨x, hx⟩ : ∃ x, x = d.next[i] := ⟨_, rfl⟩
      rw [← hx] at hc hall hno hrw hrf
      clear hx
      have HNO : Hid (rowOk d.next.length k x = false → r = false) := fun h => by rw [← HW2.out, hno h]; rfl
      have HALL : Hid ((d.next.take (i + 1)).all (rowOk d.next.length k) = rowOk d.next.length k x) := hall
      have hgo := goOn_any d.next.length (by omega) x _ rfl
      unfold GoIs at hgo
      have HRW : Hid (Row (In w1) w1 iv oi ci x) := hrw
      clear hno hall HI hrw
      have hxk : x.length = k ∨ x.length ≠ k := Nat.decEq _ _ |>.em
      rcases hxk with hxk | hxk
      · have q1 : ((x.length : Int) == (k : Int)) = true := beq_iff_eq.2 (by omega)
        have q2 : ((x.length : Int) != (k : Int)) = false := by rw [bne, q1]; rfl
        have q3 : (x.length == k) = true := beq_iff_eq.2 hxk
        have HX : Hid (rowOk d.next.length k x = goOn d.next.length x) := by show _ = _; unfold rowOk; rw [q3, Bool.true_and]
        clear q3 hxk
        generalize d.next.length = n at *
        cases hg : goOn n x with
        | false =>
          have HF : Hid (r = false) := HNO.out (HX.out.trans hg)
          rw [hg] at hgo
          clear hg HX HNO HALL
          go_wp2_with (go_at_call 85; (with_reducible refine (hgo _ _ _ HRW.out).mono ?_); rintro e w2 ⟨rfl, hw⟩; obtain rfl := hw.symm)
          go_ret
          exact ⟨by rw [HF.out]; rfl, HB⟩
        | true =>
          have HT : Hid ((d.next.take (i + 1)).all (rowOk n k) = true) := HALL.out.trans (HX.out.trans hg)
          rw [hg] at hgo
          clear hg HX HNO HALL
          go_wp2_with (go_at_call 85; (with_reducible refine (hgo _ _ _ HRW.out).mono ?_); rintro e w2 ⟨rfl, hw⟩; obtain rfl := hw.symm)
          go_round
          case rel => exact ⟨i + 1, by go_num, by omega, HT⟩
          case measure => simp [intOf]; omega
      · have q1 : ((x.length : Int) == (k : Int)) = false := beq_eq_false_iff_ne.2 (by omega)
        have q2 : ((x.length : Int) != (k : Int)) = true := bne_iff_ne.2 (by omega)
        have HF : Hid (r = false) := HNO.out (by unfold rowOk; rw [beq_eq_false_iff_ne.2 hxk]; rfl)
        clear HNO HALL hgo hxk
        go_wp2_with (fail)
        go_ret
        exact ⟨by rw [HF.out]; rfl, HB⟩
    · have HA : Hid (clsOk d = r) := by
        show _ = _
        have := HI.out
        rw [List.take_of_length_le (by omega)] at this
        rw [← HW2.out, this, Bool.true_and]
      clear HI HW2
      go_wp2_with (refine wpList_load48 rfl (.tmp 54) rfl w.heap.size rfl cs b0 hw8 ?_)
      go_loop [56] (fun y => ∃ j : Nat, y = .int .i64 j ∧ j ≤ 256 ∧ Hid (∀ i, i < j → d.cls i < k)) (fun y => 256 - (intOf y).toNat)
      case atStart => exact ⟨0, rfl, by omega, fun i hi => by omega⟩
      case round =>
        obtain ⟨j, rfl, hj, HJ⟩ := hrel
        by_cases hlt : j < 256
        · have hidx := index48 cs j hlt _ (HD.out.cl j hlt) hw8
          have hc8 := h8 j
          have HC1 : Hid (k ≤ d.cls j → r = false) := fun h => HA.out.symm.trans (HCN2.out j h hlt)
          have HC2 : Hid (d.cls j < k → ∀ i, i < j + 1 → d.cls i < k) := fun h i hi => by
            rcases Nat.lt_succ_iff_lt_or_eq.1 hi with h2 | h2
            · exact HJ.out i h2
            · rw [h2]; exact h
          clear HJ
          generalize d.cls j = c at *
          by_cases hck : k ≤ c
          · have HF : Hid (r = false) := HC1.out hck
            go_wp2_with (fail)
            go_ret
            exact ⟨by rw [HF.out]; rfl, HB⟩
          · have HT : Hid (∀ i, i < j + 1 → d.cls i < k) := HC2.out (by omega)
            clear HC1 HC2
            go_wp2_with (fail)
            go_round
            case rel => exact ⟨j + 1, by go_num, by omega, HT⟩
            case measure => simp [intOf]; omega
        · have HF : Hid (r = true) := HA.out.symm.trans (HCK2.out j HJ.out (by omega))
          go_wp2_with (fail)
          go_ret
          exact ⟨by rw [HF.out]; rfl, HB⟩
theorem right_any (d : Dfa) (r : Bool) (hr : r = right d) : RtIs 68 d r := by
  have no : (right d = false) → RtIs 68 d false → RtIs 68 d r := fun h h2 => by rw [hr, h]; exact h2
  by_cases g0 : d.next.length < 1
  · exact no (by unfold right; rw [decide_eq_false (by omega)]; simp) (right_0 d g0)
  by_cases g1 : 400 < d.next.length
  · exact no (by unfold right; rw [decide_eq_false (p := d.next.length ≤ 400) (by omega)]; simp) (right_1 d g0 g1)
  by_cases g2 : d.acc.length = d.next.length
  · by_cases g3 : width d < 1
    · exact no (by unfold right; rw [decide_eq_false (p := 1 ≤ width d) (by omega)]; simp) (right_3 d g0 g1 g2 g3)
    by_cases g4 : 256 < width d
    · exact no (by unfold right; rw [decide_eq_false (p := width d ≤ 256) (by omega)]; simp) (right_4 d g0 g1 g2 g3 g4)
    refine right_loop d g0 g1 g2 g3 g4 r ?_
    rw [hr]
    unfold right
    rw [decide_eq_true (by omega), decide_eq_true (by omega), decide_eq_true (by omega), decide_eq_true (by omega), beq_iff_eq.2 g2]
    simp
  · exact no (by unfold right; rw [beq_eq_false_iff_ne.2 g2]; simp) (right_2 d g0 g1 g2)
end Go.Proofs.Ytfilndgbgdnpiaa.df

namespace Go.Proofs.Ytfilndgbgdnpiaa.df
open Go.ChangeShapes Go.WideShapes Go.ChangeAt Go.RowKit
set_option linter.unusedVariables false

end Go.Proofs.Ytfilndgbgdnpiaa.df

namespace Go.Proofs.Ytfilndgbgdnpiaa.df
set_option linter.unusedVariables false

def nxt (d : Dfa) (q c : Nat) : Int := (d.next[q]?.getD [])[c]?.getD (-1)
def acpt (d : Dfa) (q : Nat) : Bool := d.acc[q]?.getD false
def byteAt (s : ByteArray) (i : Nat) : Nat := (s[i]?.getD 0).toNat
def here (d : Dfa) (q at' : Nat) : List Int := if acpt d q then [(at' : Int)] else []
def ends (d : Dfa) (s : ByteArray) : Nat → Int → Nat → List Int
  | 0, q, at' => if q < 0 then [] else here d q.toNat at'
  | f + 1, q, at' => if q < 0 then [] else here d q.toNat at' ++ ends d s f (nxt d q.toNat (d.cls (byteAt s at'))) (at' + 1)

theorem ends_neg (d : Dfa) (s : ByteArray) (f : Nat) (q : Int) (at' : Nat) (h : q < 0) : ends d s f q at' = [] := by
  cases f <;> simp [ends, h]
theorem ends_zero (d : Dfa) (s : ByteArray) (q at' : Nat) : ends d s 0 (q : Int) at' = here d q at' := by
  have : ¬ ((q : Int) < 0) := by omega
  simp [ends, this]
theorem ends_succ (d : Dfa) (s : ByteArray) (f q at' : Nat) : ends d s (f + 1) (q : Int) at' = here d q at' ++ ends d s f (nxt d q (d.cls (byteAt s at'))) (at' + 1) := by
  have : ¬ ((q : Int) < 0) := by omega
  simp [ends, this]
theorem here_len (d : Dfa) (q at' : Nat) : (here d q at').length ≤ 1 := by unfold here; split <;> simp
theorem ends_len (d : Dfa) (s : ByteArray) : ∀ f q at', (ends d s f q at').length ≤ f + 1
  | 0, q, at' => by
    unfold ends
    split
    · simp
    · exact here_len _ _ _
  | f + 1, q, at' => by
    unfold ends
    split
    · simp
    · have := here_len d q.toNat at'
      have := ends_len d s f (nxt d q.toNat (d.cls (byteAt s at'))) (at' + 1)
      rw [List.length_append]
      omega

structure Ok (d : Dfa) : Prop where
  one : 1 ≤ d.next.length
  most : d.next.length ≤ 400
  accs : d.acc.length = d.next.length
  cl : ∀ i, i < 256 → d.cls i < width d
  wide : ∀ i (h : i < d.next.length), d.next[i].length = width d
  k256 : width d ≤ 256
  st : ∀ i (h : i < d.next.length) j (hj : j < d.next[i].length), -1 ≤ d.next[i][j] ∧ d.next[i][j] < (d.next.length : Int)
theorem ok_of (d : Dfa) (h : right d = true) : Ok d := by
  unfold right at h
  simp only [Bool.and_eq_true, decide_eq_true_eq, beq_iff_eq] at h
  obtain ⟨⟨⟨⟨⟨⟨h1, h2⟩, h3⟩, h4⟩, h5⟩, h6⟩, h7⟩ := h
  unfold clsOk at h7
  rw [List.all_eq_true] at h6 h7
  have hrow : ∀ i (h : i < d.next.length), rowOk d.next.length (width d) d.next[i] = true := fun i h => h6 _ (List.getElem_mem h)
  refine ⟨h1, h2, h3, fun i hi => by simpa using h7 i (List.mem_range.2 hi), fun i hi => ?_, h5, fun i hi j hj => ?_⟩
  · have := hrow i hi
    unfold rowOk at this
    simp only [Bool.and_eq_true, beq_iff_eq] at this
    exact this.1
  · have := hrow i hi
    unfold rowOk goOn at this
    simp only [Bool.and_eq_true, beq_iff_eq, List.all_eq_true, decide_eq_true_eq] at this
    exact this.2 _ (List.getElem_mem hj)
theorem byte_lt (s : ByteArray) (i : Nat) : byteAt s i < 256 := by unfold byteAt; exact UInt8.toNat_lt _
theorem byte_eq (s : ByteArray) (i : Nat) (h : i < s.size) : byteAt s i = s[i].toNat := by
  unfold byteAt
  rw [getElem?_pos s i h]
  rfl
theorem nxt_ok {d : Dfa} (h : Ok d) (q c : Nat) (hq : q < d.next.length) (hc : c < width d) : -1 ≤ nxt d q c ∧ nxt d q c < (d.next.length : Int) := by
  unfold nxt
  rw [List.getElem?_eq_getElem hq]
  have hw := h.wide q hq
  have := h.st q hq c (by omega)
  rw [Option.getD_some, List.getElem?_eq_getElem (by omega)]
  exact this
end Go.Proofs.Ytfilndgbgdnpiaa.df

namespace Go.Proofs.Ytfilndgbgdnpiaa.df
open Go.RowKit Go.Shelf
set_option linter.unusedVariables false
attribute [local go_sem] Oper.semAt_some

theorem wpListIn_load_row {F : Fence} {n : Nat} {P : Program} {ops : Array Oper} {rest : List Oper} {o : Oper} {a : Act} {w : World} {Q : Exit → Act → World → Prop} (hgd : o.guard = none) (ty : TypeId) (x : Operand) (ho : o.op = .load ty x)
    (g : Nat) (hx : a.eval x = .pointer (some ⟨g, 0, none⟩)) (t : TypeId) (cs : Array Value) (fr : Nat × Nat) (d : TypeDesc) (hg : w.heap[g]? = some (.cells cs t fr))
    (hu : P.underlying ty = some d) (hd : (match d with | .struct _ | .array _ _ => true | _ => false) = true) (hi : (P.info? ty).map (·.size) = some cs.size)
    (h : wpListIn F n P ops Q rest (a.put o.dst (.agg cs)) w) : wpListIn F n P ops Q (o :: rest) a w := by
  refine wpListIn_plain hgd fun K hK' => ?_
  unfold Oper.wpIn
  refine ⟨?_, ?_⟩
  · simp [Oper.about, ho]
  · rw [Oper.semAt_plain F _ _ (by rw [ho]; intro c hc'; cases hc')]
    unfold execOp
    simp only [ho, hx, Instr.loadAt, Instr.sureAddr, Sem.run_bind, Sem.run_pure, Result.andThen_ok, run_loadVar_row w g t ty cs fr d hg hu hd hi]
    exact hK' _ _ h

/-- what a round keeps: blocks of which P is said -/
def Kp (P : Nat → Prop) (W W' : World) : Prop := W.heap.size ≤ W'.heap.size ∧ ∀ b, P b → W'.heap[b]? = W.heap[b]?
theorem Kp.trans {P : Nat → Prop} {A B C : World} (h : Kp P A B) (k : Kp P B C) : Kp P A C := ⟨Nat.le_trans h.1 k.1, fun b hb => (k.2 b hb).trans (h.2 b hb)⟩
theorem Kp.book {P : Nat → Prop} {w : World} (hP : ∀ b, P b → b < w.heap.size) (W : World) (l : Nat) (o o' : Obj) (hl : w.heap.size ≤ l) (h : W.heap[l]? = some o) (_ : o.isCells = false) (_ : o.isWalk = false) : Kp P W (W.putObj l o') :=
  ⟨by simp, fun b hb => World.putObj_heap_other (fun e => by have := hP b hb; omega)⟩
theorem Kp.below {P : Nat → Prop} {n : Nat} {W W' : World} (b : Below n W W') (hn : W.heap.size ≤ W'.heap.size) (hP : ∀ b, P b → b < n) : Kp P W W' := ⟨hn, fun k hk => b.block k (hP k hk)⟩
theorem grown_of {w w' : World} (b : Below w.heap.size w w') : w.grownBy w' none := ⟨b.os, b.tape, b.output, b.size, fun k hk _ => b.block k hk⟩
theorem grown_drewN (w : World) (n : Nat) : w.grownBy (w.drewN n) none := ⟨rfl, rfl, rfl, Nat.le_refl _, fun _ _ _ => rfl⟩

structure Mem (P : Nat → Prop) (W : World) (d : Dfa) (cs : Array Value) (s : ByteArray) (gd gs : Nat) (o : Option Addr) (cap : Nat) (ao : Option Addr) (acap : Nat) : Prop where
  dt : DAt P W d cs o cap ao acap
  bx : DBox W gd cs
  sx : Boxed W gs 9 (.string s)
  pd : P gd
  ps : P gs
  lt : ∀ b, P b → b < W.heap.size
theorem Mem.carry {P : Nat → Prop} {W W' : World} {d : Dfa} {cs : Array Value} {s : ByteArray} {gd gs : Nat} {o ao : Option Addr} {cap acap : Nat} (h : Mem P W d cs s gd gs o cap ao acap) (k : Kp P W W') : Mem P W' d cs s gd gs o cap ao acap :=
  ⟨h.dt.carry k.2 (fun _ => id), (k.2 gd h.pd).trans h.bx, (k.2 gs h.ps).trans h.sx, h.pd, h.ps, fun b hb => Nat.lt_of_lt_of_le (h.lt b hb) k.1⟩

theorem acc_at {P : Nat → Prop} {W : World} {d : Dfa} {cs : Array Value} {o ao : Option Addr} {cap acap : Nat} (h : DAt P W d cs o cap ao acap) (q : Nat) (hq : q < d.acc.length) :
    ∃ b off, ao = some ⟨b, off, none⟩ ∧ P b ∧ W.cell? ⟨b, off + q, none⟩ = some (.bool (acpt d q)) := by
  obtain ⟨b, off, e, hp, hc⟩ := h.accs.lie q hq
  refine ⟨b, off, e, hp, ?_⟩
  unfold acpt
  rw [List.getElem?_eq_getElem hq]
  exact hc
theorem nxt_at {P : Nat → Prop} {W : World} {d : Dfa} {cs : Array Value} {o ao : Option Addr} {cap acap : Nat} (h : DAt P W d cs o cap ao acap) (k : Ok d) (q c : Nat) (hq : q < d.next.length) (hc : c < width d) :
    ∃ b off b' off' ci, o = some ⟨b, off, none⟩ ∧ W.cell? ⟨b, off + q, none⟩ = some (.slice (some ⟨b', off', none⟩) (width d) ci) ∧ width d ≤ ci ∧ ci ≤ 9223372036854775807 ∧ W.cell? ⟨b', off' + c, none⟩ = some (.int .i64 (nxt d q c)) := by
  obtain ⟨b, off, oi, ci, e, hp, hx, hr⟩ := h.rows.lie q hq
  have hw := k.wide q hq
  obtain ⟨b', off', rfl, hp', hy⟩ := hr.lie c (by omega)
  rw [hw] at hx
  have hf := hr.fit
  refine ⟨b, off, b', off', ci, e, hx, by omega, hr.top, ?_⟩
  unfold nxt
  rw [List.getElem?_eq_getElem hq, Option.getD_some, List.getElem?_eq_getElem (by omega)]
  exact hy

set_option maxRecDepth 100000 in
set_option maxHeartbeats 4000000 in
theorem taken1_no (P : Nat → Prop) (l gd gs ga : Nat) (d : Dfa) (cs : Array Value) (s : ByteArray) (at' : Int) (o ao : Option Addr) (cap acap : Nat) (J Jx : List Int → World → Prop)
    (hbad : right d = false ∨ at' < 0 ∨ (s.size : Int) < at') (hs : s.size ≤ 1000000000000)
    (W : World) (hM : Mem P W d cs s gd gs o cap ao acap) (hA : Boxed W ga 3 (.int .i64 at')) (hJ : AbidesFrom W.heap.size J) (h0 : J [] W) :
    CallsIn Fence.wide 5 Try.prog 67 #[.func (.yield l) #[] #[], .pointer (some ⟨gd, 0, none⟩), .pointer (some ⟨ga, 0, none⟩), .pointer (some ⟨gs, 0, none⟩)] W fun e W' => (∃ v, e = .returned v) ∧
      ((∃ ys, ys = [] ∧ J ys W') ∨ (∃ pre, pre <+: [] ∧ Jx pre W')) := by
  have hrt := right_any d _ rfl
  unfold RtIs at hrt
  have hD : DAt (In W) W d cs o cap ao acap := hM.dt.carry (fun _ _ => rfl) hM.lt
  have hcall := fun w => hrt cs o cap ao acap w
  have hlt := hA.lt
  have hlt2 := hM.sx.lt
  have hc2 := hA.cell
  have hc3 := hM.sx.cell
  have bx := hM.bx
  have hw8 := hM.dt.size
  have HM : Hid (Mem P W d cs s gd gs o cap ao acap) := hM
  clear hM hrt
  cases hr : right d with
  | false =>
    rw [hr] at hcall
    clear hbad
    refine callsIn_of_wp Try.func67 rfl trivial ?_ rfl
    simp only [Try.ntmps67, List.size_toArray, List.length_cons, List.length_nil, Nat.reduceAdd, Nat.reduceSub, Array.replicate_succ, Array.replicate_zero, List.push_toArray, List.append_toArray, List.nil_append, List.cons_append]
    gi_wp2_with (first | (refine wpListIn_load_row rfl 51 (.tmp 1) rfl gd rfl 51 cs (0, 0) _ bx Try.underlying51 rfl (info51 cs hw8) ?_) | (refine ⟨trivial, ?_⟩; gi_at_call 68; refine (callsIn_wide.2 (hcall _ hD)).mono ?_; rintro e w1 ⟨rfl, b1⟩))
    refine bodyPost_ret (results_none rfl _ _ _) rfl ?_
    exact ⟨⟨_, rfl⟩, .inl ⟨[], rfl, hJ _ _ _ none h0 (grown_of b1) (fun r e => by cases e)⟩⟩
  | true =>
    rw [hr] at hcall
    by_cases h1 : at' < 0
    · have f1 : decide (at' < 0) = true := decide_eq_true h1
      clear hbad
      refine callsIn_of_wp Try.func67 rfl trivial ?_ rfl
      simp only [Try.ntmps67, List.size_toArray, List.length_cons, List.length_nil, Nat.reduceAdd, Nat.reduceSub, Array.replicate_succ, Array.replicate_zero, List.push_toArray, List.append_toArray, List.nil_append, List.cons_append]
      gi_wp2_with (first | (refine wpListIn_load_row rfl 51 (.tmp 1) rfl gd rfl 51 cs (0, 0) _ bx Try.underlying51 rfl (info51 cs hw8) ?_) | (refine ⟨trivial, ?_⟩; gi_at_call 68; refine (callsIn_wide.2 (hcall _ hD)).mono ?_; rintro e w1 ⟨rfl, b1⟩; have d2 := (b1.cell (p := ⟨ga, 0, none⟩) hlt).trans hc2; have d3 := (b1.cell (p := ⟨gs, 0, none⟩) hlt2).trans hc3))
      refine bodyPost_ret (results_none rfl _ _ _) rfl ?_
      exact ⟨⟨_, rfl⟩, .inl ⟨[], rfl, hJ _ _ _ none h0 (grown_of b1) (fun r e => by cases e)⟩⟩
    · have h2 : (s.size : Int) < at' := by rcases hbad with h | h | h
                                           · rw [hr] at h; cases h
                                           · exact absurd h h1
                                           · exact h
      have f1 : decide (at' < 0) = false := decide_eq_false h1
      have f2 : decide ((s.size : Int) < at') = true := decide_eq_true h2
      clear hbad h2 h1
      refine callsIn_of_wp Try.func67 rfl trivial ?_ rfl
      simp only [Try.ntmps67, List.size_toArray, List.length_cons, List.length_nil, Nat.reduceAdd, Nat.reduceSub, Array.replicate_succ, Array.replicate_zero, List.push_toArray, List.append_toArray, List.nil_append, List.cons_append]
      gi_wp2_with (first | (refine wpListIn_load_row rfl 51 (.tmp 1) rfl gd rfl 51 cs (0, 0) _ bx Try.underlying51 rfl (info51 cs hw8) ?_) | (refine ⟨trivial, ?_⟩; gi_at_call 68; refine (callsIn_wide.2 (hcall _ hD)).mono ?_; rintro e w1 ⟨rfl, b1⟩; have d2 := (b1.cell (p := ⟨ga, 0, none⟩) hlt).trans hc2; have d3 := (b1.cell (p := ⟨gs, 0, none⟩) hlt2).trans hc3))
      refine bodyPost_ret (results_none rfl _ _ _) rfl ?_
      exact ⟨⟨_, rfl⟩, .inl ⟨[], rfl, hJ _ _ _ none h0 (grown_of b1) (fun r e => by cases e)⟩⟩
end Go.Proofs.Ytfilndgbgdnpiaa.df

namespace Go.Proofs.Ytfilndgbgdnpiaa.df
open Go.RowKit Go.Shelf
set_option linter.unusedVariables false
attribute [local go_sem] Oper.semAt_some

theorem ends_end (d : Dfa) (s : ByteArray) (q t : Nat) (h : t = s.size) : ends d s (s.size - t) (q : Int) t = here d q t := by
  rw [h, Nat.sub_self, ends_zero]
theorem ends_more (d : Dfa) (s : ByteArray) (q t : Nat) (h : t < s.size) : ends d s (s.size - t) (q : Int) t = here d q t ++ ends d s (s.size - (t + 1)) (nxt d q (d.cls s[t].toNat)) (t + 1) := by
  have e : s.size - t = (s.size - (t + 1)) + 1 := by omega
  rw [e, ends_succ, byte_eq s t h]
theorem here_yes (d : Dfa) (q t : Nat) (h : acpt d q = true) : here d q t = [(t : Int)] := by unfold here; rw [h]; rfl
theorem here_no (d : Dfa) (q t : Nat) (h : acpt d q = false) : here d q t = [] := by unfold here; rw [h]; rfl
set_option maxRecDepth 100000 in
set_option maxHeartbeats 4000000 in
theorem taken1_yes (P : Nat → Prop) (l gd gs ga : Nat) (d : Dfa) (cs : Array Value) (s : ByteArray) (at' : Nat) (o ao : Option Addr) (cap acap : Nat) (J Jx : List Int → World → Prop)
    (hr : right d = true) (hat : at' ≤ s.size) (hs : s.size ≤ 1000000000000)
    (hY : ∀ pre x W, J pre W → pre.length < s.size + 1 → YieldAt Fence.wide 4 Try.prog l #[.int .i64 x] W fun e W' =>
      (e = .returned (.bool true) ∧ J (pre ++ [x]) W' ∧ Kp P W W') ∨ (e = .returned (.bool false) ∧ Jx (pre ++ [x]) W'))
    (W : World) (hM : Mem P W d cs s gd gs o cap ao acap) (hA : Boxed W ga 3 (.int .i64 at')) (hJ : AbidesFrom W.heap.size J) (h0 : J [] W) :
    CallsIn Fence.wide 5 Try.prog 67 #[.func (.yield l) #[] #[], .pointer (some ⟨gd, 0, none⟩), .pointer (some ⟨ga, 0, none⟩), .pointer (some ⟨gs, 0, none⟩)] W fun e W' => (∃ v, e = .returned v) ∧
      ((∃ ys, ys = ends d s (s.size - at') 0 at' ∧ J ys W') ∨ (∃ pre, pre <+: ends d s (s.size - at') 0 at' ∧ Jx pre W')) := by
  have hrt := right_any d _ rfl
  unfold RtIs at hrt
  have hok := ok_of d hr
  have hD : DAt (In W) W d cs o cap ao acap := hM.dt.carry (fun _ _ => rfl) hM.lt
  have hcall := fun w => hrt cs o cap ao acap w
  rw [hr] at hcall
  have hlt := hA.lt
  have hlt2 := hM.sx.lt
  have hc2 := hA.cell
  have hc3 := hM.sx.cell
  have bx := hM.bx
  have hw8 := hM.dt.size
  have hn1 := hok.one
  have hn4 := hok.most
  have hna := hok.accs
  have hafit := hM.dt.accs.fit
  have hatop := hM.dt.accs.top
  have hfit := hM.dt.rows.fit
  have htop := hM.dt.rows.top
  have HM : Hid (Mem P W d cs s gd gs o cap ao acap) := hM
  have HOK : Hid (Ok d) := hok
  have HL : Hid ((ends d s (s.size - at') 0 at').length ≤ s.size + 1) := Nat.le_trans (ends_len _ _ _ _ _) (by omega)
  clear hM hrt hok
  obtain ⟨full, hfull⟩ : ∃ full, full = ends d s (s.size - at') 0 at' := ⟨_, rfl⟩
  have HI : Hid (full = [] ++ ends d s (s.size - at') (0 : Int) at') := hfull
  rw [← hfull] at HL ⊢
  clear hfull
  have f1 : decide ((at' : Int) < 0) = false := decide_eq_false (by omega)
  have f2 : decide (s.size < at') = false := decide_eq_false (by omega)
  refine callsIn_of_wp Try.func67 rfl trivial ?_ rfl
  simp only [Try.ntmps67, List.size_toArray, List.length_cons, List.length_nil, Nat.reduceAdd, Nat.reduceSub, Array.replicate_succ, Array.replicate_zero, List.push_toArray, List.append_toArray, List.nil_append, List.cons_append]
  gi_wp2_with (first | (refine wpListIn_load_row rfl 51 (.tmp 1) rfl gd rfl 51 cs (0, 0) _ bx Try.underlying51 rfl (info51 cs hw8) ?_) | (refine ⟨trivial, ?_⟩; gi_at_call 68; refine (callsIn_wide.2 (hcall _ hD)).mono ?_; rintro e w1 ⟨rfl, b1⟩; have d2 := (b1.cell (p := ⟨ga, 0, none⟩) hlt).trans hc2; have d3 := (b1.cell (p := ⟨gs, 0, none⟩) hlt2).trans hc3))
  gi_loopw [5, 6] (fun y z wr => ∃ (st : Int) (t : Nat) (pre : List Int), y = .int .i64 st ∧ z = .int .i64 t ∧ -1 ≤ st ∧ st < (d.next.length : Int) ∧ (0 ≤ st → t ≤ s.size) ∧ Hid (full = pre ++ ends d s (s.size - t) st t) ∧ J pre wr ∧ Hid (Mem P wr d cs s gd gs o cap ao acap))
    (fun _ z _ => s.size + 1 - (intOf z).toNat)
  case atStart => exact ⟨0, at', [], rfl, rfl, by omega, by omega, fun _ => hat, HI, hJ _ _ _ none h0 (grown_of b1) (fun r e => by cases e), HM.out.carry (Kp.below b1 b1.size HM.out.lt)⟩
  case round =>
    obtain ⟨st, t, pre, rfl, rfl, hs1, hs2, ht, HE, hJs, HMr⟩ := hrel
    clear hc2 hc3 bx d2 d3 hlt hlt2 hcall hD
    by_cases hneg : st = -1
    · subst hneg
      have hex : pre = full := by have := HE.out; rw [ends_neg d s _ (-1) _ (by omega), List.append_nil] at this; exact this.symm
      gi_wp2
      go_end0
      exact ⟨⟨_, rfl⟩, .inl ⟨pre, hex, hJs⟩⟩
    · obtain ⟨q, rfl⟩ : ∃ q : Nat, st = (q : Int) := ⟨st.toNat, by omega⟩
      have hq : q < d.next.length := by omega
      have htl : t ≤ s.size := ht (by omega)
      have g1 : ((q : Int) != -1) = true := bne_iff_ne.2 hneg
      have g2 : ((q : Int) == -1) = false := beq_eq_false_iff_ne.2 hneg
      obtain ⟨ab, aoff, rfl, hpa, hca⟩ := acc_at HMr.out.dt q (by omega)
      have kx := HMr.out.bx.ac HMr.out.dt
      have ky := HMr.out.bx.nx HMr.out.dt
      have ks := HMr.out.sx.cell
      clear hneg hs1 ht
      cases hacc : acpt d q with
      | true =>
        rw [hacc] at hca
        have hh := here_yes d q t hacc
        by_cases htt : t = s.size
        · have HF : Hid (full = pre ++ [(t : Int)]) := by show _ = _; rw [HE.out, ends_end d s q t htt, hh]
          obtain ⟨fn, tmps, assign, body, hy, hR⟩ := hY pre t wr hJs (by have := HL.out; rw [HF.out, List.length_append] at this; simp at this; omega)
          have z1 : ((t : Int) == (s.size : Int)) = true := beq_iff_eq.2 (by omega)
          clear HE hh htt
          gi_wp2
          refine hR.mono ?_
          rintro e W3 (⟨rfl, hJ3, hk3⟩ | ⟨rfl, hJx3⟩)
          · have k3 := (HMr.out.carry hk3).sx.cell
            gi_wp2
            refine bodyPost_ret (results_none rfl _ _ _) rfl ?_
            exact ⟨⟨_, rfl⟩, .inl ⟨_, HF.out.symm, hJ3⟩⟩
          · gi_wp2
            refine bodyPost_ret (results_none rfl _ _ _) rfl ?_
            exact ⟨⟨_, rfl⟩, .inr ⟨_, ⟨[], by rw [List.append_nil]; exact HF.out.symm⟩, hJx3⟩⟩
        · have htt2 : t < s.size := by omega
          have HF : Hid (full = (pre ++ [(t : Int)]) ++ ends d s (s.size - (t + 1)) (nxt d q (d.cls s[t].toNat)) (t + 1)) := by show _ = _; rw [HE.out, ends_more d s q t htt2, hh, List.append_assoc]
          obtain ⟨fn, tmps, assign, body, hy, hR⟩ := hY pre t wr hJs (by have := HL.out; rw [HF.out, List.length_append, List.length_append] at this; simp at this; omega)
          have z1 : ((t : Int) == (s.size : Int)) = false := beq_eq_false_iff_ne.2 (by omega)
          have hcw := HOK.out.cl s[t].toNat (UInt8.toNat_lt _)
          have hno := nxt_ok HOK.out q _ hq hcw
          clear HE hh
          gi_wp2
          refine hR.mono ?_
          rintro e W3 (⟨rfl, hJ3, hk3⟩ | ⟨rfl, hJx3⟩)
          · have M3 := HMr.out.carry hk3
            have k3 := M3.sx.cell
            have j0 := M3.bx.cl M3.dt s[t].toNat (UInt8.toNat_lt _)
            have j1 := M3.bx.nx M3.dt
            have h8 := M3.dt.c8 s[t].toNat
            obtain ⟨b, off, b', off', ci, e1, hc1, hw1, hw2, hc2⟩ := nxt_at M3.dt HOK.out q _ hq hcw
            subst e1
            have MM : Hid (Mem P W3 d cs s gd gs (some ⟨b, off, none⟩) cap (some ⟨ab, aoff, none⟩) acap) := M3
            clear M3
            have hb8 : s[t].toNat < 256 := UInt8.toNat_lt _
            generalize width d = k at *
            gi_wp2
            gi_quiet (fail)
            gi_wp2
            go_roundw
            case rel => exact ⟨_, t + 1, _, rfl, by go_num, by omega, by omega, fun _ => by omega, HF, hJ _ _ _ none hJ3 (grown_drewN _ _) (fun r e => by cases e), MM.out.carry ⟨Nat.le_refl _, fun _ _ => rfl⟩⟩
            case measure => simp [intOf]; omega
          · gi_wp2
            refine bodyPost_ret (results_none rfl _ _ _) rfl ?_
            exact ⟨⟨_, rfl⟩, .inr ⟨_, ⟨_, HF.out.symm⟩, hJx3⟩⟩
      | false =>
        rw [hacc] at hca
        have hh := here_no d q t hacc
        by_cases htt : t = s.size
        · have HF : Hid (full = pre) := by show _ = _; rw [HE.out, ends_end d s q t htt, hh, List.append_nil]
          have z1 : ((t : Int) == (s.size : Int)) = true := beq_iff_eq.2 (by omega)
          clear HE hh htt
          gi_wp2
          refine ⟨fun _ h => (by cases h), ?_⟩
          gi_wp2
          refine bodyPost_ret (results_none rfl _ _ _) rfl ?_
          exact ⟨⟨_, rfl⟩, .inl ⟨_, HF.out.symm, hJs⟩⟩
        · have htt2 : t < s.size := by omega
          have HF : Hid (full = pre ++ ends d s (s.size - (t + 1)) (nxt d q (d.cls s[t].toNat)) (t + 1)) := by show _ = _; rw [HE.out, ends_more d s q t htt2, hh, List.nil_append]
          have z1 : ((t : Int) == (s.size : Int)) = false := beq_eq_false_iff_ne.2 (by omega)
          have hcw := HOK.out.cl s[t].toNat (UInt8.toNat_lt _)
          have hno := nxt_ok HOK.out q _ hq hcw
          have M3 := HMr.out
          have j0 := M3.bx.cl M3.dt s[t].toNat (UInt8.toNat_lt _)
          have h8 := M3.dt.c8 s[t].toNat
          obtain ⟨b, off, b', off', ci, e1, hc1, hw1, hw2, hc2⟩ := nxt_at M3.dt HOK.out q _ hq hcw
          subst e1
          have MM : Hid (Mem P wr d cs s gd gs (some ⟨b, off, none⟩) cap (some ⟨ab, aoff, none⟩) acap) := M3
          clear M3 HE hh
          have hb8 : s[t].toNat < 256 := UInt8.toNat_lt _
          generalize width d = k at *
          gi_wp2
          refine ⟨fun _ h => (by cases h), ?_⟩
          gi_wp2
          gi_quiet (fail)
          gi_wp2
          go_roundw
          case rel => exact ⟨_, t + 1, _, rfl, by go_num, by omega, by omega, fun _ => by omega, HF, hJ _ _ _ none hJs (grown_drewN _ _) (fun r e => by cases e), MM.out.carry ⟨Nat.le_refl _, fun _ _ => rfl⟩⟩
          case measure => simp [intOf]; omega
end Go.Proofs.Ytfilndgbgdnpiaa.df

namespace Go.Proofs.Ytfilndgbgdnpiaa.df
open Go.RowKit Go.Shelf
set_option linter.unusedVariables false
attribute [local go_sem] Oper.semAt_some

def endsOf (d : Dfa) (s : ByteArray) (at' : Int) : List Int := if right d = true ∧ 0 ≤ at' ∧ at' ≤ (s.size : Int) then ends d s (s.size - at'.toNat) 0 at'.toNat else []
theorem endsOf_len (d : Dfa) (s : ByteArray) (at' : Int) : (endsOf d s at').length ≤ s.size + 1 := by
  unfold endsOf
  split
  · exact Nat.le_trans (ends_len _ _ _ _ _) (by omega)
  · simp

/-- a slice of ints, as a value -/
def IntsV (w : World) (v : Value) (l : List Int) : Prop := ∃ o cap, v = .slice o l.length cap ∧ Row (In w) w iv o cap l
theorem IntsV.later {w w' : World} {v : Value} {l : List Int} (h : IntsV w v l) (b : Below w.heap.size w w') : IntsV w' v l := by
  obtain ⟨o, cap, e, hr⟩ := h
  exact ⟨o, cap, e, hr.carry (fun k hk => b.block k hk) (fun k hk => Nat.lt_of_lt_of_le hk b.size)⟩
theorem ints_of_owns {w : World} {base : Nat} {v : Value} {l : List Int} (h : w.ownsRow base 3 1 v l.length (l.map (Value.int .i64))) : IntsV w v l := by
  have h0 := h
  rcases h.2 with ⟨rfl, hl⟩ | ⟨g, cap, cur, rfl, hb, hg, hn, hc, hs, ht⟩
  · have : l = [] := List.length_eq_zero_iff.1 hl
    subst this
    exact ⟨none, 0, rfl, Nat.le_refl _, by omega, fun i hi => by simp at hi⟩
  · unfold maxLen at hc
    refine ⟨some ⟨g, 0, none⟩, cap, rfl, hn, hc, fun i hi => ⟨g, 0, rfl, (Array.getElem?_eq_some_iff.1 hg).1, ?_⟩⟩
    have := World.ownsRow.cellAt h0 i (by omega)
    rw [Nat.zero_add, this, List.getElem?_map, List.getElem?_eq_getElem hi]
    rfl

set_option maxHeartbeats 1000000 in
theorem taken_in (cs : Array Value) (s : ByteArray) (at' : Int) (w : World) :
    Calls Try.prog 42 #[.agg cs, .string s, .int .i64 at'] w fun e w' => e = .returned (.func (.func 67) #[] #[.pointer (some ⟨w.heap.size, 0, none⟩), .pointer (some ⟨w.heap.size + 1 + 1, 0, none⟩), .pointer (some ⟨w.heap.size + 1, 0, none⟩)]) ∧
      w' = ((w.alloc (.cells cs 51)).alloc (.cells #[.string s] 9)).alloc (.cells #[.int .i64 at'] 3) := by
  go_enter Try.func42, Try.ntmps42
  go_wp2
  go_ret
  exact ⟨rfl, rfl⟩

theorem taken_stops (P : Nat → Prop) (gd gs ga : Nat) (d : Dfa) (cs : Array Value) (s : ByteArray) (at' : Int) (o ao : Option Addr) (cap acap : Nat) (hs : s.size ≤ 1000000000000)
    (w : World) (hM : Mem P w d cs s gd gs o cap ao acap) (hA : Boxed w ga 3 (.int .i64 at')) :
    SeqStopsK Fence.wide 5 Try.prog 67 #[.pointer (some ⟨gd, 0, none⟩), .pointer (some ⟨ga, 0, none⟩), .pointer (some ⟨gs, 0, none⟩)] (fun x : Int => #[Value.int .i64 x]) (Kp P) (fun ys => ys = endsOf d s at') (fun pre => pre <+: endsOf d s at') (s.size + 1) w := fun l J Jx W hW hJ hJx hY h0 => by
  have hM2 := hM.carry (Kp.below hW hW.size hM.lt)
  have hA2 : Boxed W ga 3 (.int .i64 at') := (hW.block ga hA.lt).trans hA
  unfold endsOf
  by_cases h : right d = true ∧ 0 ≤ at' ∧ at' ≤ (s.size : Int)
  · obtain ⟨h1, h2, h3⟩ := h
    obtain ⟨t, rfl⟩ : ∃ t : Nat, at' = (t : Int) := ⟨at'.toNat, by omega⟩
    rw [if_pos ⟨h1, h2, h3⟩]
    exact taken1_yes P l gd gs ga d cs s t o ao cap acap J Jx h1 (by omega) hs hY W hM2 hA2 hJ h0
  · rw [if_neg h]
    refine taken1_no P l gd gs ga d cs s at' o ao cap acap J Jx ?_ hs W hM2 hA2 hJ h0
    cases hr : right d with
    | false => exact .inl rfl
    | true =>
      rw [hr] at h
      by_cases h2 : at' < 0
      · exact .inr (.inl h2)
      · exact .inr (.inr (by by_cases h3 : at' ≤ (s.size : Int)
                             · exact absurd ⟨rfl, by omega, h3⟩ h
                             · omega))

theorem info3 : (Try.prog.info? 3).map (fun i => (i.zero, i.size, i.bytes)) = some (some (.int .i64 0), 1, 8) := by kernel_rfl

set_option maxRecDepth 100000 in
set_option maxHeartbeats 2000000 in
theorem appendSeq_in (lb : Array Value) (P : Nat → Prop) (full : List Int) (N : Nat) (hN : N ≤ 1000000000001) (w : World) (hP : ∀ b, P b → b < w.heap.size)
    (hseq : SeqStopsK Fence.wide 5 Try.prog 67 lb (fun x : Int => #[Value.int .i64 x]) (Kp P) (fun ys => ys = full) (fun pre => pre <+: full) N w) :
    CallsIn Fence.wide 6 Try.prog 66 #[.slice none 0 0, .func (.func 67) #[] lb] w fun e W' => ∃ v, e = .returned v ∧ W'.ownsRow w.heap.size 3 1 v full.length (full.map (Value.int .i64)) ∧ Below w.heap.size w W' := by
  obtain ⟨i0, hi, hz0, hz1, hz2⟩ := info_parts info3
  refine callsIn_of_wp_marks Try.func66 rfl trivial ?_ rfl
  simp only [Try.ntmps66, List.size_toArray, List.length_cons, List.length_nil, Nat.reduceAdd, Nat.reduceSub, Array.replicate_succ, Array.replicate_zero, List.push_toArray, List.append_toArray, List.nil_append, List.cons_append]
  gi_wp2
  have bO := Boxed.new w 39 (.slice none 0 0)
  have hB0 : Below w.heap.size w (w.alloc (.cells #[.slice none 0 0] 39)) := (Below.refl _ w).alloc (Nat.le_refl _) _
  refine wpIn_rangeFunc_ownG rfl (by omega) (gf := 67) (lb := lb) rfl trivial (enters_of Try.func67 (by kernel_rfl) rfl)
    hseq (fun h k => h.trans k) (Kp.book (fun b hb => by have := hP b hb; simp; omega)) hB0 (fun _ => rfl)
    (fun pre W => (∃ v, Boxed W w.heap.size 39 v ∧ W.ownsRow w.heap.size 3 1 v pre.length (pre.map (Value.int .i64)) ∧ True) ∧ Below w.heap.size w W)
    (fun _ _ _ => False)
    (OwnFrom.and (Own.from (holdsRow_own w.heap.size w.heap.size 39 3 1 (fun pre : List Int => pre.length) (fun pre : List Int => pre.map (Value.int .i64)) (fun _ _ => True)) _) (ownFrom_below (Nat.le_refl _) (by simp)))
    (fun _ _ _ _ _ hs _ _ => hs)
    ⟨⟨_, bO, World.ownsRow_nil _ _ _ _, trivial⟩, hB0⟩
    (fun x => { tmps := #[.slice none 0 0, .func (.func 67) #[] lb, .pointer (some ⟨w.heap.size, 0, none⟩), undef, .slice none 0 0, .int .i64 x, .func (.func 67) #[] lb, .int .i64 x, undef, undef, undef, undef, undef], defers := [] }) ?assign ?body ?done ?stop
  case assign =>
    intro l x W K hK
    gi_wp2
    exact hK
  case body =>
    rintro l pre x W ⟨⟨v, hv, hrow, _⟩, hB⟩ hlt
    have hc := hv.cell
    gi_wp2_with (gi_at_builtin; refine wpListIn_append_own _ rfl _ _ 39 rfl w.heap.size 3 i0 (.int .i64 0) 1 8 Try.underlying39 hi hz0 hz1 hz2 rfl (by decide) _ _ _ rfl (hrow.alloc _) ⟨W.heap.size, 0, none⟩ 1 1 [.int .i64 x] rfl rfl (cell_one_new _ _ _) (by simp [Value.oneCell']) (by unfold maxLen; omega) (by omega) (by have := hB.size; simp; omega) ?_; intro v' w1 hown' hgrow _; obtain ⟨g', cap', rfl⟩ := ownsRow_succ hown'; obtain ⟨hv1, hv2, hr2, hk2, hb2⟩ := hv.appended (by decide) hrow hB.size (Nat.le_refl _) hown' hgrow; have hc1 := hv1.cell; have hf1 := hv1.frozen)
    exact ⟨hk2.from _, ⟨by have := hb2.size; exact this, fun b hb => hb2.block b (hP b hb)⟩, ⟨_, hv2, by simpa using hr2, trivial⟩, hB.trans hb2⟩
  case done =>
    rintro D ys W hD rfl ⟨⟨v, hv, hrow, _⟩, hB⟩ hK
    have hc := hv.cell
    gi_wp2
    refine ⟨by simp, .inl ⟨_, _, rfl, run_takeDeferred hK, ?_⟩⟩
    exact ⟨_, results_tmp rfl _ _ _, v, rfl, ownsRow_putObj hrow _ hK rfl, hB.trans (belowK_b (w := w) (Nat.le_refl _) W D _ _ (by simp at hD; omega) hK rfl rfl)⟩
  case stop =>
    rintro D c pre W _ _ h _
    exact h.elim
set_option maxHeartbeats 1000000 in
theorem collect_in (lb : Array Value) (P : Nat → Prop) (full : List Int) (N : Nat) (hN : N ≤ 1000000000001) (w : World) (hP : ∀ b, P b → b < w.heap.size)
    (hseq : SeqStopsK Fence.wide 5 Try.prog 67 lb (fun x : Int => #[Value.int .i64 x]) (Kp P) (fun ys => ys = full) (fun pre => pre <+: full) N w) :
    Calls Try.prog 41 #[.func (.func 67) #[] lb] w fun e W' => ∃ v, e = .returned v ∧ IntsV W' v full ∧ Below w.heap.size w W' := by
  have h51 := callsIn_wide.1 (appendSeq_in lb P full N hN w hP hseq)
  go_enter Try.func41, Try.ntmps41
  go_wp2_with (go_at_call 66; refine h51.mono ?_; rintro e w1 ⟨v, rfl, hv, b1⟩)
  go_ret
  exact ⟨v, rfl, ints_of_owns hv, b1⟩
def EdIs (f : Nat) (d : Dfa) (s : ByteArray) (at' : Int) : Prop := ∀ cs o cap ao acap w, DAt (In w) w d cs o cap ao acap → Calls Try.prog f #[.agg cs, .string s, .int .i64 at'] w fun e w' => ∃ v, e = .returned v ∧ IntsV w' v (endsOf d s at') ∧ Below w.heap.size w w'
theorem taken_mem (Q : Nat → Prop) {d : Dfa} {cs : Array Value} {o ao : Option Addr} {cap acap : Nat} {w1 : World} (s : ByteArray) (at' : Int) (D1 : DAt (fun b => In w1 b ∧ Q b) w1 d cs o cap ao acap) :
    Mem (fun b => (b < w1.heap.size ∧ Q b) ∨ (w1.heap.size ≤ b ∧ b < w1.heap.size + 1 + 1 + 1)) (((w1.alloc (.cells cs 51)).alloc (.cells #[.string s] 9)).alloc (.cells #[.int .i64 at'] 3)) d cs s w1.heap.size (w1.heap.size + 1) o cap ao acap ∧
    Boxed (((w1.alloc (.cells cs 51)).alloc (.cells #[.string s] 9)).alloc (.cells #[.int .i64 at'] 3)) (w1.heap.size + 1 + 1) 3 (.int .i64 at') ∧
    Below w1.heap.size w1 (((w1.alloc (.cells cs 51)).alloc (.cells #[.string s] 9)).alloc (.cells #[.int .i64 at'] 3)) := by
  have X1 := dbox_new w1 cs
  have Y1 := Boxed.new (w1.alloc (.cells cs 51)) 9 (.string s)
  have Z1 := Boxed.new ((w1.alloc (.cells cs 51)).alloc (.cells #[.string s] 9)) 3 (.int .i64 at')
  have HB3 : Below w1.heap.size w1 (((w1.alloc (.cells cs 51)).alloc (.cells #[.string s] 9)).alloc (.cells #[.int .i64 at'] 3)) := (((Below.refl _ w1).alloc (Nat.le_refl _) _).alloc (by simp) _).alloc (by simp; omega) _
  simp only [World.size_alloc] at Y1 Z1
  refine ⟨⟨D1.carry (fun b hb => HB3.block b hb.1) (fun b hb => .inl hb), (Below.heap_alloc _ _ _ (by simp; omega)).trans ((Below.heap_alloc _ _ _ (by simp)).trans X1), (Below.heap_alloc _ _ _ (by simp)).trans Y1, .inr (by omega), .inr (by omega), fun b hb => ?_⟩, Z1, HB3⟩
  simp only [World.size_alloc]
  rcases hb with h | h <;> omega
theorem collect_taken {d : Dfa} {cs : Array Value} {o ao : Option Addr} {cap acap : Nat} {w1 : World} (s : ByteArray) (at' : Int) (hs : s.size ≤ 1000000000000) (D1 : DAt (In w1) w1 d cs o cap ao acap) :
    Calls Try.prog 41 #[.func (.func 67) #[] #[.pointer (some ⟨w1.heap.size, 0, none⟩), .pointer (some ⟨w1.heap.size + 1 + 1, 0, none⟩), .pointer (some ⟨w1.heap.size + 1, 0, none⟩)]] (((w1.alloc (.cells cs 51)).alloc (.cells #[.string s] 9)).alloc (.cells #[.int .i64 at'] 3)) fun e W' => ∃ v, e = .returned v ∧ IntsV W' v (endsOf d s at') ∧ Below w1.heap.size w1 W' := by
  obtain ⟨M, Z, B⟩ := taken_mem (fun _ => True) s at' (D1.carry (fun _ _ => rfl) (fun b hb => ⟨hb, trivial⟩))
  have hst := taken_stops _ w1.heap.size (w1.heap.size + 1) (w1.heap.size + 1 + 1) d cs s at' o ao cap acap hs _ M Z
  refine (collect_in _ _ _ _ (by omega) _ M.lt hst).mono ?_
  rintro e W' ⟨v, rfl, hv, b⟩
  exact ⟨v, rfl, hv, chain B b⟩
set_option maxRecDepth 100000 in
set_option maxHeartbeats 1000000 in
theorem ends_any (d : Dfa) (s : ByteArray) (at' : Int) (hs : s.size ≤ 1000000000000) : EdIs 21 d s at' := by
  intro cs o cap ao acap w hD
  have hw8 := hD.size
  have b0 := dbox_new w cs
  have h40 := fun w => taken_in cs s at' w
  have HB0 := below_alloc w (.cells cs 51)
  have h39 := collect_taken s at' hs (hD.later HB0)
  simp only [World.size_alloc] at h39
  clear hD
  go_enter Try.func21, Try.ntmps21
  go_wp2_with (first | (refine wpList_load_row rfl 51 (.tmp 3) rfl w.heap.size rfl 51 cs (0, 0) _ b0 Try.underlying51 rfl (info51 cs hw8) ?_) | (go_at_call 42; (refine (h40 _).mono ?_); rintro e w2 ⟨rfl, rfl⟩) | (go_at_call 41; (refine h39.mono ?_); rintro e w3 ⟨v, rfl, hv, b3⟩))
  go_ret
  exact ⟨v, rfl, hv, chain HB0 (by simpa using b3)⟩

theorem last_snoc (pre : List Int) (x : Int) : (pre ++ [x]).getLast?.getD (-1) = x := by simp
set_option maxRecDepth 100000 in
set_option maxHeartbeats 2000000 in
theorem longest_in (d : Dfa) (s : ByteArray) (at' : Int) (hs : s.size ≤ 1000000000000) (cs : Array Value) (o ao : Option Addr) (cap acap : Nat) (w : World) (hD : DAt (In w) w d cs o cap ao acap) :
    CallsIn Fence.wide 6 Try.prog 22 #[.agg cs, .string s, .int .i64 at'] w fun e W' => e = .returned (.int .i64 ((endsOf d s at').getLast?.getD (-1))) ∧ Below w.heap.size w W' := by
  have hw8 := hD.size
  have b0 := dbox_new w cs
  have b1 : DBox ((w.alloc (.cells cs 51)).alloc (.cells #[.int .i64 (-1)] 3)) w.heap.size cs := (Below.heap_alloc _ _ _ (by simp)).trans b0
  have h40 := fun w => taken_in cs s at' w
  have HB0 : Below w.heap.size w ((w.alloc (.cells cs 51)).alloc (.cells #[.int .i64 (-1)] 3)) := ((Below.refl _ _).alloc (Nat.le_refl _) _).alloc (by simp) _
  have bL := Boxed.new (w.alloc (.cells cs 51)) 3 (.int .i64 (-1))
  refine callsIn_of_wp_marks Try.func22 rfl trivial ?_ rfl
  simp only [Try.ntmps22, List.size_toArray, List.length_cons, List.length_nil, Nat.reduceAdd, Nat.reduceSub, Array.replicate_succ, Array.replicate_zero, List.push_toArray, List.append_toArray, List.nil_append, List.cons_append]
  gi_wp2_with (first | (refine wpListIn_load_row rfl 51 (.tmp 3) rfl w.heap.size rfl 51 cs (0, 0) _ b1 Try.underlying51 rfl (info51 cs hw8) ?_) | (refine ⟨trivial, ?_⟩; gi_at_call 42; refine (callsIn_wide.2 (h40 _)).mono ?_; rintro e w2 ⟨rfl, rfl⟩))
  rw [World.size_alloc] at bL
  obtain ⟨M, Z, B⟩ := taken_mem (fun b => b ≠ w.heap.size + 1) s at' (hD.carry (w' := (w.alloc (.cells cs 51)).alloc (.cells #[.int .i64 (-1)] 3)) (Q := fun b => In ((w.alloc (.cells cs 51)).alloc (.cells #[.int .i64 (-1)] 3)) b ∧ b ≠ w.heap.size + 1) (fun b hb => HB0.block b hb) (fun b hb => ⟨Nat.lt_of_lt_of_le hb HB0.size, by unfold In at hb; omega⟩))
  have hst := taken_stops _ _ _ _ d cs s at' o ao cap acap hs _ M Z
  simp only [World.size_alloc] at hst
  have hB5 : Below w.heap.size w (((((w.alloc (.cells cs 51)).alloc (.cells #[.int .i64 (-1)] 3)).alloc (.cells cs 51)).alloc (.cells #[.string s] 9)).alloc (.cells #[.int .i64 at'] 3)) := chain HB0 B
  refine wpIn_rangeFunc_ownG rfl (by omega) (gf := 67) (lb := #[.pointer (some ⟨w.heap.size + 1 + 1, 0, none⟩), .pointer (some ⟨w.heap.size + 1 + 1 + 1 + 1, 0, none⟩), .pointer (some ⟨w.heap.size + 1 + 1 + 1, 0, none⟩)]) rfl trivial (enters_of Try.func67 (by kernel_rfl) rfl)
    hst (fun h k => h.trans k) (Kp.book (fun b hb => by simp; omega)) (Below.refl _ _) (fun _ => rfl)
    (fun pre W => Boxed W (w.heap.size + 1) 3 (.int .i64 (pre.getLast?.getD (-1))) ∧ Below w.heap.size w W)
    (fun _ _ _ => False)
    (OwnFrom.and (Own.from (boxed_own _ _ (fun pre : List Int => Value.int .i64 (pre.getLast?.getD (-1)))) _) (ownFrom_below (Nat.le_refl _) (by simp; omega)))
    (fun _ _ _ _ _ hs _ _ => hs)
    ⟨(((bL.alloc _).alloc _).alloc _), hB5⟩
    (fun x => { tmps := #[.agg cs, .string s, .int .i64 at', .pointer (some ⟨w.heap.size, 0, none⟩), undef, undef, .int .i64 0, .pointer (some ⟨w.heap.size + 1, 0, none⟩), .int .i64 x, .agg cs, .string s, .int .i64 at', .func (.func 67) #[] #[.pointer (some ⟨w.heap.size + 1 + 1, 0, none⟩), .pointer (some ⟨w.heap.size + 1 + 1 + 1 + 1, 0, none⟩), .pointer (some ⟨w.heap.size + 1 + 1 + 1, 0, none⟩)], .int .i64 x, undef, undef], defers := [] }) ?assign ?body ?done ?stop
  case assign =>
    intro l x W K hK
    gi_wp2
    exact hK
  case body =>
    rintro l pre x W ⟨hv, hB⟩ hlt
    have hc := hv.cell
    have hf := hv.frozen
    gi_wp2
    exact ⟨(KeepsOthers.setCell _ _ _).from _, ⟨by simp, fun b hb => Below.heap_setCell _ _ _ b (fun e => by simp at e; omega)⟩, by rw [last_snoc]; exact hv.set _, hB.setCell (p := ⟨w.heap.size + 1, 0, none⟩) (by simp) _⟩
  case done =>
    rintro D ys W hD2 rfl ⟨hv, hB⟩ hK
    have hc := hv.cell
    gi_wp2
    refine ⟨by simp, .inl ⟨_, _, rfl, run_takeDeferred hK, ?_⟩⟩
    exact ⟨_, results_tmp rfl _ _ _, rfl, hB.trans (belowK_b (w := w) (Nat.le_refl _) W D _ _ (by simp at hD2; omega) hK rfl rfl)⟩
  case stop =>
    rintro D c pre W _ _ h _
    exact h.elim
def LgIs (f : Nat) (d : Dfa) (s : ByteArray) (at' : Int) (r : Int) : Prop := ∀ cs o cap ao acap w, DAt (In w) w d cs o cap ao acap → Calls Try.prog f #[.agg cs, .string s, .int .i64 at'] w fun e w' => e = .returned (.int .i64 r) ∧ Below w.heap.size w w'
theorem longest_any (d : Dfa) (s : ByteArray) (at' : Int) (hs : s.size ≤ 1000000000000) : LgIs 22 d s at' ((endsOf d s at').getLast?.getD (-1)) :=
  fun cs o cap ao acap w hD => callsIn_wide.1 (longest_in d s at' hs cs o ao cap acap w hD)
end Go.Proofs.Ytfilndgbgdnpiaa.df

namespace Go.Proofs.Ytfilndgbgdnpiaa.df
open Go.RowKit Go.Shelf
set_option linter.unusedVariables false

abbrev Owns (w : World) (B : Nat) (v : Value) (l : List Int) : Prop := w.ownsRow B 3 1 v l.length (l.map (Value.int .i64))
theorem wpList_append_int {ops : Array Oper} {rest : List Oper} {o : Oper} {a : Act} {w : World} {Q : Exit → Act → World → Prop} (hgd : o.guard = none) (s x : Operand)
    (ho : o.op = Op.call { callee := Callee.builtin Builtin.append, args := #[s, x], argTypes := #[39, 39] }) (B : Nat) (v : Value) (l : List Int) (y : Int) (g : Nat)
    (hs : a.eval s = v) (hx : a.eval x = .slice (some ⟨g, 0, none⟩) 1 1) (hown : Owns w B v l) (hc : w.cell? ⟨g, 0, none⟩ = some (.int .i64 y)) (hl : l.length ≤ 1000000000001) (hB : B ≤ w.heap.size)
    (hK : ∀ g' cap' w', Owns w' B (.slice (some ⟨g', 0, none⟩) (l.length + 1) cap') (l ++ [y]) → w.grownBy w' v.ownBlock → wpList Try.prog ops Q rest (a.put o.dst (.slice (some ⟨g', 0, none⟩) (l.length + 1) cap')) w') : wpList Try.prog ops Q (o :: rest) a w := by
  obtain ⟨i0, hi, hz0, hz1, hz2⟩ := info_parts info3
  refine wpList_append_own w hgd s x 39 ho B 3 i0 (.int .i64 0) 1 8 Try.underlying39 hi hz0 hz1 hz2 rfl (by decide) v l.length _ hs hown ⟨g, 0, none⟩ 1 1 [.int .i64 y] hx rfl (fun j u hu => ?_) (by simp [Value.oneCell']) (by unfold maxLen; omega) (by omega) hB ?_
  · rcases j with _ | j
    · simp at hu
      subst hu
      simpa [Addr.add] using hc
    · simp at hu
  · intro v' w' hown' hgrow _
    obtain ⟨g', cap', rfl⟩ := ownsRow_succ hown'
    refine hK g' cap' w' ?_ hgrow
    simpa [Owns] using hown'
theorem own_ge {w : World} {B : Nat} {v : Value} {l : List Int} (h : Owns w B v l) : ∀ k, v.ownBlock = some k → B ≤ k := by
  intro k e
  rcases h.2 with ⟨rfl, _⟩ | ⟨g, cap, cur, rfl, hb, _⟩
  · cases e
  · cases e; exact hb
theorem own_slice {w : World} {B : Nat} {v : Value} {l : List Int} (h : Owns w B v l) : ∃ g cap, v = .slice g l.length cap := by
  rcases h.2 with ⟨rfl, hl⟩ | ⟨g, cap, cur, rfl, hb, _⟩
  · rw [hl]; exact ⟨_, _, rfl⟩
  · exact ⟨_, _, rfl⟩
theorem owns_drewN {w : World} {B : Nat} {v : Value} {l : List Int} (h : Owns w B v l) (n : Nat) : Owns (w.drewN n) B v l := h
end Go.Proofs.Ytfilndgbgdnpiaa.df
