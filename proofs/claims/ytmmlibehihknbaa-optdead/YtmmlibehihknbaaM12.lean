/-
  Texts put together: Plain mathematics and memory: a dfa, which may be, what it takes; how it lies in memory; the load of its classes. Contracts over this program: whether a row's elements are states or none (dfa.goOn). Contracts over this program: which dfa may be (dfa.Right). Contracts over this program: which dfa may be (dfa.Right), its loops; as a whole. Contracts over this program: which dfa may be, as the document has it (fretsawref08's Right).
-/
import Derived.Test.YtmmlibehihknbaaRows
import Derived.WalkKit
import Derived.ChangeAt
import Derived.Below
import Derived.Lib.OthersKept
import Derived.Laws.Rows
import Derived.WalkLawsBesides
import Derived.BigQuiet
import Derived.Deep.QuietTactic
namespace Go.Proofs.Ytmmlibehihknbaa.df
open Go.ChangeShapes Go.WideShapes Go.ChangeAt Go.RowKit
set_option linter.unusedVariables false

theorem below_alloc (w : World) (o : Obj) : Below w.heap.size w (w.alloc o) := (Below.refl _ _).alloc (Nat.le_refl _) o
theorem chain {w w1 w2 : World} (h1 : Below w.heap.size w w1) (h2 : Below w1.heap.size w1 w2) : Below w.heap.size w w2 := h1.trans (h2.mono h1.size)

theorem below_drewN {B : Nat} {a w : World} (h : Below B a w) (n : Nat) : Below B a (w.drewN n) := ⟨h.os, h.tape, h.output, h.size, h.block⟩

structure Dfa where
  cls : Nat → Nat
  next : List (List Int)
  acc : List Bool

def goOn (n : Nat) (r : List Int) : Bool := r.all fun x => decide (-1 ≤ x) && decide (x < (n : Int))
def width (d : Dfa) : Nat := (d.next[0]?.getD []).length
def rowOk (n k : Nat) (r : List Int) : Bool := r.length == k && goOn n r
def clsOk (d : Dfa) : Bool := (List.range 256).all fun i => decide (d.cls i < width d)
def right (d : Dfa) : Bool := decide (1 ≤ d.next.length) && decide (d.next.length ≤ 400) && (d.acc.length == d.next.length) && decide (1 ≤ width d) && decide (width d ≤ 256) && d.next.all (rowOk d.next.length (width d)) && clsOk d

/-- a row of one cell each, in blocks of which P is said -/
structure Row {α : Type} (P : Nat → Prop) (w : World) (g : α → Value) (o : Option Addr) (cap : Nat) (l : List α) : Prop where
  fit : l.length ≤ cap
  top : cap ≤ 9223372036854775807
  lie : ∀ i (h : i < l.length), ∃ b off, o = some ⟨b, off, none⟩ ∧ P b ∧ w.cell? ⟨b, off + i, none⟩ = some (g l[i])
theorem Row.carry {α : Type} {P Q : Nat → Prop} {w w' : World} {g : α → Value} {o : Option Addr} {cap : Nat} {l : List α} (h : Row P w g o cap l) (hk : ∀ b, P b → w'.heap[b]? = w.heap[b]?) (hq : ∀ b, P b → Q b) : Row Q w' g o cap l :=
  ⟨h.fit, h.top, fun i hi => by
    obtain ⟨b, off, e, hp, hc⟩ := h.lie i hi
    exact ⟨b, off, e, hq b hp, by simp only [World.cell?, hk b hp] at hc ⊢; exact hc⟩⟩
abbrev iv (x : Int) : Value := .int .i64 x
abbrev bv (x : Bool) : Value := .bool x
/-- rows of rows -/
structure RowRow (P : Nat → Prop) (w : World) (o : Option Addr) (cap : Nat) (l : List (List Int)) : Prop where
  fit : l.length ≤ cap
  top : cap ≤ 9223372036854775807
  lie : ∀ i (h : i < l.length), ∃ b off oi ci, o = some ⟨b, off, none⟩ ∧ P b ∧ w.cell? ⟨b, off + i, none⟩ = some (.slice oi l[i].length ci) ∧ Row P w iv oi ci l[i]
theorem RowRow.carry {P Q : Nat → Prop} {w w' : World} {o : Option Addr} {cap : Nat} {l : List (List Int)} (h : RowRow P w o cap l) (hk : ∀ b, P b → w'.heap[b]? = w.heap[b]?) (hq : ∀ b, P b → Q b) : RowRow Q w' o cap l :=
  ⟨h.fit, h.top, fun i hi => by
    obtain ⟨b, off, oi, ci, e, hp, hc, hr⟩ := h.lie i hi
    exact ⟨b, off, oi, ci, e, hq b hp, by simp only [World.cell?, hk b hp] at hc ⊢; exact hc, hr.carry hk hq⟩⟩
/-- a dfa as a value, with what it leads to in memory -/
structure DAt (P : Nat → Prop) (w : World) (d : Dfa) (cs : Array Value) (o : Option Addr) (cap : Nat) (ao : Option Addr) (acap : Nat) : Prop where
  size : cs.size = 258
  cl : ∀ i, i < 256 → cs[i]? = some (.int .u8 (d.cls i : Nat))
  c8 : ∀ i, d.cls i < 256
  nx : cs[256]? = some (.slice o d.next.length cap)
  ac : cs[257]? = some (.slice ao d.acc.length acap)
  rows : RowRow P w o cap d.next
  accs : Row P w bv ao acap d.acc
theorem DAt.carry {P Q : Nat → Prop} {w w' : World} {d : Dfa} {cs : Array Value} {o ao : Option Addr} {cap acap : Nat} (h : DAt P w d cs o cap ao acap) (hk : ∀ b, P b → w'.heap[b]? = w.heap[b]?) (hq : ∀ b, P b → Q b) : DAt Q w' d cs o cap ao acap :=
  ⟨h.size, h.cl, h.c8, h.nx, h.ac, h.rows.carry hk hq, h.accs.carry hk hq⟩
abbrev In (w : World) (b : Nat) : Prop := b < w.heap.size
theorem DAt.later {w w' : World} {d : Dfa} {cs : Array Value} {o ao : Option Addr} {cap acap : Nat} (h : DAt (In w) w d cs o cap ao acap) (b : Below w.heap.size w w') : DAt (In w') w' d cs o cap ao acap :=
  h.carry (fun k hk => b.block k hk) (fun k hk => Nat.lt_of_lt_of_le hk b.size)

/-- a dfa in a cell of its own -/
def DBox (w : World) (g : Nat) (cs : Array Value) : Prop := w.heap[g]? = some (.cells cs 36 (0, 0))
section
variable {P : Nat → Prop} {w w' : World} {g : Nat} {d : Dfa} {cs : Array Value} {o ao : Option Addr} {cap acap : Nat}
theorem DBox.lt (h : DBox w g cs) : g < w.heap.size := (Array.getElem?_eq_some_iff.1 h).1
theorem DBox.later (h : DBox w g cs) (b : Below w.heap.size w w') : DBox w' g cs := by unfold DBox; rw [b.block g h.lt]; exact h
theorem DBox.cl (h : DBox w g cs) (k : DAt P w' d cs o cap ao acap) (i : Nat) (hi : i < 256) : w.cell? ⟨g, i, none⟩ = some (.int .u8 (d.cls i : Nat)) := by rw [Lib.cell_of_heap h]; exact k.cl i hi
theorem DBox.nx (h : DBox w g cs) (k : DAt P w' d cs o cap ao acap) : w.cell? ⟨g, 256, none⟩ = some (.slice o d.next.length cap) := by rw [Lib.cell_of_heap h]; exact k.nx
theorem DBox.ac (h : DBox w g cs) (k : DAt P w' d cs o cap ao acap) : w.cell? ⟨g, 257, none⟩ = some (.slice ao d.acc.length acap) := by rw [Lib.cell_of_heap h]; exact k.ac
end
theorem dbox_new (w : World) (cs : Array Value) : DBox (w.alloc (.cells cs 36)) w.heap.size cs := heap_alloc_new w _
theorem info36 (cs : Array Value) (h : cs.size = 258) : (Try.prog.info? 36).map (·.size) = some cs.size := by rw [h]; kernel_rfl
theorem info33 : (Try.prog.info? 33).map (·.size) = some 256 := by kernel_rfl

theorem run_load_part {P : Program} (w : World) (g : Nat) (t ty : TypeId) (cs : Array Value) (n : Nat) (hn : n ≤ cs.size) (d : TypeDesc) (hg : w.heap[g]? = some (.cells cs t (0, 0)))
    (hu : P.underlying ty = some d) (hd : (match d with | .struct _ | .array _ _ => true | _ => false) = true) (hi : (P.info? ty).map (·.size) = some n) :
    (loadVar ty ⟨g, 0, none⟩).run P w = .ok (.agg (cs.extract 0 n)) w := by
  have hl : (loadCells ⟨g, 0, none⟩ (cs.extract 0 n).toList.length).run P w = .ok (cs.extract 0 n).toList.toArray w :=
    run_loadCells_list (P := P) w ⟨g, 0, none⟩ (cs.extract 0 n).toList (fun j v hv => by
      have hadd : (⟨g, 0, none⟩ : Addr).add j = ⟨g, j, none⟩ := by unfold Addr.add; split <;> simp_all
      rw [hadd, cell_of_row w g j cs t (0, 0) hg]
      rw [Array.getElem?_toList, Array.getElem?_extract] at hv
      split at hv
      · simpa using hv
      · cases hv)
  have he : (cs.extract 0 n).size = n := by simp; omega
  cases hq : P.info? ty with
  | none => simp [hq] at hi
  | some i =>
    have hs : i.size = n := by simpa [hq] using hi
    have hagg : (isAgg ty).run P w = .ok true w := by
      unfold isAgg
      rw [Sem.run_bind, run_underlying hu w]
      cases d <;> simp_all
    simp only [Array.length_toList, Array.toArray_toList, he] at hl
    simp [loadVar, Sem.run_bind, hagg, sizeOf, typeInfo, hq, hs, hl]
theorem run_load33 (w : World) (g : Nat) (cs : Array Value) (h : DBox w g cs) (hs : cs.size = 258) : (loadVar 33 ⟨g, 0, none⟩).run Try.prog w = .ok (.agg (cs.extract 0 256)) w :=
  run_load_part w g 36 33 cs 256 (by omega) _ h Try.underlying33 rfl info33
theorem wpList_load33 {ops : Array Oper} {rest : List Oper} {oo : Oper} {a : Act} {w : World} {Q : Exit → Act → World → Prop} (hgd : oo.guard = none) (x : Operand) (ho : oo.op = .load 33 x)
    (g : Nat) (hx : a.eval x = .pointer (some ⟨g, 0, none⟩)) (cs : Array Value) (hg : DBox w g cs) (hs : cs.size = 258)
    (h : wpList Try.prog ops Q rest (a.put oo.dst (.agg (cs.extract 0 256))) w) : wpList Try.prog ops Q (oo :: rest) a w :=
  wpList_plain hgd fun _ hK => by
    unfold Oper.wp execOp
    simp only [ho, hx, Instr.loadAt, Instr.sureAddr, Sem.run_bind, Sem.run_pure, Result.andThen_ok, run_load33 w g cs hg hs]
    exact hK _ _ h
theorem run_index_arr {P : Program} (t e : TypeId) (n : Nat) (cs : Array Value) (i : Nat) (hi : i < n) (v : Value) (hv : cs[i]? = some v) (W : World) (hu : P.underlying t = some (.array n e)) (ha : (isAgg e).run P W = .ok false W) (hz : (sizeOf e).run P W = .ok 1 W) : (Instr.index t (.agg cs) (.int .i64 (i : Int))).run P W = .ok v W := by
  simp [Instr.index, asIntOf, run_underlying hu, part, ha, hz, hv]
  intro h
  omega
theorem index33 (cs : Array Value) (i : Nat) (hi : i < 256) (v : Value) (hv : cs[i]? = some v) (hs : cs.size = 258) (W : World) : (Instr.index 33 (.agg (cs.extract 0 256)) (.int .i64 (i : Int))).run Try.prog W = .ok v W := by
  have he : (cs.extract 0 256)[i]? = some v := by
    rw [Array.getElem?_extract]
    rw [if_pos (by omega)]
    simpa using hv
  exact run_index_arr 33 5 256 _ i hi v he W Try.underlying33 (Try.isAgg5 W) (Try.sizeOf5 W)
end Go.Proofs.Ytmmlibehihknbaa.df

namespace Go.Proofs.Ytmmlibehihknbaa.df
open Go.ChangeShapes Go.WideShapes Go.ChangeAt Go.RowKit
set_option linter.unusedVariables false

theorem all_take {α : Type} (p : α → Bool) (l : List α) (i : Nat) (h : i < l.length) : (l.take (i + 1)).all p = ((l.take i).all p && p l[i]) := by
  rw [List.take_add_one, List.getElem?_eq_getElem h, List.all_append]
  simp only [Option.toList_some, List.all_cons, List.all_nil, Bool.and_true]
theorem all_no {α : Type} (p : α → Bool) (l : List α) (i : Nat) (h : i < l.length) (hp : p l[i] = false) : l.all p = false := by
  rw [List.all_eq_false]
  exact ⟨l[i], List.getElem_mem h, by simp [hp]⟩

def GoIs (n : Nat) (r : List Int) (a : Bool) : Prop := ∀ o cap w, Row (In w) w iv o cap r → Calls Try.prog 74 #[.slice o r.length cap, .int .i64 (n : Int)] w fun e w' => e = .returned (.bool a) ∧ w' = w
set_option maxHeartbeats 1000000 in
theorem goOn_any (n : Nat) (hn : n ≤ 400) (r : List Int) (a : Bool) (ha : a = goOn n r) : GoIs n r a := by
  intro o cap w hR
  have hfit := hR.fit
  have htop := hR.top
  have HR : Hid (Row (In w) w iv o cap r) := hR
  have HA : Hid (a = goOn n r) := ha
  clear hR ha
  go_enter Try.func74, Try.ntmps74
  go_wp2
  go_loop [9] (fun y => ∃ i : Nat, y = .int .i64 i ∧ i ≤ r.length ∧ Hid ((r.take i).all (fun x => decide (-1 ≤ x) && decide (x < (n : Int))) = true)) (fun y => r.length - (intOf y).toNat)
  case atStart => exact ⟨0, rfl, by omega, by show _ = _; simp⟩
  case round =>
    obtain ⟨i, rfl, hil, HI⟩ := hrel
    by_cases hend : i < r.length
    · obtain ⟨b, off, rfl, hb, hc⟩ := HR.out.lie i hend
      have hall := all_take (fun x => decide (-1 ≤ x) && decide (x < (n : Int))) r i hend
      have hno := all_no (fun x => decide (-1 ≤ x) && decide (x < (n : Int))) r i hend
      rw [HI.out, Bool.true_and] at hall
      unfold In at hb
      obtain ⟨x, hx⟩ : ∃ x, x = r[i] := ⟨_, rfl⟩
      rw [← hx] at hc hall hno
      clear hx
      have HA2 : Hid (a = goOn n r) := HA
      unfold goOn at HA2
      have HNO : Hid ((decide (-1 ≤ x) && decide (x < (n : Int))) = false → a = false) := fun h => HA2.out.trans (hno h)
      have HALL : Hid ((r.take (i + 1)).all (fun x => decide (-1 ≤ x) && decide (x < (n : Int))) = (decide (-1 ≤ x) && decide (x < (n : Int)))) := hall
      clear hno hall HA2
      by_cases g0 : x < -1
      · have f0 : decide (x < -1) = true := decide_eq_true g0
        have HF : Hid (a = false) := HNO.out (by simp; omega)
        clear g0 HNO HALL
        go_wp2
        go_ret
        exact ⟨by rw [HF.out]; rfl, rfl⟩
      · have f0 : decide (x < -1) = false := decide_eq_false g0
        by_cases g1 : (n : Int) ≤ x
        · have f1 : decide ((n : Int) ≤ x) = true := decide_eq_true g1
          have HF : Hid (a = false) := HNO.out (by simp; omega)
          clear g0 g1 HNO HALL
          go_wp2
          go_ret
          exact ⟨by rw [HF.out]; rfl, rfl⟩
        · have f1 : decide ((n : Int) ≤ x) = false := decide_eq_false g1
          have HT : Hid ((r.take (i + 1)).all (fun x => decide (-1 ≤ x) && decide (x < (n : Int))) = true) := by show _ = _; rw [HALL.out]; simp; omega
          clear g0 g1 HNO HALL
          go_wp2
          go_round
          case rel => exact ⟨i + 1, by go_num, by omega, HT⟩
          case measure => simp [intOf]; omega
    · have HF : Hid (a = true) := by
        show _ = _
        have := HI.out
        rw [List.take_of_length_le (by omega)] at this
        rw [HA.out]
        exact this
      go_wp2
      go_ret
      exact ⟨by rw [HF.out]; rfl, rfl⟩
end Go.Proofs.Ytmmlibehihknbaa.df

namespace Go.Proofs.Ytmmlibehihknbaa.df
open Go.ChangeShapes Go.WideShapes Go.ChangeAt Go.RowKit
set_option linter.unusedVariables false

def RtIs (f : Nat) (d : Dfa) (r : Bool) : Prop := ∀ cs o cap ao acap w, DAt (In w) w d cs o cap ao acap → Calls Try.prog f #[.agg cs] w fun e w' => e = .returned (.bool r) ∧ Below w.heap.size w w'

theorem first_row {w : World} {o : Option Addr} {cap : Nat} {l : List (List Int)} (h : RowRow (In w) w o cap l) (h1 : 1 ≤ l.length) :
    ∃ b off oi ci, o = some ⟨b, off, none⟩ ∧ b < w.heap.size ∧ w.cell? ⟨b, off, none⟩ = some (.slice oi (l[0]?.getD []).length ci) ∧ Row (In w) w iv oi ci (l[0]?.getD []) := by
  obtain ⟨b, off, oi, ci, e, hb, hc, hr⟩ := h.lie 0 (by omega)
  have e0 : l[0]?.getD [] = l[0] := by rw [List.getElem?_eq_getElem (by omega)]; rfl
  rw [e0]
  exact ⟨b, off, oi, ci, e, hb, hc, hr⟩
theorem row_at {w : World} {b off : Nat} {cap : Nat} {l : List (List Int)} (h : RowRow (In w) w (some ⟨b, off, none⟩) cap l) (i : Nat) (hi : i < l.length) :
    ∃ oi ci, w.cell? ⟨b, off + i, none⟩ = some (.slice oi l[i].length ci) ∧ Row (In w) w iv oi ci l[i] := by
  obtain ⟨b', off', oi, ci, e, hb, hc, hr⟩ := h.lie i hi
  cases e
  exact ⟨oi, ci, hc, hr⟩
set_option maxRecDepth 100000 in
set_option maxHeartbeats 1000000 in
theorem right_0 (d : Dfa) (g0 : d.next.length < 1) : RtIs 70 d false := by
  intro cs o cap ao acap w hD
  have hw8 := hD.size
  have hnx := hD.nx
  have hac := hD.ac
  have b0 := dbox_new w cs
  have k0 := b0.nx hD
  have k1 := b0.ac hD
  have hfit := hD.rows.fit
  have htop := hD.rows.top
  have hafit := hD.accs.fit
  have hatop := hD.accs.top
  clear hD
  generalize d.next.length = n at *
  generalize d.acc.length = m at *
  go_enter Try.func70, Try.ntmps70
  go_wp2_with (fail)
  go_ret
  exact ⟨rfl, below_alloc _ _⟩
set_option maxRecDepth 100000 in
set_option maxHeartbeats 1000000 in
theorem right_1 (d : Dfa) (g0 : ¬ d.next.length < 1) (g1 : 400 < d.next.length) : RtIs 70 d false := by
  intro cs o cap ao acap w hD
  have hw8 := hD.size
  have hnx := hD.nx
  have hac := hD.ac
  have b0 := dbox_new w cs
  have k0 := b0.nx hD
  have k1 := b0.ac hD
  have hfit := hD.rows.fit
  have htop := hD.rows.top
  have hafit := hD.accs.fit
  have hatop := hD.accs.top
  clear hD
  generalize d.next.length = n at *
  generalize d.acc.length = m at *
  go_enter Try.func70, Try.ntmps70
  go_wp2_with (fail)
  go_ret
  exact ⟨rfl, below_alloc _ _⟩
set_option maxRecDepth 100000 in
set_option maxHeartbeats 1000000 in
theorem right_2 (d : Dfa) (g0 : ¬ d.next.length < 1) (g1 : ¬ 400 < d.next.length) (g2 : d.acc.length ≠ d.next.length) : RtIs 70 d false := by
  intro cs o cap ao acap w hD
  have hw8 := hD.size
  have hnx := hD.nx
  have hac := hD.ac
  have b0 := dbox_new w cs
  have k0 := b0.nx hD
  have k1 := b0.ac hD
  have hfit := hD.rows.fit
  have htop := hD.rows.top
  have hafit := hD.accs.fit
  have hatop := hD.accs.top
  have f2 : ((d.acc.length : Int) == (d.next.length : Int)) = false := beq_eq_false_iff_ne.2 (by omega)
  have f3 : ((d.acc.length : Int) != (d.next.length : Int)) = true := bne_iff_ne.2 (by omega)
  clear hD
  generalize d.next.length = n at *
  generalize d.acc.length = m at *
  go_enter Try.func70, Try.ntmps70
  go_wp2_with (fail)
  go_ret
  exact ⟨rfl, below_alloc _ _⟩
set_option maxRecDepth 100000 in
set_option maxHeartbeats 1000000 in
theorem right_3 (d : Dfa) (g0 : ¬ d.next.length < 1) (g1 : ¬ 400 < d.next.length) (g2 : d.acc.length = d.next.length) (g3 : width d < 1) : RtIs 70 d false := by
  intro cs o cap ao acap w hD
  have hw8 := hD.size
  have hnx := hD.nx
  have hac := hD.ac
  have b0 := dbox_new w cs
  have k0 := b0.nx hD
  have k1 := b0.ac hD
  have hfit := hD.rows.fit
  have htop := hD.rows.top
  have hafit := hD.accs.fit
  have hatop := hD.accs.top
  have f2 : ((d.acc.length : Int) == (d.next.length : Int)) = true := beq_iff_eq.2 (by omega)
  have f3 : ((d.acc.length : Int) != (d.next.length : Int)) = false := by rw [bne, f2]; rfl
  have f3' : (!((d.acc.length : Int) == (d.next.length : Int))) = false := by rw [f2]; rfl
  obtain ⟨b, off, oi, ci, rfl, hb, hc, hr⟩ := first_row hD.rows (by omega)
  have hrf := hr.fit
  have hrt := hr.top
  have hn1 : 1 ≤ d.next.length := by omega
  unfold width at *
  clear hD hr
  generalize (d.next[0]?.getD []).length = k at *
  generalize d.next.length = n at *
  generalize d.acc.length = m at *
  go_enter Try.func70, Try.ntmps70
  go_wp2_with (fail)
  go_ret
  exact ⟨rfl, below_alloc _ _⟩
set_option maxRecDepth 100000 in
set_option maxHeartbeats 1000000 in
theorem right_4 (d : Dfa) (g0 : ¬ d.next.length < 1) (g1 : ¬ 400 < d.next.length) (g2 : d.acc.length = d.next.length) (g3 : ¬ width d < 1) (g4 : 256 < width d) : RtIs 70 d false := by
  intro cs o cap ao acap w hD
  have hw8 := hD.size
  have hnx := hD.nx
  have hac := hD.ac
  have b0 := dbox_new w cs
  have k0 := b0.nx hD
  have k1 := b0.ac hD
  have hfit := hD.rows.fit
  have htop := hD.rows.top
  have hafit := hD.accs.fit
  have hatop := hD.accs.top
  have f2 : ((d.acc.length : Int) == (d.next.length : Int)) = true := beq_iff_eq.2 (by omega)
  have f3 : ((d.acc.length : Int) != (d.next.length : Int)) = false := by rw [bne, f2]; rfl
  have f3' : (!((d.acc.length : Int) == (d.next.length : Int))) = false := by rw [f2]; rfl
  obtain ⟨b, off, oi, ci, rfl, hb, hc, hr⟩ := first_row hD.rows (by omega)
  have hrf := hr.fit
  have hrt := hr.top
  have hn1 : 1 ≤ d.next.length := by omega
  unfold width at *
  clear hD hr
  generalize (d.next[0]?.getD []).length = k at *
  generalize d.next.length = n at *
  generalize d.acc.length = m at *
  go_enter Try.func70, Try.ntmps70
  go_wp2_with (fail)
  go_ret
  exact ⟨rfl, below_alloc _ _⟩
end Go.Proofs.Ytmmlibehihknbaa.df

namespace Go.Proofs.Ytmmlibehihknbaa.df
open Go.ChangeShapes Go.WideShapes Go.ChangeAt Go.RowKit
set_option linter.unusedVariables false

theorem cls_take (d : Dfa) (j k : Nat) (hk : k = width d) (h : ∀ i, i < j → d.cls i < k) (hj : 256 ≤ j) : clsOk d = true := by
  unfold clsOk
  rw [List.all_eq_true]
  intro i hi
  rw [List.mem_range] at hi
  rw [← hk]
  exact decide_eq_true (h i (by omega))
theorem cls_no (d : Dfa) (j k : Nat) (hk : k = width d) (h : k ≤ d.cls j) (hj : j < 256) : clsOk d = false := by
  unfold clsOk
  rw [List.all_eq_false]
  exact ⟨j, List.mem_range.2 hj, by simp; omega⟩

set_option maxRecDepth 100000 in
set_option maxHeartbeats 2000000 in
theorem right_loop (d : Dfa) (g0 : ¬ d.next.length < 1) (g1 : ¬ 400 < d.next.length) (g2 : d.acc.length = d.next.length) (g3 : ¬ width d < 1) (g4 : ¬ 256 < width d) (r : Bool) (hr : r = (d.next.all (rowOk d.next.length (width d)) && clsOk d)) : RtIs 70 d r := by
  intro cs o cap ao acap w hD
  have hw8 := hD.size
  have hnx := hD.nx
  have hac := hD.ac
  have b0 := dbox_new w cs
  have k0 := b0.nx hD
  have k1 := b0.ac hD
  have hfit := hD.rows.fit
  have htop := hD.rows.top
  have hafit := hD.accs.fit
  have hatop := hD.accs.top
  have f2 : ((d.acc.length : Int) == (d.next.length : Int)) = true := beq_iff_eq.2 (by omega)
  have f3 : ((d.acc.length : Int) != (d.next.length : Int)) = false := by rw [bne, f2]; rfl
  have f3' : (!((d.acc.length : Int) == (d.next.length : Int))) = false := by rw [f2]; rfl
  obtain ⟨b, off, oi, ci, rfl, hb, hc, hrw⟩ := first_row hD.rows (by omega)
  have hrf := hrw.fit
  have hrt := hrw.top
  have hn1 : 1 ≤ d.next.length := by omega
  have HK : Hid (width d = (d.next[0]?.getD []).length) := rfl
  rw [← HK.out] at hc hrf
  have HR : Hid (r = (d.next.all (rowOk d.next.length (width d)) && clsOk d)) := hr
  have HB := below_alloc w (.cells cs 36)
  have HD : Hid (DAt (In (w.alloc (.cells cs 36))) (w.alloc (.cells cs 36)) d cs (some ⟨b, off, none⟩) cap ao acap) := hD.later HB
  clear hD hr hrw HK
  have HW : Hid (∀ k, width d = k → (d.next.all (rowOk d.next.length k) && clsOk d) = r) := fun k hk => by rw [← hk]; exact HR.out.symm
  have HCK : Hid (∀ k, width d = k → ∀ j, (∀ i, i < j → d.cls i < k) → 256 ≤ j → clsOk d = true) := fun k hk j => cls_take d j k hk.symm
  have HCN : Hid (∀ k, width d = k → ∀ j, k ≤ d.cls j → j < 256 → clsOk d = false) := fun k hk j => cls_no d j k hk.symm
  obtain ⟨k, hk⟩ : ∃ k, width d = k := ⟨_, rfl⟩
  rw [hk] at g3 g4 hc hrf
  have HW2 : Hid ((d.next.all (rowOk d.next.length k) && clsOk d) = r) := HW.out k hk
  have HCK2 := (show Hid (∀ j, (∀ i, i < j → d.cls i < k) → 256 ≤ j → clsOk d = true) from HCK.out k hk)
  have HCN2 := (show Hid (∀ j, k ≤ d.cls j → j < 256 → clsOk d = false) from HCN.out k hk)
  clear HW HCK HCN HR hk
  have h8 := HD.out.c8
  go_enter Try.func70, Try.ntmps70
  go_wp2_with (fail)
  obtain ⟨w1, hw1⟩ : ∃ x, x = w.alloc (.cells cs 36) := ⟨_, rfl⟩
  rw [← hw1] at HD HB b0 ⊢
  clear hb hc k0 k1 hrf hrt
  clear hw1
  go_loop [39] (fun y => ∃ i : Nat, y = .int .i64 i ∧ i ≤ d.next.length ∧ Hid ((d.next.take i).all (rowOk d.next.length k) = true)) (fun y => d.next.length - (intOf y).toNat)
  case atStart => exact ⟨0, rfl, by omega, by show _ = _; simp⟩
  case round =>
    obtain ⟨i, rfl, hil, HI⟩ := hrel
    by_cases hend : i < d.next.length
    · obtain ⟨oi, ci, hc, hrw⟩ := row_at HD.out.rows i hend
      have hrf := hrw.fit
      have hrt := hrw.top
      have hall := all_take (rowOk d.next.length k) d.next i hend
      have hno := all_no (rowOk d.next.length k) d.next i hend
      rw [HI.out, Bool.true_and] at hall
      obtain ⟨x, hx⟩ : ∃ x, x = d.next[i] := ⟨_, rfl⟩
      rw [← hx] at hc hall hno hrw hrf
      clear hx
      have HNO : Hid (rowOk d.next.length k x = false → r = false) := fun h => by rw [← HW2.out, hno h]; rfl
      have HALL : Hid ((d.next.take (i + 1)).all (rowOk d.next.length k) = rowOk d.next.length k x) := hall
      have hgo := goOn_any d.next.length (by omega) x _ rfl
      unfold GoIs at hgo
      have HRW : Hid (Row (In w1) w1 iv oi ci x) := hrw
      clear hno hall HI hrw
      have hxk : x.length = k ∨ x.length ≠ k := Nat.decEq _ _ |>.em
      rcases hxk with hxk | hxk
      · have q1 : ((x.length : Int) == (k : Int)) = true := beq_iff_eq.2 (by omega)
        have q2 : ((x.length : Int) != (k : Int)) = false := by rw [bne, q1]; rfl
        have q3 : (x.length == k) = true := beq_iff_eq.2 hxk
        have HX : Hid (rowOk d.next.length k x = goOn d.next.length x) := by show _ = _; unfold rowOk; rw [q3, Bool.true_and]
        clear q3 hxk
        generalize d.next.length = n at *
        cases hg : goOn n x with
        | false =>
          have HF : Hid (r = false) := HNO.out (HX.out.trans hg)
          rw [hg] at hgo
          clear hg HX HNO HALL
          go_wp2_with (go_at_call 74; (with_reducible refine (hgo _ _ _ HRW.out).mono ?_); rintro e w2 ⟨rfl, hw⟩; obtain rfl := hw.symm)
          go_ret
          exact ⟨by rw [HF.out]; rfl, HB⟩
        | true =>
          have HT : Hid ((d.next.take (i + 1)).all (rowOk n k) = true) := HALL.out.trans (HX.out.trans hg)
          rw [hg] at hgo
          clear hg HX HNO HALL
          go_wp2_with (go_at_call 74; (with_reducible refine (hgo _ _ _ HRW.out).mono ?_); rintro e w2 ⟨rfl, hw⟩; obtain rfl := hw.symm)
          go_round
          case rel => exact ⟨i + 1, by go_num, by omega, HT⟩
          case measure => simp [intOf]; omega
      · have q1 : ((x.length : Int) == (k : Int)) = false := beq_eq_false_iff_ne.2 (by omega)
        have q2 : ((x.length : Int) != (k : Int)) = true := bne_iff_ne.2 (by omega)
        have HF : Hid (r = false) := HNO.out (by unfold rowOk; rw [beq_eq_false_iff_ne.2 hxk]; rfl)
        clear HNO HALL hgo hxk
        go_wp2_with (fail)
        go_ret
        exact ⟨by rw [HF.out]; rfl, HB⟩
    · have HA : Hid (clsOk d = r) := by
        show _ = _
        have := HI.out
        rw [List.take_of_length_le (by omega)] at this
        rw [← HW2.out, this, Bool.true_and]
      clear HI HW2
      go_wp2_with (refine wpList_load33 rfl (.tmp 54) rfl w.heap.size rfl cs b0 hw8 ?_)
      go_loop [56] (fun y => ∃ j : Nat, y = .int .i64 j ∧ j ≤ 256 ∧ Hid (∀ i, i < j → d.cls i < k)) (fun y => 256 - (intOf y).toNat)
      case atStart => exact ⟨0, rfl, by omega, fun i hi => by omega⟩
      case round =>
        obtain ⟨j, rfl, hj, HJ⟩ := hrel
        by_cases hlt : j < 256
        · have hidx := index33 cs j hlt _ (HD.out.cl j hlt) hw8
          have hc8 := h8 j
          have HC1 : Hid (k ≤ d.cls j → r = false) := fun h => HA.out.symm.trans (HCN2.out j h hlt)
          have HC2 : Hid (d.cls j < k → ∀ i, i < j + 1 → d.cls i < k) := fun h i hi => by
            rcases Nat.lt_succ_iff_lt_or_eq.1 hi with h2 | h2
            · exact HJ.out i h2
            · rw [h2]; exact h
          clear HJ
          generalize d.cls j = c at *
          by_cases hck : k ≤ c
          · have HF : Hid (r = false) := HC1.out hck
            go_wp2_with (fail)
            go_ret
            exact ⟨by rw [HF.out]; rfl, HB⟩
          · have HT : Hid (∀ i, i < j + 1 → d.cls i < k) := HC2.out (by omega)
            clear HC1 HC2
            go_wp2_with (fail)
            go_round
            case rel => exact ⟨j + 1, by go_num, by omega, HT⟩
            case measure => simp [intOf]; omega
        · have HF : Hid (r = true) := HA.out.symm.trans (HCK2.out j HJ.out (by omega))
          go_wp2_with (fail)
          go_ret
          exact ⟨by rw [HF.out]; rfl, HB⟩
theorem right_any (d : Dfa) (r : Bool) (hr : r = right d) : RtIs 70 d r := by
  have no : (right d = false) → RtIs 70 d false → RtIs 70 d r := fun h h2 => by rw [hr, h]; exact h2
  by_cases g0 : d.next.length < 1
  · exact no (by unfold right; rw [decide_eq_false (by omega)]; simp) (right_0 d g0)
  by_cases g1 : 400 < d.next.length
  · exact no (by unfold right; rw [decide_eq_false (p := d.next.length ≤ 400) (by omega)]; simp) (right_1 d g0 g1)
  by_cases g2 : d.acc.length = d.next.length
  · by_cases g3 : width d < 1
    · exact no (by unfold right; rw [decide_eq_false (p := 1 ≤ width d) (by omega)]; simp) (right_3 d g0 g1 g2 g3)
    by_cases g4 : 256 < width d
    · exact no (by unfold right; rw [decide_eq_false (p := width d ≤ 256) (by omega)]; simp) (right_4 d g0 g1 g2 g3 g4)
    refine right_loop d g0 g1 g2 g3 g4 r ?_
    rw [hr]
    unfold right
    rw [decide_eq_true (by omega), decide_eq_true (by omega), decide_eq_true (by omega), decide_eq_true (by omega), beq_iff_eq.2 g2]
    simp
  · exact no (by unfold right; rw [beq_eq_false_iff_ne.2 g2]; simp) (right_2 d g0 g1 g2)
end Go.Proofs.Ytmmlibehihknbaa.df

namespace Go.Proofs.Ytmmlibehihknbaa.df
open Go.ChangeShapes Go.WideShapes Go.ChangeAt Go.RowKit
set_option linter.unusedVariables false

end Go.Proofs.Ytmmlibehihknbaa.df
