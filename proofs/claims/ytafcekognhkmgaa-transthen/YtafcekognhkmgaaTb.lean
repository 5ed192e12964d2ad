/-
  A machine in memory: rows of numbers, of texts, rows of rows; a machine in a cell of its own.
-/
import Derived.Test.YtafcekognhkmgaaRows
import Derived.Test.YtafcekognhkmgaaTa
import Derived.WalkKit
import Derived.ChangeAt
import Derived.Below
import Derived.Lib.OthersKept
import Derived.Laws.Rows
import Derived.WalkLawsBesides
import Derived.Deep.QuietTactic
import Derived.Deep.RegionHeld3
import Derived.WalkSmall
import Derived.BigQuiet
import Derived.SizedLaws
namespace Go.Proofs.Ytafcekognhkmgaa.tr
open Go.ChangeShapes Go.WideShapes Go.ChangeAt Go.RowKit
set_option linter.unusedVariables false

theorem below_alloc (w : World) (o : Obj) : Below w.heap.size w (w.alloc o) := (Below.refl _ _).alloc (Nat.le_refl _) o
theorem chain {w w1 w2 : World} (h1 : Below w.heap.size w w1) (h2 : Below w1.heap.size w1 w2) : Below w.heap.size w w2 := h1.trans (h2.mono h1.size)
theorem below_drewN {B : Nat} {a w : World} (h : Below B a w) (n : Nat) : Below B a (w.drewN n) := ⟨h.os, h.tape, h.output, h.size, h.block⟩

/-- a row of one cell each, in blocks of which P is said -/
structure Row {α : Type} (P : Nat → Prop) (w : World) (g : α → Value) (o : Option Addr) (cap : Nat) (l : List α) : Prop where
  fit : l.length ≤ cap
  top : cap ≤ 9223372036854775807
  lie : ∀ i (h : i < l.length), ∃ b off, o = some ⟨b, off, none⟩ ∧ P b ∧ w.cell? ⟨b, off + i, none⟩ = some (g l[i])
theorem Row.carry {α : Type} {P Q : Nat → Prop} {w w' : World} {g : α → Value} {o : Option Addr} {cap : Nat} {l : List α} (h : Row P w g o cap l) (hk : ∀ b, P b → w'.heap[b]? = w.heap[b]?) (hq : ∀ b, P b → Q b) : Row Q w' g o cap l :=
  ⟨h.fit, h.top, fun i hi => by
    obtain ⟨b, off, e, hp, hc⟩ := h.lie i hi
    exact ⟨b, off, e, hq b hp, by simp only [World.cell?, hk b hp] at hc ⊢; exact hc⟩⟩
abbrev iv (x : Int) : Value := .int .i64 x
abbrev sv (x : ByteArray) : Value := .string x
/-- rows of rows -/
structure RowRow (P : Nat → Prop) (w : World) (o : Option Addr) (cap : Nat) (l : List (List Int)) : Prop where
  fit : l.length ≤ cap
  top : cap ≤ 9223372036854775807
  lie : ∀ i (h : i < l.length), ∃ b off oi ci, o = some ⟨b, off, none⟩ ∧ P b ∧ w.cell? ⟨b, off + i, none⟩ = some (.slice oi l[i].length ci) ∧ Row P w iv oi ci l[i]
theorem RowRow.carry {P Q : Nat → Prop} {w w' : World} {o : Option Addr} {cap : Nat} {l : List (List Int)} (h : RowRow P w o cap l) (hk : ∀ b, P b → w'.heap[b]? = w.heap[b]?) (hq : ∀ b, P b → Q b) : RowRow Q w' o cap l :=
  ⟨h.fit, h.top, fun i hi => by
    obtain ⟨b, off, oi, ci, e, hp, hc, hr⟩ := h.lie i hi
    exact ⟨b, off, oi, ci, e, hq b hp, by simp only [World.cell?, hk b hp] at hc ⊢; exact hc, hr.carry hk hq⟩⟩
/-- where a machine's four rows lie -/
structure Mp where
  no : Option Addr
  nc : Nat
  po : Option Addr
  pc : Nat
  eo : Option Addr
  ec : Nat
  xo : Option Addr
  xc : Nat
/-- the machine's four cells -/
abbrev mv (m : Mc) (p : Mp) : Array Value := #[.slice p.no m.next.length p.nc, .slice p.po m.put.length p.pc, .slice p.eo m.fin.length p.ec, .slice p.xo m.txt.length p.xc]
structure MAt (P : Nat → Prop) (w : World) (m : Mc) (p : Mp) : Prop where
  rnx : RowRow P w p.no p.nc m.next
  rpt : RowRow P w p.po p.pc m.put
  ren : Row P w iv p.eo p.ec m.fin
  rtx : Row P w sv p.xo p.xc m.txt
theorem MAt.carry {P Q : Nat → Prop} {w w' : World} {m : Mc} {p : Mp} (h : MAt P w m p) (hk : ∀ b, P b → w'.heap[b]? = w.heap[b]?) (hq : ∀ b, P b → Q b) : MAt Q w' m p :=
  ⟨h.rnx.carry hk hq, h.rpt.carry hk hq, h.ren.carry hk hq, h.rtx.carry hk hq⟩
/-- in blocks below B -/
abbrev Lo (B : Nat) (b : Nat) : Prop := b < B
abbrev In (w : World) : Nat → Prop := Lo w.heap.size
theorem MAt.later {w w' : World} {m : Mc} {p : Mp} (h : MAt (In w) w m p) (b : Below w.heap.size w w') : MAt (In w') w' m p :=
  h.carry (fun k hk => b.block k hk) (fun k hk => Nat.lt_of_lt_of_le hk b.size)
theorem MAt.low {B : Nat} {w w' : World} {m : Mc} {p : Mp} (h : MAt (Lo B) w m p) (b : Below B w w') : MAt (Lo B) w' m p :=
  h.carry (fun k hk => b.block k hk) (fun k hk => hk)
theorem Row.later {α : Type} {w w' : World} {g : α → Value} {o : Option Addr} {cap : Nat} {l : List α} (h : Row (In w) w g o cap l) (b : Below w.heap.size w w') : Row (In w') w' g o cap l :=
  h.carry (fun k hk => b.block k hk) (fun k hk => Nat.lt_of_lt_of_le hk b.size)
theorem RowRow.later {w w' : World} {o : Option Addr} {cap : Nat} {l : List (List Int)} (h : RowRow (In w) w o cap l) (b : Below w.heap.size w w') : RowRow (In w') w' o cap l :=
  h.carry (fun k hk => b.block k hk) (fun k hk => Nat.lt_of_lt_of_le hk b.size)

/-- a machine in a cell of its own -/
def Box (w : World) (g : Nat) (m : Mc) (p : Mp) : Prop := w.heap[g]? = some (.cells (mv m p) 26 (0, 0))
section
variable {P : Nat → Prop} {w w' : World} {g : Nat} {m : Mc} {p : Mp}
theorem Box.lt (h : Box w g m p) : g < w.heap.size := (Array.getElem?_eq_some_iff.1 h).1
theorem Box.later (h : Box w g m p) (b : Below w.heap.size w w') : Box w' g m p := by unfold Box; rw [b.block g h.lt]; exact h
theorem Box.low {B : Nat} (h : Box w g m p) (hg : g < B) (b : Below B w w') : Box w' g m p := by unfold Box; rw [b.block g hg]; exact h
theorem Box.c0 (h : Box w g m p) : w.cell? ⟨g, 0, none⟩ = some (.slice p.no m.next.length p.nc) := by rw [Lib.cell_of_heap h]; rfl
theorem Box.c1 (h : Box w g m p) : w.cell? ⟨g, 1, none⟩ = some (.slice p.po m.put.length p.pc) := by rw [Lib.cell_of_heap h]; rfl
theorem Box.c2 (h : Box w g m p) : w.cell? ⟨g, 2, none⟩ = some (.slice p.eo m.fin.length p.ec) := by rw [Lib.cell_of_heap h]; rfl
theorem Box.c3 (h : Box w g m p) : w.cell? ⟨g, 3, none⟩ = some (.slice p.xo m.txt.length p.xc) := by rw [Lib.cell_of_heap h]; rfl
end
theorem box_new (w : World) (m : Mc) (p : Mp) : Box (w.alloc (.cells (mv m p) 26)) w.heap.size m p := heap_alloc_new w _
theorem info26 : (Try.prog.info? 26).map (·.size) = some 4 := by kernel_rfl
theorem info5 : (Try.prog.info? 5).map (fun i => (i.zero, i.size, i.bytes)) = some (some (.int .u8 0), 1, 1) := by kernel_rfl

theorem all_take {α : Type} (p : α → Bool) (l : List α) (i : Nat) (h : i < l.length) : (l.take (i + 1)).all p = ((l.take i).all p && p l[i]) := by
  rw [List.take_add_one, List.getElem?_eq_getElem h, List.all_append]
  simp only [Option.toList_some, List.all_cons, List.all_nil, Bool.and_true]
theorem all_no {α : Type} (p : α → Bool) (l : List α) (i : Nat) (h : i < l.length) (hp : p l[i] = false) : l.all p = false := by
  rw [List.all_eq_false]
  exact ⟨l[i], List.getElem_mem h, by simp [hp]⟩
end Go.Proofs.Ytafcekognhkmgaa.tr
