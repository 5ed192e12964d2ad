/-
  Texts put together: Plain mathematics: a machine, which may be, what it puts. A machine in memory: rows of numbers, of texts, rows of rows; a machine in a cell of its own. Contracts over this program: trans.below, trans.rowsBelow, trans.tooLong, slices.ContainsFunc at texts, trans.Right.
-/
import Derived.WalkKit
import Derived.Below
import Derived.Lib.OthersKept
import Derived.Test.YtmmlibehihknbaaRows
import Derived.ChangeAt
import Derived.Laws.Rows
import Derived.WalkLawsBesides
import Derived.Deep.QuietTactic
import Derived.Deep.RegionHeld3
import Derived.WalkSmall
import Derived.BigQuiet
import Derived.SizedLaws
namespace Go.Proofs.Ytmmlibehihknbaa.tr
set_option linter.unusedVariables false

structure Mc where
  next : List (List Int)
  put : List (List Int)
  fin : List Int
  txt : List ByteArray

def inB (n : Nat) (x : Int) : Bool := decide (0 ≤ x) && decide (x < (n : Int))
def below (n : Nat) (r : List Int) : Bool := r.all (inB n)
def rowOk (n : Nat) (r : List Int) : Bool := (r.length == 256) && below n r
def rows (n : Nat) (l : List (List Int)) : Bool := l.all (rowOk n)
def fits (t : ByteArray) : Bool := decide (t.size ≤ 4096)
def texts (l : List ByteArray) : Bool := l.all fits
def right (m : Mc) : Bool :=
  decide (1 ≤ m.next.length) && decide (m.next.length ≤ 1200) && (m.put.length == m.next.length) && (m.fin.length == m.next.length) && decide (m.txt.length ≤ 4096) && texts m.txt && rows m.next.length m.next && rows (2 * m.txt.length) m.put && below m.txt.length m.fin

theorem inB_iff {n : Nat} {x : Int} : inB n x = true ↔ 0 ≤ x ∧ x < (n : Int) := by simp [inB]
structure Right (m : Mc) : Prop where
  one : 1 ≤ m.next.length
  most : m.next.length ≤ 1200
  puts : m.put.length = m.next.length
  fins : m.fin.length = m.next.length
  few : m.txt.length ≤ 4096
  fit : ∀ t ∈ m.txt, t.size ≤ 4096
  nxs : ∀ r ∈ m.next, r.length = 256 ∧ ∀ x ∈ r, 0 ≤ x ∧ x < (m.next.length : Int)
  pts : ∀ r ∈ m.put, r.length = 256 ∧ ∀ x ∈ r, 0 ≤ x ∧ x < ((2 * m.txt.length : Nat) : Int)
  ens : ∀ x ∈ m.fin, 0 ≤ x ∧ x < (m.txt.length : Int)
theorem right_iff {m : Mc} : right m = true ↔ Right m := by
  constructor
  · intro h
    simp only [right, Bool.and_eq_true, decide_eq_true_eq, beq_iff_eq, texts, rows, below, List.all_eq_true, rowOk, inB_iff, fits] at h
    obtain ⟨⟨⟨⟨⟨⟨⟨⟨h1, h2⟩, h3⟩, h4⟩, h5⟩, h6⟩, h7⟩, h8⟩, h9⟩ := h
    exact ⟨h1, h2, h3, h4, h5, h6, h7, h8, h9⟩
  · intro h
    simp only [right, Bool.and_eq_true, decide_eq_true_eq, beq_iff_eq, texts, rows, below, List.all_eq_true, rowOk, inB_iff, fits]
    exact ⟨⟨⟨⟨⟨⟨⟨⟨h.one, h.most⟩, h.puts⟩, h.fins⟩, h.few⟩, h.fit⟩, h.nxs⟩, h.pts⟩, h.ens⟩

def nx (m : Mc) (s b : Nat) : Nat := ((m.next.getD s []).getD b 0).toNat
def pt (m : Mc) (s b : Nat) : Nat := ((m.put.getD s []).getD b 0).toNat
def en (m : Mc) (s : Nat) : Nat := (m.fin.getD s 0).toNat
def tx (m : Mc) (k : Nat) : ByteArray := m.txt.getD k ⟨#[]⟩

section
variable {m : Mc} (h : Right m) {s b : Nat}
include h
theorem Right.next_row (hs : s < m.next.length) : ∃ r, m.next[s]? = some r ∧ r.length = 256 ∧ ∀ b, b < 256 → r[b]? = some (nx m s b : Int) := by
  have hr := h.nxs _ (List.getElem_mem hs)
  refine ⟨m.next[s], List.getElem?_eq_getElem hs, hr.1, fun b hb => ?_⟩
  have hb' : b < m.next[s].length := by omega
  have h0 := (hr.2 _ (List.getElem_mem hb')).1
  rw [List.getElem?_eq_getElem hb']
  unfold nx
  simp [List.getD_eq_getElem?_getD, List.getElem?_eq_getElem hs, List.getElem?_eq_getElem hb']
  omega
theorem Right.put_row (hs : s < m.next.length) : ∃ r, m.put[s]? = some r ∧ r.length = 256 ∧ ∀ b, b < 256 → r[b]? = some (pt m s b : Int) := by
  have hs' : s < m.put.length := by rw [h.puts]; exact hs
  have hr := h.pts _ (List.getElem_mem hs')
  refine ⟨m.put[s], List.getElem?_eq_getElem hs', hr.1, fun b hb => ?_⟩
  have hb' : b < m.put[s].length := by omega
  have h0 := (hr.2 _ (List.getElem_mem hb')).1
  rw [List.getElem?_eq_getElem hb']
  unfold pt
  simp [List.getD_eq_getElem?_getD, List.getElem?_eq_getElem hs', List.getElem?_eq_getElem hb']
  omega
theorem Right.nx_lt (hs : s < m.next.length) (hb : b < 256) : nx m s b < m.next.length := by
  obtain ⟨r, h1, h2, h3⟩ := h.next_row hs
  have := (h.nxs r (List.mem_of_getElem? h1)).2 _ (List.mem_of_getElem? (h3 b hb))
  omega
theorem Right.pt_lt (hs : s < m.next.length) (hb : b < 256) : pt m s b < 2 * m.txt.length := by
  obtain ⟨r, h1, h2, h3⟩ := h.put_row hs
  have := (h.pts r (List.mem_of_getElem? h1)).2 _ (List.mem_of_getElem? (h3 b hb))
  omega
theorem Right.fin_at (hs : s < m.next.length) : m.fin[s]? = some (en m s : Int) := by
  have hs' : s < m.fin.length := by rw [h.fins]; exact hs
  have h0 := (h.ens _ (List.getElem_mem hs')).1
  rw [List.getElem?_eq_getElem hs']
  unfold en
  simp [List.getD_eq_getElem?_getD, List.getElem?_eq_getElem hs']
  omega
theorem Right.en_lt (hs : s < m.next.length) : en m s < m.txt.length := by
  have := h.ens _ (List.mem_of_getElem? (h.fin_at hs))
  omega
theorem Right.tx_le (k : Nat) : (tx m k).size ≤ 4096 := by
  unfold tx
  rw [List.getD_eq_getElem?_getD]
  by_cases hk : k < m.txt.length
  · rw [List.getElem?_eq_getElem hk]
    exact h.fit _ (List.getElem_mem hk)
  · rw [List.getElem?_eq_none (by omega)]
    decide
end
theorem tx_at {m : Mc} {k : Nat} (hk : k < m.txt.length) : m.txt[k]? = some (tx m k) := by
  unfold tx
  rw [List.getD_eq_getElem?_getD, List.getElem?_eq_getElem hk]
  rfl

theorem list_len (s : ByteArray) : s.data.toList.length = s.size := by cases s; rfl

/-- what is put at a byte -/
def outp (m : Mc) (s : Nat) (b : UInt8) : List UInt8 := (tx m (pt m s b.toNat / 2)).data.toList ++ (if pt m s b.toNat % 2 = 1 then [b] else [])
def go (m : Mc) : Nat → List UInt8 → List UInt8 × Nat
  | s, [] => ([], s)
  | s, b :: r => (outp m s b ++ (go m (nx m s b.toNat) r).1, (go m (nx m s b.toNat) r).2)
def total (m : Mc) (s : Nat) (l : List UInt8) : List UInt8 := (go m s l).1 ++ (tx m (en m (go m s l).2)).data.toList

theorem go_append (m : Mc) (s : Nat) (l r : List UInt8) : go m s (l ++ r) = ((go m s l).1 ++ (go m (go m s l).2 r).1, (go m (go m s l).2 r).2) := by
  induction l generalizing s with
  | nil => rfl
  | cons b l ih => simp only [List.cons_append, go, ih, List.append_assoc]
theorem go_snoc (m : Mc) (s : Nat) (l : List UInt8) (b : UInt8) : go m s (l ++ [b]) = ((go m s l).1 ++ outp m (go m s l).2 b, nx m (go m s l).2 b.toNat) := by
  rw [go_append]
  simp [go]
theorem go_lt {m : Mc} (h : Right m) {s : Nat} (hs : s < m.next.length) (l : List UInt8) : (go m s l).2 < m.next.length := by
  induction l generalizing s with
  | nil => exact hs
  | cons b l ih => exact ih (h.nx_lt hs b.toNat_lt)
theorem go_take_le (m : Mc) (s : Nat) (l : List UInt8) (i : Nat) : (go m s (l.take i)).1.length ≤ (go m s l).1.length := by
  have e := go_append m s (l.take i) (l.drop i)
  rw [List.take_append_drop] at e
  rw [e]
  simp
theorem outp_len {m : Mc} (h : Right m) (s : Nat) (b : UInt8) : (outp m s b).length ≤ 4097 := by
  have := h.tx_le (pt m s b.toNat / 2)
  unfold outp
  rw [List.length_append, list_len]
  split <;> simp <;> omega
theorem take_succ_go (m : Mc) (s : Nat) (l : List UInt8) (i : Nat) (hi : i < l.length) : go m s (l.take (i + 1)) = ((go m s (l.take i)).1 ++ outp m (go m s (l.take i)).2 l[i], nx m (go m s (l.take i)).2 l[i].toNat) := by
  rw [List.take_add_one, List.getElem?_eq_getElem hi, ← go_snoc]
  rfl

/-- what Run answers -/
def runE (m : Mc) (s : ByteArray) : Nat := if right m = true then (if s.size ≤ 4096 ∧ (total m 0 s.data.toList).length ≤ 262144 then 0 else 2) else 120
def runT (m : Mc) (s : ByteArray) : ByteArray := if right m = true ∧ s.size ≤ 4096 ∧ (total m 0 s.data.toList).length ≤ 262144 then ⟨(total m 0 s.data.toList).toArray⟩ else ⟨#[]⟩
end Go.Proofs.Ytmmlibehihknbaa.tr

namespace Go.Proofs.Ytmmlibehihknbaa.tr
open Go.ChangeShapes Go.WideShapes Go.ChangeAt Go.RowKit
set_option linter.unusedVariables false

theorem below_alloc (w : World) (o : Obj) : Below w.heap.size w (w.alloc o) := (Below.refl _ _).alloc (Nat.le_refl _) o
theorem chain {w w1 w2 : World} (h1 : Below w.heap.size w w1) (h2 : Below w1.heap.size w1 w2) : Below w.heap.size w w2 := h1.trans (h2.mono h1.size)
theorem below_drewN {B : Nat} {a w : World} (h : Below B a w) (n : Nat) : Below B a (w.drewN n) := ⟨h.os, h.tape, h.output, h.size, h.block⟩

/-- a row of one cell each, in blocks of which P is said -/
structure Row {α : Type} (P : Nat → Prop) (w : World) (g : α → Value) (o : Option Addr) (cap : Nat) (l : List α) : Prop where
  fit : l.length ≤ cap
  top : cap ≤ 9223372036854775807
  lie : ∀ i (h : i < l.length), ∃ b off, o = some ⟨b, off, none⟩ ∧ P b ∧ w.cell? ⟨b, off + i, none⟩ = some (g l[i])
theorem Row.carry {α : Type} {P Q : Nat → Prop} {w w' : World} {g : α → Value} {o : Option Addr} {cap : Nat} {l : List α} (h : Row P w g o cap l) (hk : ∀ b, P b → w'.heap[b]? = w.heap[b]?) (hq : ∀ b, P b → Q b) : Row Q w' g o cap l :=
  ⟨h.fit, h.top, fun i hi => by
    obtain ⟨b, off, e, hp, hc⟩ := h.lie i hi
    exact ⟨b, off, e, hq b hp, by simp only [World.cell?, hk b hp] at hc ⊢; exact hc⟩⟩
abbrev iv (x : Int) : Value := .int .i64 x
abbrev sv (x : ByteArray) : Value := .string x
/-- rows of rows -/
structure RowRow (P : Nat → Prop) (w : World) (o : Option Addr) (cap : Nat) (l : List (List Int)) : Prop where
  fit : l.length ≤ cap
  top : cap ≤ 9223372036854775807
  lie : ∀ i (h : i < l.length), ∃ b off oi ci, o = some ⟨b, off, none⟩ ∧ P b ∧ w.cell? ⟨b, off + i, none⟩ = some (.slice oi l[i].length ci) ∧ Row P w iv oi ci l[i]
theorem RowRow.carry {P Q : Nat → Prop} {w w' : World} {o : Option Addr} {cap : Nat} {l : List (List Int)} (h : RowRow P w o cap l) (hk : ∀ b, P b → w'.heap[b]? = w.heap[b]?) (hq : ∀ b, P b → Q b) : RowRow Q w' o cap l :=
  ⟨h.fit, h.top, fun i hi => by
    obtain ⟨b, off, oi, ci, e, hp, hc, hr⟩ := h.lie i hi
    exact ⟨b, off, oi, ci, e, hq b hp, by simp only [World.cell?, hk b hp] at hc ⊢; exact hc, hr.carry hk hq⟩⟩
/-- where a machine's four rows lie -/
structure Mp where
  no : Option Addr
  nc : Nat
  po : Option Addr
  pc : Nat
  eo : Option Addr
  ec : Nat
  xo : Option Addr
  xc : Nat
/-- the machine's four cells -/
abbrev mv (m : Mc) (p : Mp) : Array Value := #[.slice p.no m.next.length p.nc, .slice p.po m.put.length p.pc, .slice p.eo m.fin.length p.ec, .slice p.xo m.txt.length p.xc]
structure MAt (P : Nat → Prop) (w : World) (m : Mc) (p : Mp) : Prop where
  rnx : RowRow P w p.no p.nc m.next
  rpt : RowRow P w p.po p.pc m.put
  ren : Row P w iv p.eo p.ec m.fin
  rtx : Row P w sv p.xo p.xc m.txt
theorem MAt.carry {P Q : Nat → Prop} {w w' : World} {m : Mc} {p : Mp} (h : MAt P w m p) (hk : ∀ b, P b → w'.heap[b]? = w.heap[b]?) (hq : ∀ b, P b → Q b) : MAt Q w' m p :=
  ⟨h.rnx.carry hk hq, h.rpt.carry hk hq, h.ren.carry hk hq, h.rtx.carry hk hq⟩
/-- in blocks below B -/
abbrev Lo (B : Nat) (b : Nat) : Prop := b < B
abbrev In (w : World) : Nat → Prop := Lo w.heap.size
theorem MAt.later {w w' : World} {m : Mc} {p : Mp} (h : MAt (In w) w m p) (b : Below w.heap.size w w') : MAt (In w') w' m p :=
  h.carry (fun k hk => b.block k hk) (fun k hk => Nat.lt_of_lt_of_le hk b.size)
theorem MAt.low {B : Nat} {w w' : World} {m : Mc} {p : Mp} (h : MAt (Lo B) w m p) (b : Below B w w') : MAt (Lo B) w' m p :=
  h.carry (fun k hk => b.block k hk) (fun k hk => hk)
theorem Row.later {α : Type} {w w' : World} {g : α → Value} {o : Option Addr} {cap : Nat} {l : List α} (h : Row (In w) w g o cap l) (b : Below w.heap.size w w') : Row (In w') w' g o cap l :=
  h.carry (fun k hk => b.block k hk) (fun k hk => Nat.lt_of_lt_of_le hk b.size)
theorem RowRow.later {w w' : World} {o : Option Addr} {cap : Nat} {l : List (List Int)} (h : RowRow (In w) w o cap l) (b : Below w.heap.size w w') : RowRow (In w') w' o cap l :=
  h.carry (fun k hk => b.block k hk) (fun k hk => Nat.lt_of_lt_of_le hk b.size)

/-- a machine in a cell of its own -/
def Box (w : World) (g : Nat) (m : Mc) (p : Mp) : Prop := w.heap[g]? = some (.cells (mv m p) 32 (0, 0))
section
variable {P : Nat → Prop} {w w' : World} {g : Nat} {m : Mc} {p : Mp}
theorem Box.lt (h : Box w g m p) : g < w.heap.size := (Array.getElem?_eq_some_iff.1 h).1
theorem Box.later (h : Box w g m p) (b : Below w.heap.size w w') : Box w' g m p := by unfold Box; rw [b.block g h.lt]; exact h
theorem Box.low {B : Nat} (h : Box w g m p) (hg : g < B) (b : Below B w w') : Box w' g m p := by unfold Box; rw [b.block g hg]; exact h
theorem Box.c0 (h : Box w g m p) : w.cell? ⟨g, 0, none⟩ = some (.slice p.no m.next.length p.nc) := by rw [Lib.cell_of_heap h]; rfl
theorem Box.c1 (h : Box w g m p) : w.cell? ⟨g, 1, none⟩ = some (.slice p.po m.put.length p.pc) := by rw [Lib.cell_of_heap h]; rfl
theorem Box.c2 (h : Box w g m p) : w.cell? ⟨g, 2, none⟩ = some (.slice p.eo m.fin.length p.ec) := by rw [Lib.cell_of_heap h]; rfl
theorem Box.c3 (h : Box w g m p) : w.cell? ⟨g, 3, none⟩ = some (.slice p.xo m.txt.length p.xc) := by rw [Lib.cell_of_heap h]; rfl
end
theorem box_new (w : World) (m : Mc) (p : Mp) : Box (w.alloc (.cells (mv m p) 32)) w.heap.size m p := heap_alloc_new w _
theorem info32 : (Try.prog.info? 32).map (·.size) = some 4 := by kernel_rfl
theorem info5 : (Try.prog.info? 5).map (fun i => (i.zero, i.size, i.bytes)) = some (some (.int .u8 0), 1, 1) := by kernel_rfl

theorem all_take {α : Type} (p : α → Bool) (l : List α) (i : Nat) (h : i < l.length) : (l.take (i + 1)).all p = ((l.take i).all p && p l[i]) := by
  rw [List.take_add_one, List.getElem?_eq_getElem h, List.all_append]
  simp only [Option.toList_some, List.all_cons, List.all_nil, Bool.and_true]
theorem all_no {α : Type} (p : α → Bool) (l : List α) (i : Nat) (h : i < l.length) (hp : p l[i] = false) : l.all p = false := by
  rw [List.all_eq_false]
  exact ⟨l[i], List.getElem_mem h, by simp [hp]⟩
end Go.Proofs.Ytmmlibehihknbaa.tr

namespace Go.Proofs.Ytmmlibehihknbaa.tr
open Go.ChangeShapes Go.WideShapes Go.ChangeAt Go.RowKit
set_option linter.unusedVariables false

def BelIs (n : Nat) (r : List Int) (a : Bool) : Prop := ∀ o cap w, Row (In w) w iv o cap r → Calls Try.prog 65 #[.slice o r.length cap, .int .i64 (n : Int)] w fun e w' => e = .returned (.bool a) ∧ w' = w
set_option maxHeartbeats 1000000 in
theorem below_any (n : Nat) (r : List Int) (a : Bool) (ha : a = below n r) : BelIs n r a := by
  intro o cap w hR
  have hfit := hR.fit
  have htop := hR.top
  have HR : Hid (Row (In w) w iv o cap r) := hR
  have HA : Hid (a = r.all (inB n)) := ha
  clear hR ha
  go_enter Try.func65, Try.ntmps65
  go_wp2
  go_loop [9] (fun y => ∃ i : Nat, y = .int .i64 i ∧ i ≤ r.length ∧ Hid ((r.take i).all (inB n) = true)) (fun y => r.length - (intOf y).toNat)
  case atStart => exact ⟨0, rfl, by omega, by show _ = _; simp⟩
  case round =>
    obtain ⟨i, rfl, hil, HI⟩ := hrel
    by_cases hend : i < r.length
    · obtain ⟨b, off, rfl, hb, hc⟩ := HR.out.lie i hend
      have hall := all_take (inB n) r i hend
      have hno := all_no (inB n) r i hend
      rw [HI.out, Bool.true_and] at hall
      obtain ⟨x, hx⟩ : ∃ x, x = r[i] := ⟨_, rfl⟩
      rw [← hx] at hc hall hno
      clear hx
      have HNO : Hid (inB n x = false → a = false) := fun h => HA.out.trans (hno h)
      have HALL : Hid ((r.take (i + 1)).all (inB n) = inB n x) := hall
      clear hno hall
      by_cases g0 : x < 0
      · have f0 : decide (x < 0) = true := decide_eq_true g0
        have HF : Hid (a = false) := HNO.out (by simp [inB]; omega)
        clear g0 HNO HALL
        go_wp2
        go_ret
        exact ⟨by rw [HF.out]; rfl, rfl⟩
      · have f0 : decide (x < 0) = false := decide_eq_false g0
        by_cases g1 : (n : Int) ≤ x
        · have f1 : decide ((n : Int) ≤ x) = true := decide_eq_true g1
          have HF : Hid (a = false) := HNO.out (by simp [inB]; omega)
          clear g0 g1 HNO HALL
          go_wp2
          go_ret
          exact ⟨by rw [HF.out]; rfl, rfl⟩
        · have f1 : decide ((n : Int) ≤ x) = false := decide_eq_false g1
          have HT : Hid ((r.take (i + 1)).all (inB n) = true) := by show _ = _; rw [HALL.out]; simp [inB]; omega
          clear g0 g1 HNO HALL
          go_wp2
          go_round
          case rel => exact ⟨i + 1, by go_num, by omega, HT⟩
          case measure => simp [intOf]; omega
    · have HF : Hid (a = true) := by
        show _ = _
        have := HI.out
        rw [List.take_of_length_le (by omega)] at this
        rw [HA.out]
        exact this
      go_wp2
      go_ret
      exact ⟨by rw [HF.out]; rfl, rfl⟩

def RowsIs (n : Nat) (l : List (List Int)) (a : Bool) : Prop := ∀ o cap w, RowRow (In w) w o cap l → Calls Try.prog 64 #[.slice o l.length cap, .int .i64 (n : Int)] w fun e w' => e = .returned (.bool a) ∧ w' = w
set_option maxHeartbeats 1000000 in
theorem rows_any (n : Nat) (l : List (List Int)) (a : Bool) (ha : a = rows n l) : RowsIs n l a := by
  intro o cap w hR
  have hfit := hR.fit
  have htop := hR.top
  have HR : Hid (RowRow (In w) w o cap l) := hR
  have HA : Hid (a = l.all (rowOk n)) := ha
  clear hR ha
  go_enter Try.func64, Try.ntmps64
  go_wp2
  go_loop [9] (fun y => ∃ i : Nat, y = .int .i64 i ∧ i ≤ l.length ∧ Hid ((l.take i).all (rowOk n) = true)) (fun y => l.length - (intOf y).toNat)
  case atStart => exact ⟨0, rfl, by omega, by show _ = _; simp⟩
  case round =>
    obtain ⟨i, rfl, hil, HI⟩ := hrel
    by_cases hend : i < l.length
    · obtain ⟨b, off, oi, ci, rfl, hb, hc, hrow⟩ := HR.out.lie i hend
      have hall := all_take (rowOk n) l i hend
      have hno := all_no (rowOk n) l i hend
      rw [HI.out, Bool.true_and] at hall
      obtain ⟨r, hr⟩ : ∃ r, r = l[i] := ⟨_, rfl⟩
      rw [← hr] at hc hall hno hrow
      clear hr
      have HNO : Hid (rowOk n r = false → a = false) := fun h => HA.out.trans (hno h)
      have HALL : Hid ((l.take (i + 1)).all (rowOk n) = rowOk n r) := hall
      have rt := hrow.top
      have rf := hrow.fit
      clear hno hall
      by_cases g0 : r.length = 256
      · have q1 : ((r.length : Int) == 256) = true := beq_iff_eq.2 (by omega)
        have q2 : ((r.length : Int) != 256) = false := by rw [bne, q1]; rfl
        have c29 := below_any n r _ rfl _ _ _ hrow
        cases hb2 : below n r with
        | true =>
          rw [hb2] at c29
          have HT : Hid ((l.take (i + 1)).all (rowOk n) = true) := by show _ = _; rw [HALL.out]; simp [rowOk, g0, hb2]
          clear g0 HNO HALL hb2 hrow
          go_wp2_with (go_at_call 65; refine c29.mono ?_; rintro e w1 ⟨rfl, h⟩; obtain rfl := h.symm)
          go_round
          case rel => exact ⟨i + 1, by go_num, by omega, HT⟩
          case measure => simp [intOf]; omega
        | false =>
          rw [hb2] at c29
          have HF : Hid (a = false) := HNO.out (by simp [rowOk, hb2])
          clear g0 HNO HALL hb2 hrow
          go_wp2_with (go_at_call 65; refine c29.mono ?_; rintro e w1 ⟨rfl, h⟩; obtain rfl := h.symm)
          go_ret
          exact ⟨by rw [HF.out]; rfl, rfl⟩
      · have q1 : ((r.length : Int) == 256) = false := beq_eq_false_iff_ne.2 (by omega)
        have q2 : ((r.length : Int) != 256) = true := bne_iff_ne.2 (by omega)
        have HF : Hid (a = false) := HNO.out (by simp [rowOk, g0])
        clear g0 HNO HALL hrow
        go_wp2
        go_ret
        exact ⟨by rw [HF.out]; rfl, rfl⟩
    · have HF : Hid (a = true) := by
        show _ = _
        have := HI.out
        rw [List.take_of_length_le (by omega)] at this
        rw [HA.out]
        exact this
      go_wp2
      go_ret
      exact ⟨by rw [HF.out]; rfl, rfl⟩

theorem long_any (s : ByteArray) (x : Bool) (hx : x = !fits s) (w : World) : Calls Try.prog 63 #[.string s] w fun e w' => e = .returned (.bool x) ∧ w' = w := by
  have HX : Hid (x = decide (4096 < (s.size : Int))) := by
    show _ = _
    rw [hx]
    unfold fits
    by_cases h : s.size ≤ 4096
    · rw [decide_eq_true h, decide_eq_false (by omega)]; rfl
    · rw [decide_eq_false h, decide_eq_true (by omega)]; rfl
  clear hx
  go_enter Try.func63, Try.ntmps63
  go_wp2
  go_ret
  exact ⟨by rw [HX.out]; rfl, rfl⟩

def IdxIs (l : List ByteArray) (x : Bool) : Prop := ∀ o cap w, Row (In w) w sv o cap l → Calls Try.prog 66 #[.slice o l.length cap, .func (.func 63) #[] #[]] w fun e w' => (∃ n : Int, e = .returned (.int .i64 n) ∧ (x = true ∧ 0 ≤ n ∨ x = false ∧ n = -1)) ∧ w' = w
set_option maxHeartbeats 1000000 in
theorem idx_any (l : List ByteArray) (x : Bool) (hx : x = !texts l) : IdxIs l x := by
  intro o cap w hR
  have hfit := hR.fit
  have htop := hR.top
  have HR : Hid (Row (In w) w sv o cap l) := hR
  have HA : Hid (x = !l.all fits) := hx
  clear hR hx
  go_enter Try.func66, Try.ntmps66
  go_wp2
  go_loopw [8] (fun y wr => ∃ i : Nat, y = .int .i64 i ∧ i ≤ l.length ∧ wr = w ∧ Hid ((l.take i).all fits = true)) (fun y _ => l.length - (intOf y).toNat)
  case atStart => exact ⟨0, rfl, by omega, rfl, by show _ = _; simp⟩
  case round =>
    obtain ⟨i, rfl, hil, rfl, HI⟩ := hrel
    by_cases hend : i < l.length
    · obtain ⟨b, off, rfl, hb, hc⟩ := HR.out.lie i hend
      have hall := all_take fits l i hend
      have hno := all_no fits l i hend
      rw [HI.out, Bool.true_and] at hall
      obtain ⟨t, ht⟩ : ∃ t, t = l[i] := ⟨_, rfl⟩
      rw [← ht] at hc hall hno
      clear ht
      have hl := long_any t _ rfl
      cases hf : fits t with
      | true =>
        rw [hf] at hl hall
        have HT : Hid ((l.take (i + 1)).all fits = true) := hall
        clear hno hall hf
        go_wp2_with (go_at_call 63; refine (hl _).mono ?_; rintro e w1 ⟨rfl, h⟩; obtain rfl := h.symm)
        go_roundw
        case rel => exact ⟨i + 1, by go_num, by omega, trivial, HT⟩
        case measure => simp [intOf]; omega
      | false =>
        rw [hf] at hl
        have HF : Hid (x = true) := by show _ = _; rw [HA.out, hno hf]; rfl
        clear hno hall hf
        go_wp2_with (go_at_call 63; refine (hl _).mono ?_; rintro e w1 ⟨rfl, h⟩; obtain rfl := h.symm)
        go_ret
        exact ⟨⟨_, rfl, .inl ⟨HF.out, by omega⟩⟩, rfl⟩
    · have HF : Hid (x = false) := by
        show _ = _
        have := HI.out
        rw [List.take_of_length_le (by omega)] at this
        rw [HA.out, this]
        rfl
      go_wp2
      go_ret
      exact ⟨⟨_, rfl, .inr ⟨HF.out, rfl⟩⟩, rfl⟩

def AnyIs (l : List ByteArray) (x : Bool) : Prop := ∀ o cap w, Row (In w) w sv o cap l → Calls Try.prog 62 #[.slice o l.length cap, .func (.func 63) #[] #[]] w fun e w' => e = .returned (.bool x) ∧ w' = w
set_option maxHeartbeats 1000000 in
theorem any_any (l : List ByteArray) (x : Bool) (hx : x = !texts l) : AnyIs l x := by
  intro o cap w hR
  have hi := idx_any l x hx o cap w hR
  clear hx
  go_enter Try.func62, Try.ntmps62
  go_wp2_with (go_at_call 66; refine hi.mono ?_; rintro e w1 ⟨⟨n, rfl, hn⟩, h⟩; obtain rfl := h.symm)
  go_ret
  refine ⟨?_, rfl⟩
  rcases hn with ⟨rfl, h⟩ | ⟨rfl, rfl⟩
  · show Ending.returned (.bool (decide (0 ≤ n))) = _
    rw [decide_eq_true h]
  · rfl
end Go.Proofs.Ytmmlibehihknbaa.tr
