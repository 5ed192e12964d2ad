/-
  Texts put together: A tree in memory: a value of the type of trees that reads, in a world, as a tree; what carries it on. Trees that came in as arguments: what their readings say of the memory. Contracts over this program: whether a byte is in a set, a set and a byte (set.Has, the document's Has). Plain mathematics: an edge's set; sets that fit in four numbers. Plain mathematics: the sets of the edges that are laid are sets of the expression, so they fit. Plain mathematics: what the builder lays for an expression does, seen from the states that were there, just what one edge would do that takes the expression. Plain mathematics: what an expression takes, by its tree; the nfa that is laid for it takes just that. Plain mathematics: what the nfa of an expression takes is what the expression takes; how large an expression is, and that one that is not too large is laid whole.
-/
import Derived.Test.YthmecbonjkcnmaaGreatM00
import Derived.Test.YthmecbonjkcnmaaGreatRows
import Derived.WalkKit
import Derived.ChangeAt
import Derived.ChangeShapes
import Derived.WalkLawsBesides
import Derived.Laws.IdiomArrays
import Derived.Deep.Slices
import Derived.SizedLaws
import Derived.ChangeOld
import Derived.Below
import Derived.Lib.OthersKept
import Derived.Laws.BitsAllLaws
import Derived.Laws.Rows
import Derived.Lib.Builder
import Derived.ProofKit
import Derived.OpenShut
namespace Go.Proofs.YthmecbonjkcnmaaGreat.st
open Go.ChangeShapes Go.WideShapes Go.ChangeAt Go.RowKit
set_option linter.unusedVariables false

def Cells (w : World) (b o : Nat) (t : Tr) (v : Value) : Prop :=
  w.cell? ⟨b, o, none⟩ = some (.int .i64 t.kind) ∧ w.cell? ⟨b, o + 1, none⟩ = some (.int .u64 t.set.a) ∧ w.cell? ⟨b, o + 2, none⟩ = some (.int .u64 t.set.b) ∧ w.cell? ⟨b, o + 3, none⟩ = some (.int .u64 t.set.c) ∧
  w.cell? ⟨b, o + 4, none⟩ = some (.int .u64 t.set.d) ∧ w.cell? ⟨b, o + 5, none⟩ = some (.int .i64 t.min) ∧ w.cell? ⟨b, o + 6, none⟩ = some (.int .i64 t.max) ∧ w.cell? ⟨b, o + 7, none⟩ = some v

inductive Is (w : World) (P : Nat → Prop) : Tr → Value → Prop
  | leaf (k : Int) (q : Q4) (mn mx : Int) (a : Option Addr) (cap : Nat) : Is w P (.node k q mn mx []) (.slice a 0 cap)
  | node (k : Int) (q : Q4) (mn mx : Int) (l : List Tr) (b off cap : Nat) (vs : Nat → Value) (hl : l.length ≤ cap) (hc : cap ≤ 9223372036854775807) (hb : b < w.heap.size) (hP : P b)
      (cells : ∀ i, i < l.length → Cells w b (off + i * 8) (nthT l i) (vs i)) (kids : ∀ i, i < l.length → Is w P (nthT l i) (vs i)) :
      Is w P (.node k q mn mx l) (.slice (some ⟨b, off, none⟩) l.length cap)

theorem cell_same {w w' : World} {b : Nat} (h : w'.heap[b]? = w.heap[b]?) (o : Nat) : w'.cell? ⟨b, o, none⟩ = w.cell? ⟨b, o, none⟩ := by
  unfold World.cell?
  simp only [h]

theorem Cells.same {w w' : World} {b o : Nat} {t : Tr} {v : Value} (h : Cells w b o t v) (e : w'.heap[b]? = w.heap[b]?) : Cells w' b o t v := by
  unfold Cells at h ⊢
  simp only [cell_same e]
  exact h

theorem Is.carry {w w' : World} {P P' : Nat → Prop} {t : Tr} {v : Value} (h : Is w P t v) (hs : w.heap.size ≤ w'.heap.size) (hP : ∀ b, P b → b < w.heap.size → P' b) (e : ∀ b, P b → b < w.heap.size → w'.heap[b]? = w.heap[b]?) : Is w' P' t v := by
  induction h with
  | leaf k q mn mx a cap => exact .leaf k q mn mx a cap
  | node k q mn mx l b off cap vs hl hc hb hPb cells kids ih =>
    exact .node k q mn mx l b off cap vs hl hc (Nat.lt_of_lt_of_le hb hs) (hP b hPb hb) (fun i hi => (cells i hi).same (e b hPb hb)) (fun i hi => ih i hi)

theorem Is.later {w w' : World} {P : Nat → Prop} {t : Tr} {v : Value} (h : Is w P t v) (hb : Below w.heap.size w w') : Is w' P t v :=
  h.carry hb.size (fun _ p _ => p) (fun b _ hlt => hb.block b hlt)
theorem Is.grown {w w' : World} {g : Nat} {t : Tr} {v : Value} (h : Is w (· ≠ g) t v) (hb : w.grownBy w' (some g)) : Is w' (· ≠ g) t v :=
  h.carry hb.size (fun _ p _ => p) (fun b p hlt => hb.block b hlt (fun e => p (Option.some.inj e)))

theorem touch_refl (w : World) (row : Option Nat) : w.grownBy w row := ⟨rfl, rfl, rfl, Nat.le_refl _, fun _ _ _ => rfl⟩
theorem touch_trans {w w1 w2 : World} {row : Option Nat} (h1 : w.grownBy w1 row) (h2 : w1.grownBy w2 row) : w.grownBy w2 row :=
  ⟨h2.os.trans h1.os, h2.tape.trans h1.tape, h2.output.trans h1.output, Nat.le_trans h1.size h2.size, fun k hk hne => (h2.block k (Nat.lt_of_lt_of_le hk h1.size) hne).trans (h1.block k hk hne)⟩
theorem touch_below {w w1 : World} (row : Option Nat) (h : Below w.heap.size w w1) : w.grownBy w1 row := ⟨h.os, h.tape, h.output, h.size, fun k hk _ => h.block k hk⟩
theorem touch_cell (w : World) (g i : Nat) (x : Value) : w.grownBy (w.setCell ⟨g, i, none⟩ x) (some g) :=
  ⟨rfl, rfl, rfl, by simp, fun k _ hne => Below.heap_setCell _ _ _ _ (fun e => hne (congrArg some e))⟩
theorem touch_drewT {w w1 : World} {row : Option Nat} (h : w.grownBy w1 row) : w.grownBy w1.drew row := ⟨h.os, h.tape, h.output, h.size, h.block⟩
theorem touch_alloc {w w1 : World} {row : Option Nat} (h : w.grownBy w1 row) (o : Obj) : w.grownBy (w1.alloc o) row :=
  touch_trans h (touch_below _ ((Below.refl _ _).alloc (Nat.le_refl _) o))
theorem set_heap1 (w : World) (g : Nat) (cs : Array Value) (T : TypeId) (i : Nat) (x : Value) (h : w.heap[g]? = some (.cells cs T (0, 0))) : (w.setCell ⟨g, i, none⟩ x).heap[g]? = some (.cells (cs.setIfInBounds i x) T (0, 0)) := by
  show (w.heap.modify g _)[g]? = _
  rw [Array.getElem?_modify, if_pos rfl, h]
  rfl

/-- one form for an empty list of kids and any other -/
theorem Is.form {w : World} {P : Nat → Prop} {t : Tr} {v : Value} (h : Is w P t v) : ∃ (o : Option Addr) (cap b off : Nat) (vs : Nat → Value), v = .slice o t.kids.length cap ∧ t.kids.length ≤ cap ∧ 
    ∀ i, i < t.kids.length → o = some ⟨b, off, none⟩ ∧ cap ≤ 9223372036854775807 ∧ b < w.heap.size ∧ P b ∧ Cells w b (off + i * 8) (nthT t.kids i) (vs i) ∧ Is w P (nthT t.kids i) (vs i) := by
  cases h with
  | leaf k q mn mx a cap => exact ⟨a, cap, 0, 0, fun _ => .nilIface, rfl, Nat.zero_le _, fun i hi => absurd hi (Nat.not_lt_zero _)⟩
  | node k q mn mx l b off cap vs hl hc hb hP cells kids => exact ⟨_, cap, b, off, vs, rfl, hl, fun i hi => ⟨rfl, hc, hb, hP, cells i hi, kids i hi⟩⟩

theorem Is.shape {w : World} {P : Nat → Prop} {t : Tr} {v : Value} (h : Is w P t v) : ∃ (o : Option Addr) (n cap : Nat), v = .slice o n cap := by
  cases h with
  | leaf k q mn mx a cap => exact ⟨_, _, _, rfl⟩
  | node k q mn mx l b off cap vs hl hc hb hP cells kids => exact ⟨_, _, _, rfl⟩

/-- a block of one number -/
def One (w : World) (g : Nat) (n : Int) : Prop := w.heap[g]? = some (.cells #[.int .i64 n] 3 (0, 0))
theorem One.lt {w : World} {g : Nat} {n : Int} (h : One w g n) : g < w.heap.size := (Array.getElem?_eq_some_iff.1 h).1
theorem One.c {w : World} {g : Nat} {n : Int} (h : One w g n) : w.cell? ⟨g, 0, none⟩ = some (.int .i64 n) := by rw [Lib.cell_of_heap h]; rfl
theorem One.fz {w : World} {g : Nat} {n : Int} (h : One w g n) : w.frozen? ⟨g, 0, none⟩ = false := Lib.frozen_of_heap h 0
theorem One.below {w w' : World} {g : Nat} {n : Int} (h : One w g n) (b : Below w.heap.size w w') : One w' g n := by unfold One; rw [b.block g h.lt]; exact h
theorem One.set {w : World} {g : Nat} {n : Int} (h : One w g n) (m : Int) : One (w.setCell ⟨g, 0, none⟩ (.int .i64 m)) g m := set_heap1 w g _ _ 0 _ h
end Go.Proofs.YthmecbonjkcnmaaGreat.st

namespace Go.Proofs.YthmecbonjkcnmaaGreat.st
open Go.ChangeShapes Go.WideShapes Go.ChangeAt Go.RowKit
set_option linter.unusedVariables false
set_option maxRecDepth 100000

theorem u64_rangeT {a : Int} (h : (Lit.int .u64 a).wf = true) : 0 ≤ a ∧ a < 18446744073709551616 := by
  have e1 : IntKind.u64.min = 0 := by decide
  have e2 : IntKind.u64.max = 18446744073709551615 := by decide
  simp [Lit.wf] at h
  rw [e1, e2] at h
  omega
theorem i64_rangeT {a : Int} (h : (Lit.int .i64 a).wf = true) : -9223372036854775808 ≤ a ∧ a < 9223372036854775808 := by
  have e1 : IntKind.i64.min = -9223372036854775808 := by decide
  simp [Lit.wf] at h
  rw [e1] at h
  omega

mutual
def Tr.sane : Tr → Prop
  | .node k q mn mx l => Fits q ∧ (-9223372036854775808 ≤ k ∧ k < 9223372036854775808) ∧ (-9223372036854775808 ≤ mn ∧ mn < 9223372036854775808) ∧ (-9223372036854775808 ≤ mx ∧ mx < 9223372036854775808) ∧ sanes l
def sanes : List Tr → Prop
  | [] => True
  | t :: l => t.sane ∧ sanes l
end
theorem sanes_of (l : List Tr) (h : ∀ t ∈ l, t.sane) : sanes l := by
  induction l with
  | nil => trivial
  | cons t l ih => exact ⟨h t (by simp), ih fun x hx => h x (by simp [hx])⟩

theorem row26 {H : Type} {enc : TypeId × Value → H} {W : World} {base : Nat} {sp : Nat → Bool} {held : Bool} {fuel : Nat} {cs : List Value} {x : DataW H × List MemPlace} (h : DataW.trod enc Tryz.prog W base sp held fuel 26 cs = some x) :
    ∃ q : Q4, Fits q ∧ cs = [.int .u64 q.a, .int .u64 q.b, .int .u64 q.c, .int .u64 q.d] := by
  obtain ⟨y, n, _, hl, h1⟩ := trod_struct1 Tryz.underlying26 h
  have c25 : Tryz.prog.cellsOf 26 = 4 := by kernel_rfl
  have c23 : Tryz.prog.cellsOf 24 = 4 := by kernel_rfl
  have c22 : Tryz.prog.cellsOf 23 = 1 := by kernel_rfl
  rw [c25] at hl
  match cs, hl with
  | [v0, v1, v2, v3], _ =>
    rw [c23] at h1
    simp only [List.drop_zero] at h1
    obtain ⟨y0, y1, y2, y3, m, _, t0, t1, t2, t3⟩ := trod_array4 Tryz.underlying24 c22 (show DataW.trod enc Tryz.prog W base sp held n 24 [v0, v1, v2, v3] = some y from h1)
    obtain ⟨z0, e0, _, w0⟩ := DataW.trod_int Tryz.underlying23 t0
    obtain ⟨z1, e1, _, w1⟩ := DataW.trod_int Tryz.underlying23 t1
    obtain ⟨z2, e2, _, w2⟩ := DataW.trod_int Tryz.underlying23 t2
    obtain ⟨z3, e3, _, w3⟩ := DataW.trod_int Tryz.underlying23 t3
    simp at e0 e1 e2 e3
    have r0 := u64_rangeT w0
    have r1 := u64_rangeT w1
    have r2 := u64_rangeT w2
    have r3 := u64_rangeT w3
    obtain ⟨k0, rfl⟩ := Int.eq_ofNat_of_zero_le r0.1
    obtain ⟨k1, rfl⟩ := Int.eq_ofNat_of_zero_le r1.1
    obtain ⟨k2, rfl⟩ := Int.eq_ofNat_of_zero_le r2.1
    obtain ⟨k3, rfl⟩ := Int.eq_ofNat_of_zero_le r3.1
    exact ⟨⟨k0, k1, k2, k3⟩, ⟨by show k0 < _; omega, by show k1 < _; omega, by show k2 < _; omega, by show k3 < _; omega⟩, by rw [e0, e1, e2, e3]⟩

theorem parts29 {H : Type} {enc : TypeId × Value → H} {W : World} {sp : Nat → Bool} {held : Bool} {fuel : Nat} {cs : List Value} {x : DataW H × List MemPlace} (h : DataW.trod enc Tryz.prog W 0 sp held fuel 29 cs = some x) :
    ∃ (k : Int) (q : Q4) (mn mx : Int) (v : Value) (n : Nat) (y : DataW H × List MemPlace), fuel = n + 1 ∧ Fits q ∧ (-9223372036854775808 ≤ k ∧ k < 9223372036854775808) ∧ (-9223372036854775808 ≤ mn ∧ mn < 9223372036854775808) ∧ (-9223372036854775808 ≤ mx ∧ mx < 9223372036854775808) ∧
      cs = [.int .i64 k, .int .u64 q.a, .int .u64 q.b, .int .u64 q.c, .int .u64 q.d, .int .i64 mn, .int .i64 mx, v] ∧ DataW.trod enc Tryz.prog W 0 sp held n 27 [v] = some y := by
  obtain ⟨xs, n, hfu, hx, hl, hlen, hf⟩ := DataW.trod_struct Tryz.underlying29 h
  have c28 : Tryz.prog.cellsOf 29 = 8 := by kernel_rfl
  have c25 : Tryz.prog.cellsOf 26 = 4 := by kernel_rfl
  have c26 : Tryz.prog.cellsOf 27 = 1 := by kernel_rfl
  have c3 : Tryz.prog.cellsOf 3 = 1 := by kernel_rfl
  rw [c28] at hl
  match cs, hl with
  | [v0, v1, v2, v3, v4, v5, v6, v7], _ =>
    match xs, hlen with
    | [y0, y1, y2, y3, y4], _ =>
      have f0 : DataW.trod enc Tryz.prog W 0 sp held n 3 (List.take (Tryz.prog.cellsOf 3) (List.drop 0 [v0, v1, v2, v3, v4, v5, v6, v7])) = some y0 := hf 0 _ rfl
      rw [c3] at f0
      have f1 : DataW.trod enc Tryz.prog W 0 sp held n 26 (List.take (Tryz.prog.cellsOf 26) (List.drop 1 [v0, v1, v2, v3, v4, v5, v6, v7])) = some y1 := hf 1 _ rfl
      rw [c25] at f1
      have f2 : DataW.trod enc Tryz.prog W 0 sp held n 3 (List.take (Tryz.prog.cellsOf 3) (List.drop 5 [v0, v1, v2, v3, v4, v5, v6, v7])) = some y2 := hf 2 _ rfl
      rw [c3] at f2
      have f3 : DataW.trod enc Tryz.prog W 0 sp held n 3 (List.take (Tryz.prog.cellsOf 3) (List.drop 6 [v0, v1, v2, v3, v4, v5, v6, v7])) = some y3 := hf 3 _ rfl
      rw [c3] at f3
      have f4 : DataW.trod enc Tryz.prog W 0 sp held n 27 (List.take (Tryz.prog.cellsOf 27) (List.drop 7 [v0, v1, v2, v3, v4, v5, v6, v7])) = some y4 := hf 4 _ rfl
      rw [c26] at f4
      obtain ⟨k, e0, _, w0⟩ := DataW.trod_int Tryz.underlying3 f0
      obtain ⟨q, hq, e1⟩ := row26 (show DataW.trod enc Tryz.prog W 0 sp held n 26 [v1, v2, v3, v4] = some y1 from f1)
      obtain ⟨mn, e2, _, w2⟩ := DataW.trod_int Tryz.underlying3 f2
      obtain ⟨mx, e3, _, w3⟩ := DataW.trod_int Tryz.underlying3 f3
      simp at e0 e1 e2 e3
      refine ⟨k, q, mn, mx, v7, n, y4, hfu, hq, i64_rangeT w0, i64_rangeT w2, i64_rangeT w3, ?_, ?_⟩
      · rw [e0, e1.1, e1.2.1, e1.2.2.1, e1.2.2.2, e2, e3]
      · exact f4

theorem tree_of {H : Type} {enc : TypeId × Value → H} {W : World} {sp : Nat → Bool} {held : Bool} (F : Nat) : ∀ (fuel : Nat), fuel ≤ F → ∀ (cs : List Value) (x : DataW H × List MemPlace), DataW.trod enc Tryz.prog W 0 sp held fuel 29 cs = some x →
    ∃ (t : Tr) (v : Value), t.sane ∧ Is W (fun _ => True) t v ∧ cs = [.int .i64 t.kind, .int .u64 t.set.a, .int .u64 t.set.b, .int .u64 t.set.c, .int .u64 t.set.d, .int .i64 t.min, .int .i64 t.max, v] := by
  induction F with
  | zero =>
    intro fuel hF cs x h
    obtain ⟨k, q, mn, mx, v, n, y, hn, _⟩ := parts29 h
    omega
  | succ F ih =>
    intro fuel hF cs x h
    obtain ⟨k, q, mn, mx, v, n, y, hn, hq, rk, rmn, rmx, hcs, hsl⟩ := parts29 h
    rcases DataW.trod_slice Tryz.underlying27 hsl with ⟨hcs2, _⟩ | ⟨a, len, cap, elems, rest, m, hm, hcs2, _, _, hlc, hmax, hlen, hel, _, _⟩
    · simp at hcs2
      exact ⟨.node k q mn mx [], _, ⟨hq, rk, rmn, rmx, trivial⟩, by rw [hcs2]; exact .leaf k q mn mx _ _, hcs⟩
    · simp at hcs2
      subst hcs2
      have c28 : Tryz.prog.cellsOf 29 = 8 := by kernel_rfl
      rw [c28] at hel
      have each : ∀ i, i < len → ∃ y : Tr × Value, y.1.sane ∧ Is W (fun _ => True) y.1 y.2 ∧ (W.cell? (a.add (i * 8)) = some (.int .i64 y.1.kind) ∧ W.cell? (a.add (i * 8 + 1)) = some (.int .u64 y.1.set.a) ∧ W.cell? (a.add (i * 8 + 2)) = some (.int .u64 y.1.set.b) ∧ W.cell? (a.add (i * 8 + 3)) = some (.int .u64 y.1.set.c) ∧
          W.cell? (a.add (i * 8 + 4)) = some (.int .u64 y.1.set.d) ∧ W.cell? (a.add (i * 8 + 5)) = some (.int .i64 y.1.min) ∧ W.cell? (a.add (i * 8 + 6)) = some (.int .i64 y.1.max) ∧ W.cell? (a.add (i * 8 + 7)) = some y.2) := by
        intro i hi
        have h1 := hel i hi
        rw [List.getElem?_eq_getElem (by omega)] at h1
        obtain ⟨cs', h2, h3⟩ := Option.bind_eq_some_iff.1 h1
        obtain ⟨t, v, hs, hi2, rfl⟩ := ih m (by omega) cs' _ h3
        obtain ⟨_, hlen', hcell⟩ := World.cells?_some h2
        have e0 := hcell 0 (by omega)
        have e1 := hcell 1 (by omega)
        have e2 := hcell 2 (by omega)
        have e3 := hcell 3 (by omega)
        have e4 := hcell 4 (by omega)
        have e5 := hcell 5 (by omega)
        have e6 := hcell 6 (by omega)
        have e7 := hcell 7 (by omega)
        rw [Deep.add_add] at e0 e1 e2 e3 e4 e5 e6 e7
        exact ⟨(t, v), hs, hi2, by simpa using e0, by simpa using e1, by simpa using e2, by simpa using e3, by simpa using e4, by simpa using e5, by simpa using e6, by simpa using e7⟩
      letI : Inhabited (Tr × Value) := ⟨(Tr.zero, .nilIface)⟩
      obtain ⟨f, hfam⟩ := Deep.choose_lt each
      by_cases h0 : len = 0
      · subst h0
        exact ⟨.node k q mn mx [], _, ⟨hq, rk, rmn, rmx, trivial⟩, .leaf k q mn mx _ _, hcs⟩
      · obtain ⟨b, off, spot⟩ := a
        have hc := (hfam 0 (by omega)).2.2.1
        have hspot : spot = none := by simpa [Addr.add] using World.cell?_spot hc
        subst hspot
        have hadd : ∀ i, (⟨b, off, none⟩ : Addr).add i = ⟨b, off + i, none⟩ := fun i => by simp [Addr.add]
        have hlt : b < W.heap.size := by
          rw [hadd] at hc
          unfold World.cell? at hc
          by_cases hb : b < W.heap.size
          · exact hb
          · rw [Array.getElem?_eq_none (by simpa using hb)] at hc
            simp at hc
        have hln : ((List.range len).map (fun i => (f i).1)).length = len := by simp
        have hnth : ∀ i, i < len → nthT ((List.range len).map (fun i => (f i).1)) i = (f i).1 := by
          intro i hi
          unfold nthT
          rw [List.getD_eq_getElem?_getD, List.getElem?_map, List.getElem?_range hi]
          rfl
        refine ⟨.node k q mn mx ((List.range len).map (fun i => (f i).1)), .slice (some ⟨b, off, none⟩) len cap, ⟨hq, rk, rmn, rmx, ?_⟩, ?_, hcs⟩
        · apply sanes_of
          intro t ht
          obtain ⟨i, hi, rfl⟩ := List.mem_map.1 ht
          exact (hfam i (List.mem_range.1 hi)).1
        · have key : Is W (fun _ => True) (.node k q mn mx ((List.range len).map (fun i => (f i).1))) (.slice (some ⟨b, off, none⟩) ((List.range len).map (fun i => (f i).1)).length cap) := by
            refine .node k q mn mx _ b off cap (fun i => (f i).2) (by rw [hln]; exact hlc) (by unfold maxLen at hmax; omega) hlt trivial ?_ ?_
            · intro i hi
              rw [hln] at hi
              have h := (hfam i hi).2.2
              simp only [hadd] at h
              rw [hnth i hi]
              unfold Cells
              simp only [Nat.add_assoc]
              exact h
            · intro i hi
              rw [hln] at hi
              rw [hnth i hi]
              exact (hfam i hi).2.1
          rw [hln] at key
          exact key

theorem open29 {H : Type} {enc : TypeId × Value → H} {W : World} {base : Nat} {v : Value} {d : DataW H} {p : List MemPlace} (hok : Value.okWide Tryz.prog W .any base 29 v) (h : DataW.Trod enc Tryz.prog W 0 (fun _ => true) true 29 v d p) :
    ∃ (t : Tr) (s : Value), t.sane ∧ Is W (fun _ => True) t s ∧ v = .agg #[.int .i64 t.kind, .int .u64 t.set.a, .int .u64 t.set.b, .int .u64 t.set.c, .int .u64 t.set.d, .int .i64 t.min, .int .i64 t.max, s] := by
  unfold Value.okWide at hok
  rw [Tryz.underlying29] at hok
  obtain ⟨cs, rfl, _⟩ := hok
  obtain ⟨fuel, hf⟩ := h
  obtain ⟨t, s, hs, hi, e⟩ := tree_of fuel fuel (Nat.le_refl _) _ _ hf
  refine ⟨t, s, hs, hi, ?_⟩
  simp [Value.cells] at e
  rw [show cs = #[.int .i64 t.kind, .int .u64 t.set.a, .int .u64 t.set.b, .int .u64 t.set.c, .int .u64 t.set.d, .int .i64 t.min, .int .i64 t.max, s] from Array.toList_inj.1 e]
end Go.Proofs.YthmecbonjkcnmaaGreat.st

namespace Go.Proofs.YthmecbonjkcnmaaGreat.st
open Go.ChangeShapes Go.WideShapes Go.ChangeAt Go.RowKit
set_option linter.unusedVariables false

theorem chain {w w1 w2 : World} (h1 : Below w.heap.size w w1) (h2 : Below w1.heap.size w1 w2) : Below w.heap.size w w2 := h1.trans (h2.mono h1.size)

theorem bit_and (x m : Nat) (hx : x < 18446744073709551616) : (bits .and .u64 ((x : Int) / 2 ^ m) 1 == 1) = x.testBit m := by
  have h1 : ((x : Int) / 2 ^ m) = ((x / 2 ^ m : Nat) : Int) := by simp
  have h2 := u64_and_nat (x / 2 ^ m) 1 (Nat.lt_of_le_of_lt (Nat.div_le_self _ _) hx) (by omega)
  rw [h1, show ((1 : Nat) : Int) = (1 : Int) from rfl] at *
  rw [h2, Nat.and_one_is_mod, Nat.testBit_eq_decide_div_mod_eq]
  generalize x / 2 ^ m = y
  by_cases h : y % 2 = 1
  · rw [h]; rfl
  · have : y % 2 = 0 := by omega
    rw [this]; rfl
theorem bit_mod (x m : Nat) : (((x : Int) / 2 ^ m).tmod 2 == 1) = x.testBit m := by
  have h1 : ((x : Int) / 2 ^ m) = ((x / 2 ^ m : Nat) : Int) := by simp
  rw [h1, Nat.testBit_eq_decide_div_mod_eq]
  generalize x / 2 ^ m = y
  rw [Int.tmod_eq_emod_of_nonneg (by omega)]
  by_cases h : y % 2 = 1
  · rw [show ((y : Int) % 2) = 1 from by omega, h]; rfl
  · rw [show ((y : Int) % 2) = 0 from by omega, show y % 2 = 0 from by omega]; rfl
theorem bit_or (x m : Nat) (hx : x < 18446744073709551616) (hm : m < 64) : bits .or .u64 (x : Int) (IntKind.u64.wrap (2 ^ m)) = ((x ||| 2 ^ m : Nat) : Int) := by
  have hp : (2 : Nat) ^ m < 18446744073709551616 := Nat.lt_of_lt_of_le (Nat.pow_lt_pow_right (by omega) hm) (by decide)
  have h1 : IntKind.u64.wrap (2 ^ m) = ((2 ^ m : Nat) : Int) := by
    have e : ((2 : Int) ^ m) = ((2 ^ m : Nat) : Int) := by simp
    rw [e, IntKind.wrap_u64]
    generalize 2 ^ m = y at *
    omega
  rw [h1]
  exact u64_or_nat _ _ hx hp

theorem quarter (n : Nat) (h : n < 256) : n / 64 = 0 ∨ n / 64 = 1 ∨ n / 64 = 2 ∨ n / 64 = 3 := by omega

def RHasIs (q : Q4) (n : Nat) (r : Bool) : Prop := ∀ w, Calls Tryz.prog 104 #[.agg #[.int .u64 q.a, .int .u64 q.b, .int .u64 q.c, .int .u64 q.d], .int .u8 n] w fun e w' => e = .returned (.bool r) ∧ Below w.heap.size w w'

set_option maxRecDepth 100000 in
theorem rhas_any (q : Q4) (hq : Fits q) (n : Nat) (hn : n < 256) (r : Bool) (hr : r = has q n) : RHasIs q n r := by
  intro w
  have HR : Hid (r = has q n) := hr
  clear hr
  obtain ⟨m, hm, hm64⟩ : ∃ m : Nat, n % 64 = m ∧ m < 64 := ⟨_, rfl, by omega⟩
  have e2 : ((n : Int) % 64) = m := by omega
  rcases quarter n hn with h | h | h | h
  · have e1 : ((n : Int) / 64) = 0 := by omega
    have e3 := bit_mod q.a m
    have HB : Hid (q.a.testBit m = r) := by show _ = _; rw [HR.out]; unfold has; rw [h, hm]; rfl
    clear h hm HR hn
    go_enter Tryz.func104, Tryz.ntmps104
    go_wp2
    go_ret
    exact ⟨by rw [← HB.out]; rfl, (Below.refl _ _).alloc (Nat.le_refl _) _⟩
  · have e1 : ((n : Int) / 64) = 1 := by omega
    have e3 := bit_mod q.b m
    have HB : Hid (q.b.testBit m = r) := by show _ = _; rw [HR.out]; unfold has; rw [h, hm]; rfl
    clear h hm HR hn
    go_enter Tryz.func104, Tryz.ntmps104
    go_wp2
    go_ret
    exact ⟨by rw [← HB.out]; rfl, (Below.refl _ _).alloc (Nat.le_refl _) _⟩
  · have e1 : ((n : Int) / 64) = 2 := by omega
    have e3 := bit_mod q.c m
    have HB : Hid (q.c.testBit m = r) := by show _ = _; rw [HR.out]; unfold has; rw [h, hm]; rfl
    clear h hm HR hn
    go_enter Tryz.func104, Tryz.ntmps104
    go_wp2
    go_ret
    exact ⟨by rw [← HB.out]; rfl, (Below.refl _ _).alloc (Nat.le_refl _) _⟩
  · have e1 : ((n : Int) / 64) = 3 := by omega
    have e3 := bit_mod q.d m
    have HB : Hid (q.d.testBit m = r) := by show _ = _; rw [HR.out]; unfold has; rw [h, hm]; rfl
    clear h hm HR hn
    go_enter Tryz.func104, Tryz.ntmps104
    go_wp2
    go_ret
    exact ⟨by rw [← HB.out]; rfl, (Below.refl _ _).alloc (Nat.le_refl _) _⟩
end Go.Proofs.YthmecbonjkcnmaaGreat.st

namespace Go.Proofs.YthmecbonjkcnmaaGreat.nf
set_option linter.unusedVariables false
def Fits (x : Ed) : Prop := x.a < 18446744073709551616 ∧ x.b < 18446744073709551616 ∧ x.c < 18446744073709551616 ∧ x.d < 18446744073709551616
def setOf (e : Ed) : st.Q4 := ⟨e.a, e.b, e.c, e.d⟩
def hasE (e : Ed) (b : Nat) : Bool := st.has (setOf e) b
theorem fits_of {e : Ed} (h : Fits e) : st.Fits (setOf e) := ⟨h.1, h.2.1, h.2.2.1, h.2.2.2⟩
end Go.Proofs.YthmecbonjkcnmaaGreat.nf

namespace Go.Proofs.YthmecbonjkcnmaaGreat.nb
open st (Tr Q4 nodesOf goods okNode)
open nf (Ed)
set_option linter.unusedVariables false

def EF (x : St) : Prop := ∀ e ∈ x.es, nf.Fits e
theorem EF.new {x : St} (h : EF x) : EF x.new := h
theorem EF.free {x : St} (h : EF x) (f t : Nat) : EF (x.free f t) := fun e he => by
  rcases List.mem_append.1 he with he | he
  · exact h e he
  · rw [List.mem_singleton] at he
    subst he
    unfold nf.Fits
    simp only []
    omega
def LF (L : Lay) : Prop := ∀ f t x, EF x → EF (L f t x)
theorem times_ef {L : Lay} (h : LF L) : ∀ (k f : Nat) (x : St), EF x → EF (times L k f x).2
  | 0, f, x, hx => hx
  | k + 1, f, x, hx => times_ef h k x.n _ (h f x.n x.new hx)
theorem upTo_ef {L : Lay} (h : LF L) (least to : Nat) : ∀ (k i f : Nat) (x : St), EF x → EF (upTo L least to k i f x)
  | 0, i, f, x, hx => hx.free f to
  | k + 1, i, f, x, hx => by
    unfold upTo
    dsimp only
    refine upTo_ef h least to k (i + 1) _ _ (h f _ _ ?_)
    split
    · exact (hx.free f to).new
    · exact hx.new
theorem again_ef {L : Lay} (h : LF L) (least f to : Nat) (x : St) (hx : EF x) : EF (again L least f to x) := by
  have h1 := times_ef h (least - 1) f x hx
  unfold again
  dsimp only
  split
  · exact (h _ _ _ ((h1.new.free _ _).new.free _ _)).free _ _
  · exact (h _ _ _ (h1.new.free _ _)).free _ _
mutual
theorem lay_ef : ∀ (t : Tr), t.sane → LF (layT t)
  | .node k q mn mx l, hs => by
    intro f t x hx
    rw [layT]
    split
    · exact hx
    · split
      · intro e he
        rcases List.mem_append.1 he with he | he
        · exact hx e he
        · rw [List.mem_singleton] at he
          subst he
          unfold Tr.sane at hs
          exact ⟨hs.1.a, hs.1.b, hs.1.c, hs.1.d⟩
      · unfold Tr.sane at hs
        split
        · exact (row_ef l hs.2.2.2.2 f x hx).free _ _
        · split
          · exact alt_ef l hs.2.2.2.2 f t x hx
          · split
            · split
              · exact again_ef (head_ef l hs.2.2.2.2) _ f t x hx
              · exact upTo_ef (head_ef l hs.2.2.2.2) _ t _ _ f x hx
            · exact hx
theorem row_ef : ∀ (l : List Tr), st.sanes l → ∀ (f : Nat) (x : St), EF x → EF (rowT l f x).2
  | [], _, f, x, hx => hx
  | t :: l, hs, f, x, hx => by
    unfold st.sanes at hs
    rw [rowT]
    exact row_ef l hs.2 x.n _ (lay_ef t hs.1 f x.n x.new hx)
theorem alt_ef : ∀ (l : List Tr), st.sanes l → LF (altT l)
  | [], _ => fun f t x hx => hx
  | k :: l, hs => by
    unfold st.sanes at hs
    intro f t x hx
    rw [altT]
    exact alt_ef l hs.2 f t _ (lay_ef k hs.1 f t x hx)
theorem head_ef : ∀ (l : List Tr), st.sanes l → LF (headT l)
  | [], _ => fun f t x hx => hx
  | k :: _, hs => by
    unfold st.sanes at hs
    exact lay_ef k hs.1
end
theorem built_fits (t : Tr) (h : t.sane) : ∀ e ∈ (nfaOf t).edges, nf.Fits e := lay_ef t h 0 1 ⟨2, []⟩ (fun e he => by cases he)
end Go.Proofs.YthmecbonjkcnmaaGreat.nb

namespace Go.Proofs.YthmecbonjkcnmaaGreat.nb
open st (Tr Q4 nodesOf goods okNode)
open nf (Ed)
set_option linter.unusedVariables false

/-- a text: its bytes, its length -/
structure Tx where
  d : Nat → Nat
  len : Nat
/-- what an edge does -/
def EdS (x : Tx) (e : Ed) : Rl := fun a b => e.fr = (a.1 : Int) ∧ e.to = (b.1 : Int) ∧ ((e.free = true ∧ a.2 = b.2) ∨ (e.free = false ∧ a.2 < x.len ∧ b.2 = a.2 + 1 ∧ nf.hasE e (x.d a.2) = true))
def EdR (x : Tx) (l : List Ed) : Rl := fun a b => ∃ e ∈ l, EdS x e a b
theorem edR_nil (x : Tx) (a b : Cf) : ¬ EdR x [] a b := fun ⟨e, he, _⟩ => by cases he
theorem edR_append (x : Tx) (l k : List Ed) (a b : Cf) : EdR x (l ++ k) a b ↔ Un (EdR x l) (EdR x k) a b := by
  unfold EdR Un
  constructor
  · rintro ⟨e, he, h⟩
    rcases List.mem_append.1 he with he | he
    · exact .inl ⟨e, he, h⟩
    · exact .inr ⟨e, he, h⟩
  · rintro (⟨e, he, h⟩ | ⟨e, he, h⟩)
    · exact ⟨e, List.mem_append_left _ he, h⟩
    · exact ⟨e, List.mem_append_right _ he, h⟩
/-- states that have come between two stages -/
def Bt (a b s : Nat) : Prop := a ≤ s ∧ s < b
/-- an edge between these states and two others -/
def Tch (f t a b : Nat) (e : Ed) : Prop := ∃ u v : Nat, e.fr = (u : Int) ∧ e.to = (v : Int) ∧ (u = f ∨ u = t ∨ Bt a b u) ∧ (v = f ∨ v = t ∨ Bt a b v)
theorem Tch.up {f t a b f' t' a' b' : Nat} {e : Ed} (h : Tch f t a b e) (hf : f = f' ∨ f = t' ∨ Bt a' b' f) (ht : t = f' ∨ t = t' ∨ Bt a' b' t) (h1 : a' ≤ a) (h2 : b ≤ b') : Tch f' t' a' b' e := by
  obtain ⟨u, v, e1, e2, hu, hv⟩ := h
  have key : ∀ s, (s = f ∨ s = t ∨ Bt a b s) → (s = f' ∨ s = t' ∨ Bt a' b' s) := by
    rintro s (rfl | rfl | ⟨h3, h4⟩)
    · exact hf
    · exact ht
    · exact .inr (.inr ⟨by omega, by omega⟩)
  exact ⟨u, v, e1, e2, key u hu, key v hv⟩
theorem tch_off {x : Tx} {l : List Ed} {f t a b : Nat} (h : ∀ e ∈ l, Tch f t a b e) (F : Nat → Prop) (hf : ¬ F f) (ht : ¬ F t) (hb : ∀ s, Bt a b s → ¬ F s) : Off F (EdR x l) := by
  rintro p q ⟨e, he, h1, h2, _⟩
  obtain ⟨u, v, e1, e2, hu, hv⟩ := h e he
  have eu : u = p.1 := by omega
  have ev : v = q.1 := by omega
  subst eu ev
  have key : ∀ s, (s = f ∨ s = t ∨ Bt a b s) → ¬ F s := by
    rintro s (rfl | rfl | h)
    · exact hf
    · exact ht
    · exact hb s h
  exact ⟨key _ hu, key _ hv⟩
theorem mc_off {f t : Nat} {T : Nat → Nat → Prop} (F : Nat → Prop) (hf : ¬ F f) (ht : ¬ F t) : Off F (Mc f t T) := fun a b h => ⟨by rw [h.1]; exact hf, by rw [h.2.1]; exact ht⟩

/-- between two stages something was laid that does what one edge would do -/
structure Fr (x : Tx) (y z : St) (f t : Nat) (T : Nat → Nat → Prop) (new : List Ed) : Prop where
  es : z.es = y.es ++ new
  n : y.n ≤ z.n
  tch : ∀ e ∈ new, Tch f t y.n z.n e
  same : Same (Bt y.n z.n) (EdR x new) (Mc f t T)
def Frx (x : Tx) (y z : St) (f t : Nat) (T : Nat → Nat → Prop) : Prop := ∃ new, Fr x y z f t T new
theorem Frx.to {x : Tx} {y z : St} {f t : Nat} {T U : Nat → Nat → Prop} (h : Frx x y z f t T) (k : ∀ i j, T i j ↔ U i j) : Frx x y z f t U := by
  obtain ⟨new, h⟩ := h
  exact ⟨new, h.es, h.n, h.tch, h.same.trans (Same.of fun a b => and_congr Iff.rfl (and_congr Iff.rfl (k _ _)))⟩
theorem edR_one (x : Tx) (e : Ed) (a b : Cf) : EdR x [e] a b ↔ EdS x e a b := ⟨fun ⟨u, hu, h⟩ => by rw [List.mem_singleton] at hu; rw [← hu]; exact h, fun h => ⟨e, List.mem_singleton.2 rfl, h⟩⟩
theorem edS_free (x : Tx) (f t : Nat) (a b : Cf) : EdS x ⟨f, t, true, 0, 0, 0, 0⟩ a b ↔ Mc f t Eq a b := by
  unfold EdS Mc
  constructor
  · rintro ⟨h1, h2, ⟨_, h3⟩ | ⟨h3, _⟩⟩
    · exact ⟨by simp only [] at h1; omega, by simp only [] at h2; omega, h3⟩
    · cases h3
  · rintro ⟨h1, h2, h3⟩
    exact ⟨by simp only []; omega, by simp only []; omega, .inl ⟨rfl, h3⟩⟩
theorem fr_free (x : Tx) (y : St) (f t : Nat) : Frx x y (y.free f t) f t Eq :=
  ⟨[⟨f, t, true, 0, 0, 0, 0⟩], rfl, Nat.le_refl _, fun e he => by rw [List.mem_singleton] at he; subst he; exact ⟨f, t, rfl, rfl, .inl rfl, .inr (.inl rfl)⟩, Same.of fun a b => (edR_one x _ a b).trans (edS_free x f t a b)⟩
/-- over one byte of a set -/
def OvS (x : Tx) (q : Q4) (i j : Nat) : Prop := i < x.len ∧ j = i + 1 ∧ nf.hasE ⟨0, 0, false, q.a, q.b, q.c, q.d⟩ (x.d i) = true
theorem fr_over (x : Tx) (y : St) (q : Q4) (f t : Nat) : Frx x y (y.over q f t) f t (OvS x q) :=
  ⟨[⟨f, t, false, q.a, q.b, q.c, q.d⟩], rfl, Nat.le_refl _, fun e he => by rw [List.mem_singleton] at he; subst he; exact ⟨f, t, rfl, rfl, .inl rfl, .inr (.inl rfl)⟩, Same.of fun a b => (edR_one x _ a b).trans (by
    unfold EdS Mc OvS
    constructor
    · rintro ⟨h1, h2, ⟨h3, _⟩ | ⟨_, h3, h4, h5⟩⟩
      · cases h3
      · exact ⟨by simp only [] at h1; omega, by simp only [] at h2; omega, h3, h4, h5⟩
    · rintro ⟨h1, h2, h3, h4, h5⟩
      exact ⟨by simp only []; omega, by simp only []; omega, .inr ⟨rfl, h3, h4, h5⟩⟩)⟩
/-- nothing is laid -/
theorem fr_none (x : Tx) (y : St) (f t : Nat) : Frx x y y f t (fun _ _ => False) :=
  ⟨[], by simp, Nat.le_refl _, fun e he => absurd he (by simp), Same.of fun a b => ⟨fun h => absurd h (edR_nil x a b), fun h => h.2.2.elim⟩⟩
/-- one beside the other -/
theorem Frx.or {x : Tx} {y z u : St} {f t : Nat} {T U : Nat → Nat → Prop} (h : Frx x y z f t T) (k : Frx x z u f t U) (hf : f < y.n) (ht : t < y.n) : Frx x y u f t (Or2 T U) := by
  obtain ⟨l, h⟩ := h
  obtain ⟨m, k⟩ := k
  have hn := h.n
  have kn := k.n
  refine ⟨l ++ m, by rw [k.es, h.es, List.append_assoc], by omega, fun e he => ?_, ?_⟩
  · rcases List.mem_append.1 he with he | he
    · exact (h.tch e he).up (.inl rfl) (.inr (.inl rfl)) (Nat.le_refl _) kn
    · exact (k.tch e he).up (.inl rfl) (.inr (.inl rfl)) hn (Nat.le_refl _)
  · have b := (h.same).both (k.same) (tch_off k.tch _ (fun s => by unfold Bt at s; omega) (fun s => by unfold Bt at s; omega) (fun s h1 h2 => by unfold Bt at h1 h2; omega)) (mc_off _ (fun s => by unfold Bt at s; omega) (fun s => by unfold Bt at s; omega))
    exact ((Same.of (edR_append x l m)).trans (b.up (fun s h1 => by unfold Bt at h1 ⊢; omega))).trans (Same.of (mc_or f t T U))
/-- one behind the other, over a new state -/
theorem Frx.seq {x : Tx} {y z u : St} {f t : Nat} {T U : Nat → Nat → Prop} (h : Frx x y.new z f y.n T) (k : Frx x z u y.n t U) (hf : f < y.n) (ht : t < y.n) : Frx x y u f t (Sq T U) := by
  obtain ⟨l, h⟩ := h
  obtain ⟨m, k⟩ := k
  have hn : y.n + 1 ≤ z.n := h.n
  have kn := k.n
  have h0 : y.new.n = y.n + 1 := rfl
  refine ⟨l ++ m, by rw [k.es, h.es, List.append_assoc]; rfl, by omega, fun e he => ?_, ?_⟩
  · rcases List.mem_append.1 he with he | he
    · exact (h.tch e he).up (.inl rfl) (.inr (.inr ⟨Nat.le_refl _, by omega⟩)) (by omega) kn
    · exact (k.tch e he).up (.inr (.inr ⟨Nat.le_refl _, by omega⟩)) (.inr (.inl rfl)) (by omega) (Nat.le_refl _)
  · have b := (h.same).both (k.same) (tch_off k.tch _ (fun s => by unfold Bt at s; omega) (fun s => by unfold Bt at s; omega) (fun s h1 h2 => by unfold Bt at h1 h2; omega)) (mc_off _ (fun s => by unfold Bt at s; omega) (fun s => by unfold Bt at s; omega))
    have c := mc_seq f y.n t T U (by omega) (by omega)
    exact ((Same.of (edR_append x l m)).trans (b.up (fun s h1 => by unfold Bt at h1 ⊢; omega))).trans (c.up (fun s h1 => by unfold Bt; omega))
/-- again and again -/
theorem Frx.star {x : Tx} {y z : St} {f t : Nat} {T : Nat → Nat → Prop} (h : Frx x (y.new.free f y.n) z y.n y.n T) (hf : f < y.n) (ht : t < y.n) : Frx x y (z.free y.n t) f t (Star T) := by
  obtain ⟨l, h⟩ := h
  have hn : y.n + 1 ≤ z.n := h.n
  have h0 : (y.new.free f y.n).n = y.n + 1 := rfl
  refine ⟨⟨f, y.n, true, 0, 0, 0, 0⟩ :: (l ++ [⟨y.n, t, true, 0, 0, 0, 0⟩]), ?_, by show y.n ≤ z.n; omega, fun e he => ?_, ?_⟩
  · show z.es ++ _ = _
    rw [h.es]
    simp [St.free, St.new]
  · show Tch f t y.n z.n e
    rcases List.mem_cons.1 he with rfl | he
    · exact ⟨f, y.n, rfl, rfl, .inl rfl, .inr (.inr ⟨Nat.le_refl _, by omega⟩)⟩
    · rcases List.mem_append.1 he with he | he
      · exact (h.tch e he).up (.inr (.inr ⟨Nat.le_refl _, by omega⟩)) (.inr (.inr ⟨Nat.le_refl _, by omega⟩)) (by omega) (Nat.le_refl _)
      · rw [List.mem_singleton] at he
        subst he
        exact ⟨y.n, t, rfl, rfl, .inr (.inr ⟨Nat.le_refl _, by omega⟩), .inr (.inl rfl)⟩
  · have s1 : Same (Bt (y.n + 1) z.n) (Un (EdR x l) (Un (Mc f y.n Eq) (Mc y.n t Eq))) (Un (Mc y.n y.n T) (Un (Mc f y.n Eq) (Mc y.n t Eq))) := by
      have b := (h.same).both (Same.refl (fun _ => False) (Un (Mc f y.n Eq) (Mc y.n t Eq))) ((mc_off _ (fun s => by unfold Bt at s; omega) (fun s => by unfold Bt at s; omega)).un (mc_off _ (fun s => by unfold Bt at s; omega) (fun s => by unfold Bt at s; omega))) (fun _ _ _ => ⟨fun h => h, fun h => h⟩)
      exact b.up (fun s h1 => h1.elim (fun h => h) (fun h => h.elim))
    have c := mc_star f y.n t Eq T Eq (by omega) (by omega)
    have e1 : ∀ a b, EdR x (⟨f, y.n, true, 0, 0, 0, 0⟩ :: (l ++ [⟨y.n, t, true, 0, 0, 0, 0⟩])) a b ↔ Un (EdR x l) (Un (Mc f y.n Eq) (Mc y.n t Eq)) a b := fun a b => by
      rw [← List.singleton_append, edR_append]
      unfold Un
      rw [edR_append, edR_one, edS_free]
      unfold Un
      rw [edR_one, edS_free]
      exact ⟨fun h => h.elim (fun h => .inr (.inl h)) fun h => h.elim .inl fun h => .inr (.inr h), fun h => h.elim (fun h => .inr (.inl h)) fun h => h.elim .inl fun h => .inr (.inr h)⟩
    have e2 : ∀ a b, Un (Mc y.n y.n T) (Un (Mc f y.n Eq) (Mc y.n t Eq)) a b ↔ Un (Mc f y.n Eq) (Un (Mc y.n y.n T) (Mc y.n t Eq)) a b := fun a b => or_left_comm
    refine ((((Same.of e1).trans (s1.up (fun s h1 => by unfold Bt at h1 ⊢; show y.n ≤ s ∧ s < z.n; omega))).trans (Same.of e2)).trans (c.up (fun s h1 => by unfold Bt; show y.n ≤ s ∧ s < z.n; omega))).trans (Same.of fun a b => ?_)
    unfold Mc Sq
    constructor
    · rintro ⟨h1, h2, k, rfl, j, h3, rfl⟩
      exact ⟨h1, h2, h3⟩
    · rintro ⟨h1, h2, h3⟩
      exact ⟨h1, h2, _, rfl, _, h3, rfl⟩
/-- once, and again and again -/
theorem Frx.plus {x : Tx} {y z : St} {f t : Nat} {T : Nat → Nat → Prop} (h : Frx x ((y.new.free f y.n).new.free (y.n + 1) y.n) z y.n (y.n + 1) T) (hf : f < y.n) (ht : t < y.n) : Frx x y (z.free (y.n + 1) t) f t (Sq (Star T) T) := by
  obtain ⟨l, h⟩ := h
  have hn : y.n + 2 ≤ z.n := h.n
  have h0 : ((y.new.free f y.n).new.free (y.n + 1) y.n).n = y.n + 2 := rfl
  refine ⟨⟨f, y.n, true, 0, 0, 0, 0⟩ :: ⟨(y.n + 1 : Nat), y.n, true, 0, 0, 0, 0⟩ :: (l ++ [⟨(y.n + 1 : Nat), t, true, 0, 0, 0, 0⟩]), ?_, by show y.n ≤ z.n; omega, fun e he => ?_, ?_⟩
  · show z.es ++ _ = _
    rw [h.es]
    simp [St.free, St.new]
  · show Tch f t y.n z.n e
    rcases List.mem_cons.1 he with rfl | he
    · exact ⟨f, y.n, rfl, rfl, .inl rfl, .inr (.inr ⟨Nat.le_refl _, by omega⟩)⟩
    · rcases List.mem_cons.1 he with rfl | he
      · exact ⟨y.n + 1, y.n, rfl, rfl, .inr (.inr ⟨by omega, by omega⟩), .inr (.inr ⟨Nat.le_refl _, by omega⟩)⟩
      · rcases List.mem_append.1 he with he | he
        · exact (h.tch e he).up (.inr (.inr ⟨Nat.le_refl _, by omega⟩)) (.inr (.inr ⟨by omega, by omega⟩)) (by omega) (Nat.le_refl _)
        · rw [List.mem_singleton] at he
          subst he
          exact ⟨y.n + 1, t, rfl, rfl, .inr (.inr ⟨by omega, by omega⟩), .inr (.inl rfl)⟩
  · obtain ⟨c, hc⟩ : ∃ c, c = y.n := ⟨_, rfl⟩
    obtain ⟨d, hd⟩ : ∃ d, d = y.n + 1 := ⟨_, rfl⟩
    have s1 : Same (Bt (y.n + 2) z.n) (Un (EdR x l) (Un (Mc f c Eq) (Un (Mc d c Eq) (Mc d t Eq)))) (Un (Mc c d T) (Un (Mc f c Eq) (Un (Mc d c Eq) (Mc d t Eq)))) := by
      have hs := h.same
      rw [← hd, ← hc] at hs
      have nb : ∀ s, s < y.n + 2 → ¬ Bt (y.n + 2) z.n s := fun s h1 h2 => by unfold Bt at h2; omega
      have b := hs.both (Same.refl (fun _ => False) (Un (Mc f c Eq) (Un (Mc d c Eq) (Mc d t Eq)))) ((mc_off _ (nb f (by omega)) (nb c (by omega))).un ((mc_off _ (nb d (by omega)) (nb c (by omega))).un (mc_off _ (nb d (by omega)) (nb t (by omega))))) (fun _ _ _ => ⟨fun h => h, fun h => h⟩)
      exact b.up (fun s h1 => h1.elim (fun h => h) (fun h => h.elim))
    have s2 : Same (fun s => s = d) (Un (Un (Mc c d T) (Un (Mc d c Eq) (Mc d t Eq))) (Mc f c Eq)) (Un (Un (Mc c c T) (Mc c t T)) (Mc f c Eq)) := by
      have b := (mc_fork c d t T (by omega) (by omega)).both (Same.refl (fun _ => False) (Mc f c Eq)) (mc_off _ (by omega) (by omega)) (fun _ _ _ => ⟨fun h => h, fun h => h⟩)
      exact b.up (fun s h1 => h1.elim (fun h => h) (fun h => h.elim))
    have s3 := mc_star f c t Eq T T (by omega) (by omega)
    have e1 : ∀ a b, EdR x (⟨f, y.n, true, 0, 0, 0, 0⟩ :: ⟨(y.n + 1 : Nat), y.n, true, 0, 0, 0, 0⟩ :: (l ++ [⟨(y.n + 1 : Nat), t, true, 0, 0, 0, 0⟩])) a b ↔ Un (EdR x l) (Un (Mc f c Eq) (Un (Mc d c Eq) (Mc d t Eq))) a b := fun a b => by
      rw [← List.singleton_append, edR_append]
      unfold Un
      rw [← List.singleton_append (x := (⟨(y.n + 1 : Nat), y.n, true, 0, 0, 0, 0⟩ : Ed)), edR_append, edR_one, edS_free]
      unfold Un
      rw [edR_append, edR_one, edS_free]
      unfold Un
      rw [edR_one, edS_free, ← hd, ← hc]
      exact ⟨fun h => h.elim (fun h => .inr (.inl h)) fun h => h.elim (fun h => .inr (.inr (.inl h))) fun h => h.elim .inl fun h => .inr (.inr (.inr h)), fun h => h.elim (fun h => .inr (.inr (.inl h))) fun h => h.elim .inl fun h => h.elim (fun h => .inr (.inl h)) fun h => .inr (.inr (.inr h))⟩
    have e2 : ∀ a b, Un (Mc c d T) (Un (Mc f c Eq) (Un (Mc d c Eq) (Mc d t Eq))) a b ↔ Un (Un (Mc c d T) (Un (Mc d c Eq) (Mc d t Eq))) (Mc f c Eq) a b := fun a b =>
      ⟨fun h => h.elim (fun h => .inl (.inl h)) fun h => h.elim .inr fun h => .inl (.inr h), fun h => h.elim (fun h => h.elim .inl fun h => .inr (.inr h)) fun h => .inr (.inl h)⟩
    have e3 : ∀ a b, Un (Un (Mc c c T) (Mc c t T)) (Mc f c Eq) a b ↔ Un (Mc f c Eq) (Un (Mc c c T) (Mc c t T)) a b := fun a b => or_comm
    have up : ∀ s, (Bt (y.n + 2) z.n s ∨ s = d ∨ s = c) → Bt y.n z.n s := fun s h1 => by unfold Bt at h1 ⊢; omega
    show Same (Bt y.n z.n) _ _
    refine ((((((Same.of e1).trans (s1.up (fun s h1 => up s (.inl h1)))).trans (Same.of e2)).trans (s2.up (fun s h1 => up s (.inr (.inl h1))))).trans (Same.of e3)).trans (s3.up (fun s h1 => up s (.inr (.inr h1))))).trans (Same.of fun a b => ?_)
    unfold Mc Sq
    constructor
    · rintro ⟨h1, h2, k, rfl, h3⟩
      exact ⟨h1, h2, h3⟩
    · rintro ⟨h1, h2, h3⟩
      exact ⟨h1, h2, _, rfl, h3⟩
end Go.Proofs.YthmecbonjkcnmaaGreat.nb

namespace Go.Proofs.YthmecbonjkcnmaaGreat.nb
open st (Tr Q4 nodesOf goods okNode)
open nf (Ed)
set_option linter.unusedVariables false

def Pow (T : Nat → Nat → Prop) : Nat → Nat → Nat → Prop
  | 0, i, j => i = j
  | n + 1, i, j => ∃ k, T i k ∧ Pow T n k j
mutual
/-- from a place to a place -/
def Tk (x : Tx) : Tr → Nat → Nat → Prop
  | .node k q mn mx l, i, j =>
    if k = 1 then OvS x q i j
    else if k = 2 then TkC x l i j
    else if k = 3 then TkA x l i j
    else if k = 4 then (∃ n, mn.toNat ≤ n ∧ (mx = -1 ∨ n ≤ mx.toNat) ∧ Pow (TkH x l) n i j)
    else False
def TkC (x : Tx) : List Tr → Nat → Nat → Prop
  | [], i, j => i = j
  | t :: l, i, j => ∃ k, Tk x t i k ∧ TkC x l k j
def TkA (x : Tx) : List Tr → Nat → Nat → Prop
  | [], i, j => False
  | t :: l, i, j => Tk x t i j ∨ TkA x l i j
def TkH (x : Tx) : List Tr → Nat → Nat → Prop
  | [], i, j => False
  | t :: _, i, j => Tk x t i j
end
theorem Pow.snoc {T : Nat → Nat → Prop} : ∀ {n i j k : Nat}, Pow T n i j → T j k → Pow T (n + 1) i k
  | 0, i, j, k, h, t => by cases h; exact ⟨k, t, rfl⟩
  | n + 1, i, j, k, ⟨m, h1, h2⟩, t => ⟨m, h1, Pow.snoc h2 t⟩
theorem Pow.unsnoc {T : Nat → Nat → Prop} : ∀ {n i k : Nat}, Pow T (n + 1) i k → ∃ j, Pow T n i j ∧ T j k
  | 0, i, k, ⟨m, h1, h2⟩ => by cases h2; exact ⟨i, rfl, h1⟩
  | n + 1, i, k, ⟨m, h1, h2⟩ => by
    obtain ⟨j, h3, h4⟩ := Pow.unsnoc h2
    exact ⟨j, ⟨m, h1, h3⟩, h4⟩
theorem pow_add {T : Nat → Nat → Prop} : ∀ (m n i j : Nat), Pow T (m + n) i j ↔ Sq (Pow T m) (Pow T n) i j
  | 0, n, i, j => by
    rw [Nat.zero_add]
    exact ⟨fun h => ⟨i, rfl, h⟩, fun ⟨k, h1, h2⟩ => by cases h1; exact h2⟩
  | m + 1, n, i, j => by
    rw [show m + 1 + n = (m + n) + 1 by omega]
    constructor
    · rintro ⟨k, h1, h2⟩
      obtain ⟨c, h3, h4⟩ := (pow_add m n k j).1 h2
      exact ⟨c, ⟨k, h1, h3⟩, h4⟩
    · rintro ⟨c, ⟨k, h1, h3⟩, h4⟩
      exact ⟨k, h1, (pow_add m n k j).2 ⟨c, h3, h4⟩⟩
theorem star_pow {T : Nat → Nat → Prop} (i j : Nat) : Star T i j ↔ ∃ n, Pow T n i j := by
  constructor
  · intro h
    induction h with
    | refl i => exact ⟨0, rfl⟩
    | step t _ ih =>
      obtain ⟨n, hn⟩ := ih
      exact ⟨n + 1, _, t, hn⟩
  · rintro ⟨n, h⟩
    induction n generalizing i with
    | zero => cases h; exact .refl _
    | succ n ih =>
      obtain ⟨k, h1, h2⟩ := h
      exact .step h1 (ih k h2)
/-- no less than it was -/
def Ge (x y : St) : Prop := x.n ≤ y.n ∧ x.es.length ≤ y.es.length
theorem Ge.refl (x : St) : Ge x x := ⟨Nat.le_refl _, Nat.le_refl _⟩
theorem Ge.trans {x y z : St} (h : Ge x y) (k : Ge y z) : Ge x z := ⟨Nat.le_trans h.1 k.1, Nat.le_trans h.2 k.2⟩
theorem ge_new (x : St) : Ge x x.new := ⟨Nat.le_succ _, Nat.le_refl _⟩
theorem ge_free (x : St) (f t : Nat) : Ge x (x.free f t) := ⟨Nat.le_refl _, by simp [St.free]⟩
theorem Ge.full {x y : St} (h : Ge x y) (k : y.full = false) : x.full = false := by
  simp [St.full] at k ⊢
  have := h.1
  have := h.2
  omega
def Gr (L : Lay) : Prop := ∀ f t x, Ge x (L f t x)
theorem times_gr {L : Lay} (h : Gr L) : ∀ (k f : Nat) (x : St), Ge x (times L k f x).2
  | 0, f, x => Ge.refl _
  | k + 1, f, x => ((ge_new x).trans (h f x.n x.new)).trans (times_gr h k x.n _)
theorem upTo_gr {L : Lay} (h : Gr L) (least to : Nat) : ∀ (k i f : Nat) (x : St), Ge x (upTo L least to k i f x)
  | 0, i, f, x => ge_free x f to
  | k + 1, i, f, x => by
    unfold upTo
    dsimp only
    refine Ge.trans ?_ (((ge_new _).trans (h f _ _)).trans (upTo_gr h least to k (i + 1) _ _))
    split
    · exact ge_free x f to
    · exact Ge.refl _
theorem again_gr {L : Lay} (h : Gr L) (least f to : Nat) (x : St) : Ge x (again L least f to x) := by
  have h1 := times_gr h (least - 1) f x
  unfold again
  dsimp only
  split
  · exact h1.trans ((((((ge_new _).trans (ge_free _ _ _)).trans (ge_new _)).trans (ge_free _ _ _)).trans (h _ _ _)).trans (ge_free _ _ _))
  · exact h1.trans ((((ge_new _).trans (ge_free _ _ _)).trans (h _ _ _)).trans (ge_free _ _ _))
mutual
theorem lay_gr : ∀ (t : Tr), Gr (layT t)
  | .node k q mn mx l => by
    intro f t x
    rw [layT]
    split
    · exact Ge.refl _
    · split
      · exact ⟨Nat.le_refl _, by simp [St.over]⟩
      · split
        · exact (row_gr l f x).trans (ge_free _ _ _)
        · split
          · exact alt_gr l f t x
          · split
            · split
              · exact again_gr (head_gr l) _ f t x
              · exact upTo_gr (head_gr l) _ t _ _ f x
            · exact Ge.refl _
theorem row_gr : ∀ (l : List Tr) (f : Nat) (x : St), Ge x (rowT l f x).2
  | [], f, x => Ge.refl _
  | t :: l, f, x => by
    rw [rowT]
    exact ((ge_new x).trans (lay_gr t f x.n x.new)).trans (row_gr l x.n _)
theorem alt_gr : ∀ (l : List Tr), Gr (altT l)
  | [] => fun f t x => Ge.refl _
  | k :: l => fun f t x => by
    rw [altT]
    exact (lay_gr k f t x).trans (alt_gr l f t _)
theorem head_gr : ∀ (l : List Tr), Gr (headT l)
  | [] => fun f t x => Ge.refl _
  | k :: _ => lay_gr k
end
/-- what it lays, where it has room, does what one edge would do -/
def Does (x : Tx) (L : Lay) (T : Nat → Nat → Prop) : Prop := ∀ f t y, f < y.n → t < y.n → (L f t y).full = false → Frx x y (L f t y) f t T
/-- up to so many times -/
def Ut (T : Nat → Nat → Prop) (least : Nat) : Nat → Nat → Nat → Nat → Prop
  | 0, i => Eq
  | k + 1, i => Or2 (fun a b => least ≤ i ∧ a = b) (Sq T (Ut T least k (i + 1)))
theorem upTo_does {x : Tx} {L : Lay} {T : Nat → Nat → Prop} (h : Does x L T) (hr : Gr L) (least to : Nat) : ∀ (k i f : Nat) (y : St), f < y.n → to < y.n → (upTo L least to k i f y).full = false → Frx x y (upTo L least to k i f y) f to (Ut T least k i)
  | 0, i, f, y, hf, ht, _ => fr_free x y f to
  | k + 1, i, f, y, hf, ht, hfu => by
    unfold upTo at hfu ⊢
    dsimp only at hfu ⊢
    by_cases hi : least ≤ i
    · rw [if_pos hi] at hfu ⊢
      have g1 := upTo_gr hr least to k (i + 1) (y.free f to).n (L f (y.free f to).n (y.free f to).new)
      have a1 := h f (y.free f to).n (y.free f to).new (by show f < y.n + 1; omega) (by show y.n < y.n + 1; omega) (g1.full hfu)
      have g2 := hr f (y.free f to).n (y.free f to).new
      have g3 : y.n + 1 ≤ (L f (y.free f to).n (y.free f to).new).n := g2.1
      have a2 := upTo_does h hr least to k (i + 1) (y.free f to).n (L f (y.free f to).n (y.free f to).new) (by show y.n < _; omega) (by omega) hfu
      have a3 := Frx.seq (y := y.free f to) a1 a2 (by show f < y.n; omega) (by show to < y.n; omega)
      refine ((fr_free x y f to).or a3 hf ht).to fun a b => or_congr ⟨fun e => ⟨hi, e⟩, fun e => e.2⟩ Iff.rfl
    · rw [if_neg hi] at hfu ⊢
      have g1 := upTo_gr hr least to k (i + 1) y.n (L f y.n y.new)
      have a1 := h f y.n y.new (by show f < y.n + 1; omega) (by show y.n < y.n + 1; omega) (g1.full hfu)
      have g3 : y.n + 1 ≤ (L f y.n y.new).n := (hr f y.n y.new).1
      have a2 := upTo_does h hr least to k (i + 1) y.n (L f y.n y.new) (by omega) (by omega) hfu
      have a3 := Frx.seq a1 a2 hf ht
      exact a3.to fun a b => ⟨fun e => .inr e, fun e => e.elim (fun e => absurd e.1 hi) id⟩
theorem ut_pow {T : Nat → Nat → Prop} (least : Nat) : ∀ (k i a b : Nat), least ≤ i + k → (Ut T least k i a b ↔ ∃ n, n ≤ k ∧ least ≤ i + n ∧ Pow T n a b)
  | 0, i, a, b, h => ⟨fun e => ⟨0, Nat.le_refl _, h, e⟩, fun ⟨n, h1, h2, h3⟩ => by
      obtain rfl : n = 0 := by omega
      exact h3⟩
  | k + 1, i, a, b, h => by
    constructor
    · rintro (⟨h1, rfl⟩ | ⟨c, h1, h2⟩)
      · exact ⟨0, Nat.zero_le _, h1, rfl⟩
      · obtain ⟨n, h3, h4, h5⟩ := (ut_pow least k (i + 1) c b (by omega)).1 h2
        exact ⟨n + 1, by omega, by omega, c, h1, h5⟩
    · rintro ⟨n, h1, h2, h3⟩
      cases n with
      | zero => exact .inl ⟨h2, h3⟩
      | succ n =>
        obtain ⟨c, h4, h5⟩ := h3
        exact .inr ⟨c, h4, (ut_pow least k (i + 1) c b (by omega)).2 ⟨n, by omega, by omega, h5⟩⟩
/-- the last copy, which is gone through again and again -/
def lastL (L : Lay) (f to : Nat) (x : St) : St := (L x.n (x.n + 1) ((x.new.free f x.n).new.free (x.n + 1) x.n)).free (x.n + 1) to
theorem again_succ (L : Lay) (k f to : Nat) (x : St) : again L (k + 1) f to x = lastL L (times L k f x).1 to (times L k f x).2 := by
  unfold again lastL
  rw [if_pos (Nat.succ_pos _)]
  rfl
theorem again_zero (L : Lay) (f to : Nat) (x : St) : again L 0 f to x = (L x.n x.n (x.new.free f x.n)).free x.n to := by
  unfold again
  rw [if_neg (Nat.lt_irrefl _)]
  rfl
theorem last_gr {L : Lay} (hr : Gr L) (f to : Nat) (x : St) : Ge x (lastL L f to x) := ((((((ge_new _).trans (ge_free _ _ _)).trans (ge_new _)).trans (ge_free _ _ _)).trans (hr _ _ _)).trans (ge_free _ _ _))
theorem last_does {x : Tx} {L : Lay} {T : Nat → Nat → Prop} (h : Does x L T) (hr : Gr L) (f to : Nat) (y : St) (hf : f < y.n) (ht : to < y.n) (hfu : (lastL L f to y).full = false) : Frx x y (lastL L f to y) f to (Sq (Star T) T) := by
  have a1 := h y.n (y.n + 1) ((y.new.free f y.n).new.free (y.n + 1) y.n) (by show y.n < y.n + 1 + 1; omega) (by show y.n + 1 < y.n + 1 + 1; omega) ((ge_free _ _ _).full hfu)
  exact a1.plus hf ht
theorem times_does {x : Tx} {L : Lay} {T : Nat → Nat → Prop} (h : Does x L T) (hr : Gr L) (to : Nat) : ∀ (k f : Nat) (y : St), f < y.n → to < y.n → (lastL L (times L k f y).1 to (times L k f y).2).full = false → Frx x y (lastL L (times L k f y).1 to (times L k f y).2) f to (Sq (Pow T k) (Sq (Star T) T))
  | 0, f, y, hf, ht, hfu => (last_does h hr f to y hf ht hfu).to fun a b => ⟨fun e => ⟨a, rfl, e⟩, fun ⟨c, h1, h2⟩ => by cases h1; exact h2⟩
  | k + 1, f, y, hf, ht, hfu => by
    unfold times at hfu ⊢
    have g1 := (times_gr hr k y.n (L f y.n y.new)).trans (last_gr hr (times L k y.n (L f y.n y.new)).1 to (times L k y.n (L f y.n y.new)).2)
    have a1 := h f y.n y.new (by show f < y.n + 1; omega) (by show y.n < y.n + 1; omega) (g1.full hfu)
    have g3 : y.n + 1 ≤ (L f y.n y.new).n := (hr f y.n y.new).1
    have a2 := times_does h hr to k y.n (L f y.n y.new) (by omega) (by omega) hfu
    refine (Frx.seq a1 a2 hf ht).to fun a b => ?_
    constructor
    · rintro ⟨c, h1, d, h2, h3⟩
      exact ⟨d, ⟨c, h1, h2⟩, h3⟩
    · rintro ⟨d, ⟨c, h1, h2⟩, h3⟩
      exact ⟨c, h1, d, h2, h3⟩
theorem again_does {x : Tx} {L : Lay} {T : Nat → Nat → Prop} (h : Does x L T) (hr : Gr L) (least f to : Nat) (y : St) (hf : f < y.n) (ht : to < y.n) (hfu : (again L least f to y).full = false) : Frx x y (again L least f to y) f to (fun i j => ∃ n, least ≤ n ∧ Pow T n i j) := by
  cases least with
  | zero =>
    rw [again_zero] at hfu ⊢
    have a1 := h y.n y.n (y.new.free f y.n) (by show y.n < y.n + 1; omega) (by show y.n < y.n + 1; omega) ((ge_free _ _ _).full hfu)
    exact (a1.star hf ht).to fun a b => (star_pow a b).trans ⟨fun ⟨n, h⟩ => ⟨n, Nat.zero_le _, h⟩, fun ⟨n, _, h⟩ => ⟨n, h⟩⟩
  | succ k =>
    rw [again_succ] at hfu ⊢
    refine (times_does h hr to k f y hf ht hfu).to fun a b => ?_
    constructor
    · rintro ⟨c, h1, d, h2, h3⟩
      obtain ⟨n, hn⟩ := (star_pow c d).1 h2
      exact ⟨k + n + 1, by omega, Pow.snoc ((pow_add k n a d).2 ⟨c, h1, hn⟩) h3⟩
    · rintro ⟨n, hn, hp⟩
      obtain ⟨m, rfl⟩ : ∃ m, n = (k + m) + 1 := ⟨n - k - 1, by omega⟩
      obtain ⟨d, h1, h2⟩ := Pow.unsnoc hp
      obtain ⟨c, h3, h4⟩ := (pow_add k m a d).1 h1
      exact ⟨c, h3, d, (star_pow c d).2 ⟨m, h4⟩, h2⟩
theorem times_ok (t : Tr) (h : okNode t = true) (hk : t.kind = 4) : t.kids.length = 1 ∧ 0 ≤ t.min ∧ (t.max = -1 ∨ t.min ≤ t.max) := by
  unfold okNode st.timesOk at h
  rw [if_neg (by omega), if_neg (by omega), if_neg (by omega), if_pos hk] at h
  simp at h
  omega
mutual
theorem lay_does (x : Tx) : ∀ (t : Tr), t.good = true → Does x (layT t) (Tk x t)
  | .node k q mn mx l, hgd => by
    intro f t y hf ht hfu
    have hg2 := hgd
    rw [Tr.good_eq, Bool.and_eq_true] at hg2
    have hkid := hg2.2
    have htm := times_ok _ hg2.1
    simp only [Tr.kids, Tr.kind, Tr.min, Tr.max] at hkid htm
    rw [layT] at hfu ⊢
    have hyf : ¬ y.full = true := by
      intro e
      rw [if_pos e] at hfu
      rw [e] at hfu
      cases hfu
    rw [if_neg hyf] at hfu ⊢
    by_cases k1 : k = 1
    · rw [if_pos k1] at hfu ⊢
      exact (fr_over x y q f t).to fun a b => by rw [Tk, if_pos k1]
    · rw [if_neg k1] at hfu ⊢
      by_cases k2 : k = 2
      · rw [if_pos k2] at hfu ⊢
        exact (row_does x l hkid f t y hf ht hfu).to fun a b => by rw [Tk, if_neg k1, if_pos k2]
      · rw [if_neg k2] at hfu ⊢
        by_cases k3 : k = 3
        · rw [if_pos k3] at hfu ⊢
          exact (alt_does x l hkid f t y hf ht hfu).to fun a b => by rw [Tk, if_neg k1, if_neg k2, if_pos k3]
        · rw [if_neg k3] at hfu ⊢
          by_cases k4 : k = 4
          · rw [if_pos k4] at hfu ⊢
            obtain ⟨_, hm0, hm1⟩ := htm k4
            by_cases m1 : mx = -1
            · rw [if_pos m1] at hfu ⊢
              refine (again_does (head_does x l hkid) (head_gr l) mn.toNat f t y hf ht hfu).to fun a b => ?_
              rw [Tk, if_neg k1, if_neg k2, if_neg k3, if_pos k4]
              exact ⟨fun ⟨n, h1, h2⟩ => ⟨n, h1, .inl m1, h2⟩, fun ⟨n, h1, _, h2⟩ => ⟨n, h1, h2⟩⟩
            · rw [if_neg m1] at hfu ⊢
              refine (upTo_does (head_does x l hkid) (head_gr l) mn.toNat t mx.toNat 0 f y hf ht hfu).to fun a b => ?_
              rw [Tk, if_neg k1, if_neg k2, if_neg k3, if_pos k4, ut_pow mn.toNat mx.toNat 0 a b (by omega)]
              exact ⟨fun ⟨n, h1, h2, h3⟩ => ⟨n, by omega, .inr h1, h3⟩, fun ⟨n, h1, h2, h3⟩ => ⟨n, h2.elim (fun e => absurd e m1) id, by omega, h3⟩⟩
          · rw [if_neg k4] at hfu ⊢
            exact (fr_none x y f t).to fun a b => by rw [Tk, if_neg k1, if_neg k2, if_neg k3, if_neg k4]
theorem row_does (x : Tx) : ∀ (l : List Tr), goods l = true → ∀ (f t : Nat) (y : St), f < y.n → t < y.n → ((rowT l f y).2.free (rowT l f y).1 t).full = false → Frx x y ((rowT l f y).2.free (rowT l f y).1 t) f t (TkC x l)
  | [], _, f, t, y, hf, ht, _ => (fr_free x y f t).to fun a b => by rw [TkC]
  | u :: l, hg, f, t, y, hf, ht, hfu => by
    rw [goods, Bool.and_eq_true] at hg
    rw [rowT] at hfu ⊢
    have g1 := (row_gr l y.n (layT u f y.n y.new)).trans (ge_free _ (rowT l y.n (layT u f y.n y.new)).1 t)
    have a1 := lay_does x u hg.1 f y.n y.new (by show f < y.n + 1; omega) (by show y.n < y.n + 1; omega) (g1.full hfu)
    have g3 : y.n + 1 ≤ (layT u f y.n y.new).n := (lay_gr u f y.n y.new).1
    have a2 := row_does x l hg.2 y.n t (layT u f y.n y.new) (by omega) (by omega) hfu
    exact (Frx.seq a1 a2 hf ht).to fun a b => by rw [TkC]; rfl
theorem alt_does (x : Tx) : ∀ (l : List Tr), goods l = true → Does x (altT l) (TkA x l)
  | [], _ => fun f t y hf ht _ => (fr_none x y f t).to fun a b => by rw [TkA]
  | u :: l, hg => by
    rw [goods, Bool.and_eq_true] at hg
    intro f t y hf ht hfu
    rw [altT] at hfu ⊢
    have a1 := lay_does x u hg.1 f t y hf ht ((alt_gr l f t _).full hfu)
    have g3 : y.n ≤ (layT u f t y).n := (lay_gr u f t y).1
    have a2 := alt_does x l hg.2 f t (layT u f t y) (by omega) (by omega) hfu
    exact (a1.or a2 hf ht).to fun a b => by rw [TkA]; rfl
theorem head_does (x : Tx) : ∀ (l : List Tr), goods l = true → Does x (headT l) (TkH x l)
  | [], _ => fun f t y hf ht _ => (fr_none x y f t).to fun a b => by rw [TkH]
  | u :: l, hg => by
    rw [goods, Bool.and_eq_true] at hg
    intro f t y hf ht hfu
    rw [headT] at hfu ⊢
    exact (lay_does x u hg.1 f t y hf ht hfu).to fun a b => by rw [TkH]
end
end Go.Proofs.YthmecbonjkcnmaaGreat.nb

namespace Go.Proofs.YthmecbonjkcnmaaGreat.nb
open st (Tr Q4 nodesOf goods okNode)
open nf (Ed Nfa)
set_option linter.unusedVariables false

theorem pa_mc {T : Nat → Nat → Prop} (i j : Nat) : Pa (Un (fun _ _ => False) (Mc 0 1 T)) (0, i) (1, j) ↔ T i j := by
  constructor
  · intro h
    cases h with
    | step r h =>
      rcases r with r | ⟨h1, h2, h3⟩
      · exact r.elim
      · rename_i b
        obtain ⟨b1, b2⟩ := b
        simp only at h2 h3
        subst h2
        cases h with
        | refl => exact h3
        | step r _ =>
          rcases r with r | ⟨h4, _⟩
          · exact r.elim
          · simp at h4
  · intro h
    exact .one (.inr ⟨rfl, rfl, h⟩)
theorem built_pa (x : Tx) (t : Tr) (hg : t.good = true) (hf : (built t).full = false) (i j : Nat) : Pa (EdR x (built t).es) (0, i) (1, j) ↔ Tk x t i j := by
  obtain ⟨new, h⟩ := lay_does x t hg 0 1 ⟨2, []⟩ (by simp) (by simp) hf
  have e : (built t).es = new := by
    have := h.es
    show (layT t 0 1 ⟨2, []⟩).es = new
    simpa using this
  have h1 := h.same (fun _ _ => False) (fun _ _ h => h.elim) (0, i) (1, j) (fun h => by have := h.1; simp at this) (fun h => by have := h.1; simp at this)
  rw [e, ← pa_mc (T := Tk x t) i j, ← h1]
  exact Pa.congr fun a b => ⟨fun h => .inr h, fun h => h.elim (fun h => h.elim) id⟩
theorem pow_range {x : Tx} {T : Nat → Nat → Prop} (h : ∀ i j, T i j → i ≤ j ∧ (i ≤ x.len → j ≤ x.len)) : ∀ n i j, Pow T n i j → i ≤ j ∧ (i ≤ x.len → j ≤ x.len)
  | 0, i, j, e => by cases e; exact ⟨Nat.le_refl _, id⟩
  | n + 1, i, j, ⟨k, h1, h2⟩ => by
    have a := h i k h1
    have b := pow_range h n k j h2
    exact ⟨by omega, fun c => b.2 (a.2 c)⟩
mutual
theorem tk_range (x : Tx) : ∀ (t : Tr) (i j : Nat), Tk x t i j → i ≤ j ∧ (i ≤ x.len → j ≤ x.len)
  | .node k q mn mx l, i, j, h => by
    rw [Tk] at h
    split at h
    · obtain ⟨h1, h2, _⟩ := h
      exact ⟨by omega, fun _ => by omega⟩
    · split at h
      · exact tkC_range x l i j h
      · split at h
        · exact tkA_range x l i j h
        · split at h
          · obtain ⟨n, _, _, hp⟩ := h
            exact pow_range (tkH_range x l) n i j hp
          · exact h.elim
theorem tkC_range (x : Tx) : ∀ (l : List Tr) (i j : Nat), TkC x l i j → i ≤ j ∧ (i ≤ x.len → j ≤ x.len)
  | [], i, j, h => by
    rw [TkC] at h
    subst h
    exact ⟨Nat.le_refl _, id⟩
  | t :: l, i, j, h => by
    rw [TkC] at h
    obtain ⟨k, h1, h2⟩ := h
    have a := tk_range x t i k h1
    have b := tkC_range x l k j h2
    exact ⟨by omega, fun c => b.2 (a.2 c)⟩
theorem tkA_range (x : Tx) : ∀ (l : List Tr) (i j : Nat), TkA x l i j → i ≤ j ∧ (i ≤ x.len → j ≤ x.len)
  | [], i, j, h => by
    rw [TkA] at h
    exact h.elim
  | t :: l, i, j, h => by
    rw [TkA] at h
    rcases h with h | h
    · exact tk_range x t i j h
    · exact tkA_range x l i j h
theorem tkH_range (x : Tx) : ∀ (l : List Tr) (i j : Nat), TkH x l i j → i ≤ j ∧ (i ≤ x.len → j ≤ x.len)
  | [], i, j, h => by
    rw [TkH] at h
    exact h.elim
  | t :: _, i, j, h => by
    rw [TkH] at h
    exact tk_range x t i j h
end
end Go.Proofs.YthmecbonjkcnmaaGreat.nb
