/-
  Rows of ints that a call has made; the web of an nfa's edges (nfa.weave).
-/
import Derived.Test.YthknhbmibmndoaaNa
import Derived.Test.YthknhbmibmndoaaNs
import Derived.Deep.RegionHeld3
import Derived.BigQuiet
import Derived.Deep.QuietTactic
import Derived.Deep.RegionLaw
import Derived.Deep.OwnRows
namespace Go.Proofs.Ythknhbmibmndoaa.nf
open Go.ChangeShapes Go.WideShapes Go.ChangeAt Go.RowKit
set_option linter.unusedVariables false

def icells (l : List Int) : Array Value := (l.map fun x => Value.int .i64 x).toArray
def IRow (w : World) (g : Nat) (l : List Int) : Prop := w.heap[g]? = some (.cells (icells l) 3 (0, 0))
theorem set_heap (w : World) (g : Nat) (cs : Array Value) (T : TypeId) (i : Nat) (x : Value) (h : w.heap[g]? = some (.cells cs T (0, 0))) : (w.setCell ⟨g, i, none⟩ x).heap[g]? = some (.cells (cs.setIfInBounds i x) T (0, 0)) := by
  show (w.heap.modify g _)[g]? = _
  rw [Array.getElem?_modify, if_pos rfl, h]
  rfl
section
variable {w w' : World} {g : Nat} {l : List Int}
theorem IRow.lt (h : IRow w g l) : g < w.heap.size := (Array.getElem?_eq_some_iff.1 h).1
theorem IRow.later (h : IRow w g l) (b : Below w.heap.size w w') : IRow w' g l := by unfold IRow; rw [b.block g h.lt]; exact h
theorem IRow.keep (h : IRow w g l) (e : w'.heap[g]? = w.heap[g]?) : IRow w' g l := e.trans h
theorem IRow.cell (h : IRow w g l) (i : Nat) (hi : i < l.length) : w.cell? ⟨g, i, none⟩ = some (.int .i64 l[i]) := by
  rw [Lib.cell_of_heap h]
  simp [icells, hi]
theorem IRow.fz (h : IRow w g l) (i : Nat) : w.frozen? ⟨g, i, none⟩ = false := Lib.frozen_of_heap h i
theorem IRow.put (h : IRow w g l) (i : Nat) (x : Int) : IRow (w.setCell ⟨g, i, none⟩ (.int .i64 x)) g (l.set i x) := by
  unfold IRow
  rw [set_heap w g _ _ i _ h]
  congr 2
  simp [icells]
theorem IRow.other (h : IRow w g l) {k : Nat} (hne : g ≠ k) (i : Nat) (v : Value) : IRow (w.setCell ⟨k, i, none⟩ v) g l := (Below.heap_setCell _ _ _ g (fun e => hne e)).trans h
theorem IRow.alloc (h : IRow w g l) (o : Obj) : IRow (w.alloc o) g l := (Below.heap_alloc _ _ _ h.lt).trans h
end
theorem info3 : (Try.prog.info? 3).map (fun i => (i.zero, i.size, i.bytes)) = some (some (.int .i64 0), 1, 8) := by kernel_rfl
theorem icells_made (n : Nat) : madeCells #[.int .i64 0] n = icells (List.replicate n 0) := by
  apply Array.toList_inj.1
  rw [toList_madeCells_one]
  simp [icells]
theorem make25 (n : Nat) (hn : n ≤ 1000000) (W : World) : (Instr.makeSlice 25 (.int .i64 (n : Int)) (.int .i64 (n : Int))).run Try.prog W = .ok (.slice (some ⟨W.heap.size, 0, none⟩) n n) (W.alloc (.cells (icells (List.replicate n 0)) 3)) := by
  rw [← icells_made]
  exact run_make_row' (P := Try.prog) 25 3 (.int .i64 0) 8 Try.underlying25 info3 rfl .i64 .i64 n (by omega) (by omega) W
theorem irow_new (W : World) (l : List Int) : IRow (W.alloc (.cells (icells l) 3)) W.heap.size l := heap_alloc_new W _

theorem five (h : Array Obj) (a b c d e : Obj) : (((((h.push a).push b).push c).push d).push e)[h.size]? = some a ∧ (((((h.push a).push b).push c).push d).push e)[h.size + 1]? = some b ∧ (((((h.push a).push b).push c).push d).push e)[h.size + 1 + 1]? = some c ∧ (((((h.push a).push b).push c).push d).push e)[h.size + 1 + 1 + 1]? = some d ∧ (((((h.push a).push b).push c).push d).push e)[h.size + 1 + 1 + 1 + 1]? = some e := by
  refine ⟨?_, ?_, ?_, ?_, ?_⟩ <;> simp only [Array.getElem?_push, Array.size_push] <;> (repeat (first | rw [if_pos rfl] | rw [if_pos trivial] | rw [if_neg (by omega)]))
theorem below_five (w : World) (a b c d e : Obj) : Below w.heap.size w (((((w.alloc a).alloc b).alloc c).alloc d).alloc e).drew :=
  (((((((Below.refl _ w).alloc (Nat.le_refl _) _).alloc (by simp) _).alloc (by simp; omega) _).alloc (by simp; omega) _).alloc (by simp; omega) _)).drew
structure Wv (w : World) (x : Nfa) (n : Nat) (o : Option Addr) (cap gw fb nb : Nat) (F G : List Int) (W : World) : Prop where
  bx : Box W w.heap.size (n : Int) x.s x.e o x.edges.length cap
  rs : W.heap[w.heap.size + 1]? = some (.cells #[.slice none 0 0, .slice none 0 0, .slice none 0 0] 48 (0, 0))
  wb : W.heap[gw]? = some (.cells #[.slice o x.edges.length cap, .slice (some ⟨fb, 0, none⟩) n n, .slice (some ⟨nb, 0, none⟩) x.edges.length x.edges.length] 48 (0, 0))
  fr : IRow W fb F
  nr : IRow W nb G
  ne : fb ≠ nb
  lw : w.heap.size + 1 < gw
  lf : w.heap.size + 1 < fb
  ln : w.heap.size + 1 < nb
  wf : gw ≠ fb
  wn : gw ≠ nb
  be : Below w.heap.size w W
section
variable {w : World} {x : Nfa} {n : Nat} {o : Option Addr} {cap gw fb nb : Nat} {F G : List Int} {W : World}
theorem Wv.c0 (h : Wv w x n o cap gw fb nb F G W) : W.cell? ⟨gw, 0, none⟩ = some (.slice o x.edges.length cap) := by rw [Lib.cell_of_heap h.wb]; rfl
theorem Wv.c1 (h : Wv w x n o cap gw fb nb F G W) : W.cell? ⟨gw, 1, none⟩ = some (.slice (some ⟨fb, 0, none⟩) n n) := by rw [Lib.cell_of_heap h.wb]; rfl
theorem Wv.c2 (h : Wv w x n o cap gw fb nb F G W) : W.cell? ⟨gw, 2, none⟩ = some (.slice (some ⟨nb, 0, none⟩) x.edges.length x.edges.length) := by rw [Lib.cell_of_heap h.wb]; rfl
theorem Wv.alloc (h : Wv w x n o cap gw fb nb F G W) (ob : Obj) : Wv w x n o cap gw fb nb F G (W.alloc ob) :=
  ⟨h.bx.later (below_alloc _ _), (Below.heap_alloc _ _ _ (Array.getElem?_eq_some_iff.1 h.rs).1).trans h.rs, (Below.heap_alloc _ _ _ (Array.getElem?_eq_some_iff.1 h.wb).1).trans h.wb, h.fr.alloc _, h.nr.alloc _, h.ne, h.lw, h.lf, h.ln, h.wf, h.wn, h.be.alloc h.be.size _⟩
theorem Wv.drew (h : Wv w x n o cap gw fb nb F G W) : Wv w x n o cap gw fb nb F G W.drew := ⟨h.bx, h.rs, h.wb, h.fr, h.nr, h.ne, h.lw, h.lf, h.ln, h.wf, h.wn, h.be.drew⟩
theorem Wv.setF (h : Wv w x n o cap gw fb nb F G W) (i : Nat) (v : Int) : Wv w x n o cap gw fb nb (F.set i v) G (W.setCell ⟨fb, i, none⟩ (.int .i64 v)) :=
  ⟨(Below.heap_setCell _ _ _ _ (fun e => by have := h.lf; simp at e; omega)).trans h.bx, (Below.heap_setCell _ _ _ _ (fun e => by have := h.lf; simp at e; omega)).trans h.rs, (Below.heap_setCell _ _ _ _ (fun e => h.wf e)).trans h.wb, h.fr.put i v, h.nr.other h.ne.symm i _, h.ne, h.lw, h.lf, h.ln, h.wf, h.wn, h.be.setCell (p := ⟨fb, i, none⟩) (by have := h.lf; show w.heap.size ≤ fb; omega) _⟩
theorem Wv.setN (h : Wv w x n o cap gw fb nb F G W) (i : Nat) (v : Int) : Wv w x n o cap gw fb nb F (G.set i v) (W.setCell ⟨nb, i, none⟩ (.int .i64 v)) :=
  ⟨(Below.heap_setCell _ _ _ _ (fun e => by have := h.ln; simp at e; omega)).trans h.bx, (Below.heap_setCell _ _ _ _ (fun e => by have := h.ln; simp at e; omega)).trans h.rs, (Below.heap_setCell _ _ _ _ (fun e => h.wn e)).trans h.wb, h.fr.other h.ne i _, h.nr.put i v, h.ne, h.lw, h.lf, h.ln, h.wf, h.wn, h.be.setCell (p := ⟨nb, i, none⟩) (by have := h.ln; show w.heap.size ≤ nb; omega) _⟩
end
def f1 (n i : Nat) : List Int := List.replicate i (-1) ++ List.replicate (n - i) 0
theorem f1_len (n i : Nat) (h : i ≤ n) : (f1 n i).length = n := by unfold f1; simp; omega
theorem f1_set (n i : Nat) (h : i < n) : (f1 n i).set i (-1) = f1 n (i + 1) := by
  unfold f1
  rw [List.set_append_right _ _ (by simp)]
  simp only [List.length_replicate, Nat.sub_self]
  have e : n - i = (n - (i + 1)) + 1 := by omega
  rw [e, List.replicate_succ, List.set_cons_zero, List.replicate_succ' (n := i), List.append_assoc]
  rfl
def firsts (l : List Ed) (n i : Nat) : List Int := (List.range n).map fun s : Nat => before l i (s : Int)
def nexts (l : List Ed) (i : Nat) : List Int := (List.range l.length).map fun j => if j < i then before l j (l[j]?.map (·.fr) |>.getD 0) else 0
theorem firsts_zero (l : List Ed) (n : Nat) : f1 n n = firsts l n 0 := by
  unfold f1 firsts
  rw [Nat.sub_self, List.replicate_zero, List.append_nil]
  apply List.ext_getElem
  · simp
  · intro i h1 h2
    simp [before]
theorem nexts_zero (l : List Ed) : List.replicate l.length 0 = nexts l 0 := by
  unfold nexts
  apply List.ext_getElem
  · simp
  · intro i h1 h2
    simp
theorem firsts_len (l : List Ed) (n i : Nat) : (firsts l n i).length = n := by unfold firsts; simp
theorem nexts_len (l : List Ed) (i : Nat) : (nexts l i).length = l.length := by unfold nexts; simp
theorem firsts_set (l : List Ed) (n i k : Nat) (h : i < l.length) (hk : l[i].fr = (k : Int)) : (firsts l n i).set k (i : Int) = firsts l n (i + 1) := by
  unfold firsts
  apply List.ext_getElem
  · simp
  · intro j h1 h2
    rw [List.getElem_set]
    simp only [List.getElem_map, List.getElem_range]
    by_cases e : k = j
    · subst e
      rw [if_pos rfl, ← hk, before_here l i h]
    · rw [if_neg e, before_other l i _ h (by rw [hk]; omega)]
theorem nexts_set (l : List Ed) (i : Nat) (h : i < l.length) : (nexts l i).set i (before l i l[i].fr) = nexts l (i + 1) := by
  unfold nexts
  apply List.ext_getElem
  · simp
  · intro j h1 h2
    rw [List.getElem_set]
    simp only [List.getElem_map, List.getElem_range]
    by_cases e : i = j
    · subst e
      rw [if_pos rfl, if_pos (by omega), List.getElem?_eq_getElem h]
      rfl
    · rw [if_neg e]
      by_cases hj : j < i
      · rw [if_pos hj, if_pos (by omega)]
      · rw [if_neg hj, if_neg (by omega)]
theorem firsts_at (l : List Ed) (n i k : Nat) (h : k < n) : (firsts l n i)[k]'(by rw [firsts_len]; exact h) = before l i (k : Int) := by unfold firsts; simp

def WeaveIs (x : Nfa) (n : Nat) : Prop := ∀ o cap w, Eds w o cap x.edges → Calls Try.prog 29 #[nfaV x.n x.s x.e o x.edges.length cap] w fun e w' => ∃ fb nb, e = .returned (.agg #[.slice o x.edges.length cap, .slice (some ⟨fb, 0, none⟩) n n, .slice (some ⟨nb, 0, none⟩) x.edges.length x.edges.length]) ∧ IRow w' fb (firsts x.edges n x.edges.length) ∧ IRow w' nb (nexts x.edges x.edges.length) ∧ fb ≠ nb ∧ w.heap.size ≤ fb ∧ w.heap.size ≤ nb ∧ Below w.heap.size w w'
set_option maxHeartbeats 4000000 in
set_option maxRecDepth 100000 in
theorem weave_any (x : Nfa) (n : Nat) (hx : x.n = (n : Int)) (hn : n ≤ 2000) (hm : x.edges.length ≤ 16000) (hfr : ∀ i (h : i < x.edges.length), 0 ≤ x.edges[i].fr ∧ x.edges[i].fr < (n : Int)) : WeaveIs x n := by
  intro o cap w hE
  have mk1 := make25 n (by omega)
  have mk2 := make25 x.edges.length (by omega)
  have hcap := hE.fit
  have htop := hE.top
  have HE := (show Hid (Eds w o cap x.edges) from hE)
  have HFR := (show Hid (∀ i (h : i < x.edges.length), 0 ≤ x.edges[i].fr ∧ x.edges[i].fr < (n : Int)) from hfr)
  rw [hx]
  clear hE hx hfr
  go_enter Try.func29, Try.ntmps29
  go_wp2_with (fail)
  rename_i K hK
  have key : ∀ gw fb nb W, Wv w x n o cap gw fb nb (f1 n 0) (List.replicate x.edges.length 0) W → K { tmps := #[nfaV (n : Int) x.s x.e o x.edges.length cap, .pointer (some ⟨w.heap.size, 0, none⟩), .pointer (some ⟨w.heap.size + 1, 0, none⟩), .pointer (some ⟨gw, 0, none⟩), undef, undef, undef, .pointer (some ⟨w.heap.size, 3, none⟩), .slice o x.edges.length cap, .pointer (some ⟨w.heap.size, 0, none⟩), .int .i64 (n : Int), .slice (some ⟨fb, 0, none⟩) n n, .pointer (some ⟨w.heap.size, 3, none⟩), .slice o x.edges.length cap, .int .i64 (x.edges.length : Int), .slice (some ⟨nb, 0, none⟩) x.edges.length x.edges.length, .agg #[.slice o x.edges.length cap, .slice (some ⟨fb, 0, none⟩) n n, .slice (some ⟨nb, 0, none⟩) x.edges.length x.edges.length], undef, undef, undef, undef, undef, undef, undef, undef, undef, undef, undef, undef, undef, undef, undef, undef, undef, undef, undef, undef, undef, undef, undef, undef, undef, undef, undef, undef, undef, undef, undef, undef, undef, undef, undef, undef, undef], defers := [] } W := by
    intro gw fb nb W HW0
    refine hK _ _ ?_
    clear hK K mk1 mk2
    have HW := (show Hid (Wv w x n o cap gw fb nb (f1 n 0) (List.replicate x.edges.length 0) W) from HW0)
    have k1 := HW0.c1
    clear HW0
    go_wp2_with (fail)
    go_loopw [20] (fun y wr => ∃ i : Nat, y = .int .i64 i ∧ i ≤ n ∧ Hid (Wv w x n o cap gw fb nb (f1 n i) (List.replicate x.edges.length 0) wr)) (fun y _ => n - (intOf y).toNat)
    case atStart => exact ⟨0, rfl, by omega, HW⟩
    case round =>
      clear HW k1
      obtain ⟨i, rfl, hi, HI⟩ := hrel
      by_cases hlt : i < n
      · have k1 := HI.out.c1
        have hl : i < (f1 n i).length := by rw [f1_len n i hi]; exact hlt
        have k2 := HI.out.fr.cell i hl
        have k3 := HI.out.fr.fz i
        have HN : Hid (Wv w x n o cap gw fb nb (f1 n (i + 1)) (List.replicate x.edges.length 0) (wr.setCell ⟨fb, i, none⟩ (.int .i64 (-1)))) := by have := HI.out.setF i (-1); rw [f1_set n i hlt] at this; exact this
        clear HI
        generalize (f1 n i)[i] = z at *
        go_wp2_with (fail)
        go_roundw
        case rel => exact ⟨i + 1, by go_num, by omega, HN⟩
        case measure => simp [intOf]; omega
      · have HI2 : Hid (Wv w x n o cap gw fb nb (firsts x.edges n 0) (nexts x.edges 0) wr) := by
          have := HI.out
          have e : i = n := by omega
          rw [e, firsts_zero x.edges n, nexts_zero] at this
          exact this
        clear HI
        have k0 := HI2.out.bx.c3
        go_wp2_with (fail)
        go_loopw [31] (fun y wr => ∃ i : Nat, y = .int .i64 i ∧ i ≤ x.edges.length ∧ Hid (Wv w x n o cap gw fb nb (firsts x.edges n i) (nexts x.edges i) wr)) (fun y _ => x.edges.length - (intOf y).toNat)
        case atStart => exact ⟨0, rfl, by omega, HI2⟩
        case round =>
          clear HI2 k0
          obtain ⟨i, rfl, hi, HI⟩ := hrel
          by_cases hlt : i < x.edges.length
          · obtain ⟨b, off, rfl, hb, hed⟩ := HE.out.lie i hlt
            have hed2 := hed.same (HI.out.be.block b hb)
            obtain ⟨c0, c1, c2, c3, c4, c5, c6⟩ := hed2
            have hf := HFR.out i hlt
            have hset := fun k hk => firsts_set x.edges n i k hlt hk
            have nset := nexts_set x.edges i hlt
            obtain ⟨y, hy⟩ : ∃ y, y = x.edges[i] := ⟨_, rfl⟩
            rw [← hy] at c0 c1 c2 c3 c4 c5 c6 hf nset
            obtain ⟨k, hk⟩ : ∃ k : Nat, y.fr = (k : Int) := ⟨y.fr.toNat, by omega⟩
            have hkn : k < n := by omega
            have HS : Hid ((firsts x.edges n i).set k (i : Int) = firsts x.edges n (i + 1)) := hset k (by rw [← hy]; exact hk)
            rw [hk] at nset
            have HG : Hid ((nexts x.edges i).set i (before x.edges i (k : Int)) = nexts x.edges (i + 1)) := nset
            rw [hk] at c0
            have A := HI.out.alloc (.cells #[.int .i64 (k : Int), .int .i64 y.to, .bool y.free, .int .u64 y.a, .int .u64 y.b, .int .u64 y.c, .int .u64 y.d] 62)
            have z := firsts_at x.edges n i k hkn
            have q1 := A.fr.cell k (by rw [firsts_len]; exact hkn)
            rw [z] at q1
            have q0 := A.fr.fz k
            have q2 := A.nr.cell i (by rw [nexts_len]; exact hlt)
            have q3 := A.nr.fz i
            have q4 := A.c1
            have q5 := A.c2
            have A2 := A.setN i (before x.edges i (k : Int))
            have r1 := A2.c1
            have r2 := A2.fr.cell k (by rw [firsts_len]; exact hkn)
            have r3 := A2.fr.fz k
            have A3 := A2.setF k (i : Int)
            rw [HS.out, HG.out] at A3
            have HA3 := (show Hid _ from A3)
            have hgb : wr.heap.size ≠ nb := by have := HI.out.nr.lt; omega
            clear hset nset HI A A2 A3 HS HG hed hy z hk hf
            generalize (nexts x.edges i)[i]'_ = z1 at *
            generalize (firsts x.edges n i)[k]'_ = z2 at *
            generalize before x.edges i (k : Int) = bf at *
            go_wp2_with (fail)
            go_region
            all_goals go_wp2_with (fail)
            all_goals go_roundw
            case rel => exact ⟨i + 1, by go_num, by omega, HA3.out.drew⟩
            case measure => simp [intOf]; omega
          · have HF : Hid (Wv w x n o cap gw fb nb (firsts x.edges n x.edges.length) (nexts x.edges x.edges.length) wr) := by
              have e : i = x.edges.length := by omega
              rw [e] at HI
              exact HI
            have q0 := HF.out.c0
            have q1 := HF.out.c1
            have q2 := HF.out.c2
            have rs := HF.out.rs
            have t0 : wr.cell? ⟨w.heap.size + 1, 0, none⟩ = some (.slice none 0 0) := by rw [Lib.cell_of_heap rs]; rfl
            have t1 : wr.cell? ⟨w.heap.size + 1, 1, none⟩ = some (.slice none 0 0) := by rw [Lib.cell_of_heap rs]; rfl
            have t2 : wr.cell? ⟨w.heap.size + 1, 2, none⟩ = some (.slice none 0 0) := by rw [Lib.cell_of_heap rs]; rfl
            have f0 : ∀ k, wr.frozen? ⟨w.heap.size + 1, k, none⟩ = false := fun k => Lib.frozen_of_heap rs k
            clear HI rs
            go_wp2_with (fail)
            refine bodyPost_ret (v := .agg #[.slice o x.edges.length cap, .slice (some ⟨fb, 0, none⟩) n n, .slice (some ⟨nb, 0, none⟩) x.edges.length x.edges.length]) (results_cell_row Try.results29 _ _ (w.heap.size + 1) 48 _ (0, 0) _ rfl ((set_heap _ _ _ _ 2 _ (set_heap _ _ _ _ 1 _ (set_heap wr _ _ _ 0 _ HF.out.rs)))) Try.underlying48 rfl (by kernel_rfl)) rfl ?_
            exact ⟨fb, nb, rfl, ((HF.out.fr.other (fun e => by have := HF.out.lf; omega) _ _).other (fun e => by have := HF.out.lf; omega) _ _).other (fun e => by have := HF.out.lf; omega) _ _, ((HF.out.nr.other (fun e => by have := HF.out.ln; omega) _ _).other (fun e => by have := HF.out.ln; omega) _ _).other (fun e => by have := HF.out.ln; omega) _ _, HF.out.ne, by have := HF.out.lf; omega, by have := HF.out.ln; omega, ((HF.out.be.setCell (p := ⟨w.heap.size + 1, 0, none⟩) (by show w.heap.size ≤ w.heap.size + 1; omega) _).setCell (p := ⟨w.heap.size + 1, 1, none⟩) (by show w.heap.size ≤ w.heap.size + 1; omega) _).setCell (p := ⟨w.heap.size + 1, 2, none⟩) (by show w.heap.size ≤ w.heap.size + 1; omega) _⟩
  go_region
  all_goals (refine key _ _ _ _ (Wv.mk ?_ ?_ ?_ ?_ ?_ ?_ ?_ ?_ ?_ ?_ ?_ ?_))
  all_goals first | omega | exact below_five _ _ _ _ _ _ | exact (five w.heap _ _ _ _ _).1 | exact (five w.heap _ _ _ _ _).2.1 | exact (five w.heap _ _ _ _ _).2.2.1 | exact (five w.heap _ _ _ _ _).2.2.2.1 | exact (five w.heap _ _ _ _ _).2.2.2.2
end Go.Proofs.Ythknhbmibmndoaa.nf
