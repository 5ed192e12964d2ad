/-
  Texts put together: Contracts over this program: the nfa's builder: full, state, free, over. Contracts over this program: the nfa's builder: over. Contracts over this program: the nfa's builder: one; what laying a tree asks and gives. Contracts over this program: the nfa's builder: row.
-/
import Derived.Test.YthmecbonjkcnmaaGreatM00
import Derived.Test.YthmecbonjkcnmaaGreatM01
import Derived.Test.YthmecbonjkcnmaaGreatM02
import Derived.WalkKit
import Derived.Deep.RegionLaw
import Derived.Test.YthmecbonjkcnmaaGreatM08
namespace Go.Proofs.YthmecbonjkcnmaaGreat.nb
open Go.ChangeShapes Go.WideShapes Go.ChangeAt Go.RowKit
open st (Tr Q4 nodesOf goods okNode Is)
open nf (Ed)
set_option linter.unusedVariables false
set_option maxRecDepth 100000

def edC (e : Ed) : List Value := [.int .i64 e.fr, .int .i64 e.to, .bool e.free, .int .u64 (e.a : Int), .int .u64 (e.b : Int), .int .u64 (e.c : Int), .int .u64 (e.d : Int)]
def edsC (l : List Ed) : List Value := l.flatMap edC
theorem edsC_snoc (l : List Ed) (e : Ed) : edsC (l ++ [e]) = edsC l ++ edC e := by simp [edsC]
/-- the builder's cell, and the edges that it owns -/
structure Bx (w : World) (B g : Nat) (x : St) (v : Value) : Prop where
  bg : B ≤ g
  blk : w.heap[g]? = some (.cells #[.int .i64 (x.n : Int), .int .i64 0, .int .i64 1, v] 113 (0, 0))
  own : w.ownsRow B 132 7 v x.es.length (edsC x.es)
/-- what laying changes: the builder's cell and its row -/
structure Mv (g : Nat) (v v' : Value) (W W' : World) : Prop where
  os : W'.os = W.os
  tape : W'.tape = W.tape
  output : W'.output = W.output
  size : W.heap.size ≤ W'.heap.size
  block : ∀ j, j < W.heap.size → j ≠ g → some j ≠ v.ownBlock → W'.heap[j]? = W.heap[j]?
  own : ∀ k, v'.ownBlock = some k → v.ownBlock = some k ∨ W.heap.size ≤ k
theorem Mv.refl (g : Nat) (v : Value) (W : World) : Mv g v v W W := ⟨rfl, rfl, rfl, Nat.le_refl _, fun _ _ _ _ => rfl, fun k h => .inl h⟩
theorem Mv.trans {g : Nat} {u v x : Value} {A B C : World} (h : Mv g u v A B) (k : Mv g v x B C) : Mv g u x A C :=
  ⟨k.os.trans h.os, k.tape.trans h.tape, k.output.trans h.output, Nat.le_trans h.size k.size, fun j h1 h2 h3 => by
    rw [← h.block j h1 h2 h3]
    refine k.block j (Nat.lt_of_lt_of_le h1 h.size) h2 fun e => ?_
    rcases h.own j e.symm with e2 | e2
    · exact h3 e2.symm
    · omega, fun j e => by
    rcases k.own j e with e2 | e2
    · exact h.own j e2
    · exact .inr (Nat.le_trans h.size e2)⟩
theorem Mv.of {g : Nat} {v : Value} {W W' : World} (b : Below W.heap.size W W') : Mv g v v W W' := ⟨b.os, b.tape, b.output, b.size, fun j h _ _ => b.block j h, fun k h => .inl h⟩
section
variable {w w' : World} {B g : Nat} {x : St} {v : Value}
theorem Bx.lt (h : Bx w B g x v) : g < w.heap.size := (Array.getElem?_eq_some_iff.1 h.blk).1
theorem Bx.c0 (h : Bx w B g x v) : w.cell? ⟨g, 0, none⟩ = some (.int .i64 (x.n : Int)) := by rw [Lib.cell_of_heap h.blk]; rfl
theorem Bx.c3 (h : Bx w B g x v) : w.cell? ⟨g, 3, none⟩ = some v := by rw [Lib.cell_of_heap h.blk]; rfl
theorem Bx.fz (h : Bx w B g x v) (i : Nat) : w.frozen? ⟨g, i, none⟩ = false := Lib.frozen_of_heap h.blk i
theorem Bx.ne (h : Bx w B g x v) : some g ≠ v.ownBlock := ow.type h.own h.blk (by decide)
theorem Bx.later (h : Bx w B g x v) (b : Below w.heap.size w w') : Bx w' B g x v := ⟨h.bg, (b.block g h.lt).trans h.blk, ow.later h.own b⟩
theorem Bx.form (h : Bx w B g x v) : ∃ o cap, v = .slice o x.es.length cap ∧ cap ≤ 9223372036854775807 := by
  obtain ⟨o, cap, e, _, h2⟩ := ow.form h.own
  exact ⟨o, cap, e, h2⟩
end
def FullIs (x : St) : Prop := ∀ B g v w, Bx w B g x v → Calls Tryz.prog 67 #[.pointer (some ⟨g, 0, none⟩)] w fun e w' => e = .returned (.bool x.full) ∧ w' = w
theorem full_any (x : St) (hn : x.n ≤ 1000000) (he : x.es.length ≤ 1000000) : FullIs x := by
  intro B g v w h
  have c0 := h.c0
  have c3 := h.c3
  obtain ⟨o, cap, rfl, _⟩ := h.form
  obtain ⟨n, es⟩ := x
  simp only at c0 c3 hn he
  have HE := (show Hid (St.full ⟨n, es⟩ = (decide (2000 < n) || decide (16000 < es.length))) from rfl)
  clear h
  generalize es.length = m at *
  by_cases h1 : 2000 < n
  · have HF := (show Hid (St.full ⟨n, es⟩ = true) from by show _ = _; rw [HE.out]; simp [h1])
    clear HE
    go_enter Tryz.func67, Tryz.ntmps67
    go_wp2
    go_ret
    exact ⟨by rw [HF.out]; rfl, rfl⟩
  · have HF := (show Hid (St.full ⟨n, es⟩ = (decide ((2000 : Int) < (n : Int)) || decide ((16000 : Int) < (m : Int)))) from by show _ = _; rw [HE.out]; congr 1 <;> (apply decide_eq_decide.2; omega))
    clear HE
    go_enter Tryz.func67, Tryz.ntmps67
    go_wp2
    go_ret
    exact ⟨by rw [HF.out]; rfl, rfl⟩
def StateIs (x : St) : Prop := ∀ B g v w, Bx w B g x v → Calls Tryz.prog 111 #[.pointer (some ⟨g, 0, none⟩)] w fun e w' => e = .returned (.int .i64 (x.n : Int)) ∧ Bx w' B g x.new v ∧ Mv g v v w w'
theorem state_any (x : St) (hn : x.n ≤ 1000000) : StateIs x := by
  intro B g v w h
  have c0 := h.c0
  have f0 := h.fz 0
  have c1 : (w.setCell ⟨g, 0, none⟩ (.int .i64 ((x.n : Int) + 1))).cell? ⟨g, 0, none⟩ = some (.int .i64 ((x.n : Int) + 1)) := by
    rw [Lib.cell_of_heap (st.set_heap1 w g _ _ 0 _ h.blk)]; rfl
  have HX := (show Hid (Bx (w.setCell ⟨g, 0, none⟩ (.int .i64 ((x.n : Int) + 1))) B g x.new v) from ⟨h.bg, by rw [st.set_heap1 w g _ _ 0 _ h.blk]; rfl, ow.keep h.own fun k hk => Below.heap_setCell _ _ _ k (fun e => h.ne (by have e' : k = g := e; rw [← e']; exact hk.symm))⟩)
  have HM := (show Hid (Mv g v v w (w.setCell ⟨g, 0, none⟩ (.int .i64 ((x.n : Int) + 1)))) from ⟨rfl, rfl, rfl, by simp, fun j _ h2 _ => Below.heap_setCell _ _ _ j (fun e => h2 e), fun k h => .inl h⟩)
  clear h
  go_enter Tryz.func111, Tryz.ntmps111
  go_wp2
  go_ret
  exact ⟨by go_num, HX.out, HM.out⟩
theorem info132 : (Tryz.prog.info? 132).map (fun i => (i.zero, i.size, i.bytes)) = some (some (.agg #[.int .i64 0, .int .i64 0, .bool false, .int .u64 0, .int .u64 0, .int .u64 0, .int .u64 0]), 7, 56) := by kernel_rfl
theorem new7 (W : World) (e : Ed) : ∀ j u, (edC e)[j]? = some u → (W.alloc (.cells (edC e).toArray 132)).cell? ((⟨W.heap.size, 0, none⟩ : Addr).add j) = some u := fun j u hu => by
  have : ((⟨W.heap.size, 0, none⟩ : Addr).add j) = ⟨W.heap.size, 0 + j, none⟩ := by simp [Addr.add]; omega
  rw [this, Nat.zero_add, Lib.cell_of_heap (World.alloc_heap_new W _)]
  simpa using hu
theorem one7 (e : Ed) : ∀ u ∈ edC e, u.oneCell' = true := fun u hu => by
  simp [edC] at hu
  rcases hu with rfl | rfl | rfl | rfl | rfl | rfl | rfl <;> rfl
/-- an edge more -/
theorem Bx.put {w w2 w3 : World} {B g : Nat} {x : St} {v : Value} (h : Bx w B g x v) (c : Below w.heap.size w w2) (e : Ed) {g' cap' : Nat} (ho : w3.ownsRow B 132 7 (.slice (some ⟨g', 0, none⟩) (x.es.length + 1) cap') (x.es.length + 1) (edsC x.es ++ edC e)) (hg : w2.grownBy w3 v.ownBlock) (hw : some g' = v.ownBlock ∨ w2.heap.size ≤ g') :
    (w3.cell? ⟨g, 3, none⟩ = some v ∧ w3.frozen? ⟨g, 3, none⟩ = false) ∧ Bx (w3.setCell ⟨g, 3, none⟩ (.slice (some ⟨g', 0, none⟩) (x.es.length + 1) cap')) B g ⟨x.n, x.es ++ [e]⟩ (.slice (some ⟨g', 0, none⟩) (x.es.length + 1) cap') ∧ Mv g v (.slice (some ⟨g', 0, none⟩) (x.es.length + 1) cap') w (w3.setCell ⟨g, 3, none⟩ (.slice (some ⟨g', 0, none⟩) (x.es.length + 1) cap')) := by
  have b3 : w3.heap[g]? = some (.cells #[.int .i64 (x.n : Int), .int .i64 0, .int .i64 1, v] 113 (0, 0)) := (hg.block g (Nat.lt_of_lt_of_le h.lt c.size) h.ne).trans ((c.block g h.lt).trans h.blk)
  have nb : some g ≠ (Value.slice (some ⟨g', 0, none⟩) (x.es.length + 1) cap').ownBlock := ow.type ho b3 (by decide)
  refine ⟨⟨by rw [Lib.cell_of_heap b3]; rfl, Lib.frozen_of_heap b3 3⟩, ⟨h.bg, by rw [st.set_heap1 w3 g _ _ 3 _ b3]; rfl, ?_⟩, ⟨hg.os.trans c.os, hg.tape.trans c.tape, hg.output.trans c.output, by have := c.size; have := hg.size; simp; omega, fun j h1 h2 h3 => ?_, fun k e2 => ?_⟩⟩
  · rw [edsC_snoc, List.length_append]
    exact ow.keep ho fun k hk => Below.heap_setCell _ _ _ k (fun e2 => nb (by have e' : k = g := e2; rw [← e']; exact hk.symm))
  · rw [Below.heap_setCell _ _ _ j (fun e2 => h2 e2), hg.block j (Nat.lt_of_lt_of_le h1 c.size) h3, c.block j h1]
  · have e3 : g' = k := by simpa [Value.ownBlock] using e2
    subst e3
    rcases hw with e4 | e4
    · exact .inl e4.symm
    · exact .inr (Nat.le_trans c.size e4)
def FreeIs (x : St) (f t : Nat) : Prop := ∀ B g v w, Bx w B g x v → B ≤ w.heap.size → Calls Tryz.prog 91 #[.pointer (some ⟨g, 0, none⟩), .int .i64 (f : Int), .int .i64 (t : Int)] w fun e w' => e = .returned (.tuple #[]) ∧ ∃ v', Bx w' B g (x.free f t) v' ∧ Mv g v v' w w'
theorem free_any (x : St) (f t : Nat) (he : x.es.length ≤ 1000000) : FreeIs x f t := by
  intro B g v w h hB
  have c3 := h.c3
  go_enter Tryz.func91, Tryz.ntmps91
  go_wp2_with (at_builtin; refine ow.wpList_append rfl _ _ 84 rfl 132 _ 7 56 Tryz.underlying84 info132 rfl (by decide) (by decide) B v x.es.length (edsC x.es) w.heap.size (edC ⟨f, t, true, 0, 0, 0, 0⟩) rfl rfl (ow.later h.own ((Below.refl _ _).alloc (Nat.le_refl _) _)) rfl (new7 w _) (one7 _) he (by simp; omega) ?_; intro g' cap' w3 ho hg hw; obtain ⟨⟨k1, k2⟩, k3, k4⟩ := h.put ((Below.refl _ _).alloc (Nat.le_refl _) _) ⟨f, t, true, 0, 0, 0, 0⟩ ho hg hw)
  go_end0
  exact ⟨rfl, _, k3, k4⟩
end Go.Proofs.YthmecbonjkcnmaaGreat.nb

namespace Go.Proofs.YthmecbonjkcnmaaGreat.nb
open Go.ChangeShapes Go.WideShapes Go.ChangeAt Go.RowKit
open st (Tr Q4 nodesOf goods okNode Is)
open nf (Ed)
set_option linter.unusedVariables false
set_option maxRecDepth 100000

def OverIs (x : St) (q : Q4) (f t : Nat) : Prop := ∀ B g v w, Bx w B g x v → B ≤ w.heap.size → Calls Tryz.prog 90 #[.pointer (some ⟨g, 0, none⟩), .agg #[.int .u64 (q.a : Int), .int .u64 (q.b : Int), .int .u64 (q.c : Int), .int .u64 (q.d : Int)], .int .i64 (f : Int), .int .i64 (t : Int)] w fun e w' => e = .returned (.tuple #[]) ∧ ∃ v', Bx w' B g (x.over q f t) v' ∧ Mv g v v' w w'
set_option maxHeartbeats 1000000 in
theorem over_any (x : St) (q : Q4) (f t : Nat) (he : x.es.length ≤ 1000000) : OverIs x q f t := by
  intro B g v w h hB
  obtain ⟨w1, hw1⟩ : ∃ w1, w1 = w.alloc (.cells #[.int .u64 (q.a : Int), .int .u64 (q.b : Int), .int .u64 (q.c : Int), .int .u64 (q.d : Int)] 26) := ⟨_, rfl⟩
  have hb1 : Below w.heap.size w w1 := by rw [hw1]; exact (Below.refl _ _).alloc (Nat.le_refl _) _
  have HX := (show Hid (Bx w1 B g x v) from h.later hb1)
  have c3 := HX.out.c3
  have hB1 : B ≤ w1.heap.size := Nat.le_trans hB hb1.size
  have b5 : w1.heap[w.heap.size]? = some (.cells #[.int .u64 (q.a : Int), .int .u64 (q.b : Int), .int .u64 (q.c : Int), .int .u64 (q.d : Int)] 26 (0, 0)) := by rw [hw1]; exact heap_alloc_new w _
  have d0 : w1.cell? ⟨w.heap.size, 0, none⟩ = some (.int .u64 (q.a : Int)) := by rw [Lib.cell_of_heap b5]; rfl
  have d1 : w1.cell? ⟨w.heap.size, 1, none⟩ = some (.int .u64 (q.b : Int)) := by rw [Lib.cell_of_heap b5]; rfl
  have d2 : w1.cell? ⟨w.heap.size, 2, none⟩ = some (.int .u64 (q.c : Int)) := by rw [Lib.cell_of_heap b5]; rfl
  have d3 : w1.cell? ⟨w.heap.size, 3, none⟩ = some (.int .u64 (q.d : Int)) := by rw [Lib.cell_of_heap b5]; rfl
  have HM := (show Hid (Mv g v v w w1) from Mv.of hb1)
  clear h hb1 b5
  go_enter Tryz.func90, Tryz.ntmps90
  go_wp2_with (fail)
  rw [← hw1]
  clear hw1
  have c3' := (HX.out.later ((Below.refl _ _).alloc (Nat.le_refl _) (.cells #[.int .i64 (f : Int), .int .i64 (t : Int), .bool false, .int .u64 (q.a : Int), .int .u64 (q.b : Int), .int .u64 (q.c : Int), .int .u64 (q.d : Int)] 132))).c3
  go_region_law (first | (refine ow.step_append (by rfl) (.tmp 13) (.tmp 18) 84 (by rfl) 132 _ 7 56 Tryz.underlying84 info132 rfl (by decide) (by decide) B v x.es.length (edsC x.es) w1.heap.size (edC ⟨f, t, false, q.a, q.b, q.c, q.d⟩) (by rfl) (by rfl) (ow.later HX.out.own (Below.drew ((Below.refl _ _).alloc (Nat.le_refl _) _))) rfl (new7 w1 _) (one7 _) he (by simp; omega) ?_; intro g' cap' w3 ho hg hw; obtain ⟨⟨k1, k2⟩, k3, k4⟩ := HX.out.put (Below.drew ((Below.refl _ _).alloc (Nat.le_refl _) _)) ⟨f, t, false, q.a, q.b, q.c, q.d⟩ ho hg hw))
  all_goals
    go_end0
    exact ⟨rfl, _, k3, HM.out.trans k4⟩
end Go.Proofs.YthmecbonjkcnmaaGreat.nb

namespace Go.Proofs.YthmecbonjkcnmaaGreat.nb
open Go.ChangeShapes Go.WideShapes Go.ChangeAt Go.RowKit
open st (Tr Q4 nodesOf goods okNode Is Box)
open nf (Ed)
set_option linter.unusedVariables false
set_option maxRecDepth 100000

abbrev trV (t : Tr) (v : Value) : Value := .agg #[.int .i64 t.kind, .int .u64 t.set.a, .int .u64 t.set.b, .int .u64 t.set.c, .int .u64 t.set.d, .int .i64 t.min, .int .i64 t.max, v]
/-- room for a tree -/
structure Room (t : Tr) (a : Nat) : Prop where
  lo : 16000 ≤ a
  nd : t.nodes ≤ 512
  hi : a + 16000 * t.depth ≤ 900000
def LayIs (t : Tr) : Prop := ∀ (f to : Nat) (x : St) (a : Nat), Most x a a → Room t a → ∀ B g v w tv, Bx w B g x v → B ≤ w.heap.size → Is w (· < B) t tv →
  Calls Tryz.prog 66 #[.pointer (some ⟨g, 0, none⟩), trV t tv, .int .i64 (f : Int), .int .i64 (to : Int)] w fun e w' => e = .returned (.tuple #[]) ∧ ∃ v', Bx w' B g (layT t f to x) v' ∧ Mv g v v' w w'
def OneIs (t : Tr) : Prop := ∀ (f : Nat) (x : St) (a : Nat), Most x.new a a → Room t a → ∀ B g v w tv, Bx w B g x v → B ≤ w.heap.size → Is w (· < B) t tv →
  Calls Tryz.prog 110 #[.pointer (some ⟨g, 0, none⟩), trV t tv, .int .i64 (f : Int)] w fun e w' => e = .returned (.int .i64 (x.n : Int)) ∧ ∃ v', Bx w' B g (layT t f x.n x.new) v' ∧ Mv g v v' w w'
theorem info29 : (Tryz.prog.info? 29).map (·.size) = some 8 := by kernel_rfl
theorem is_mv {w w' : World} {B g : Nat} {x : St} {v v' : Value} {t : Tr} {tv : Value} (h : Is w (· < B) t tv) (hx : Bx w B g x v) (hB : B ≤ w.heap.size) (m : Mv g v v' w w') : Is w' (· < B) t tv :=
  h.carry m.size (fun _ p _ => p) (fun b p hlt => m.block b hlt (by have := hx.bg; omega) (fun e => by have := (ow.lt hx.own e.symm).1; omega))
theorem box_mv {w w' : World} {B g k : Nat} {x : St} {v v' : Value} {t : Tr} {tv : Value} (h : Box w k t tv) (hx : Bx w B g x v) (m : Mv g v v' w w') : Box w' k t tv := by
  unfold Box at h ⊢
  rw [m.block k (Array.getElem?_eq_some_iff.1 h).1 (fun e => by subst e; rw [hx.blk] at h; simp at h) (ow.type hx.own h (by decide))]
  exact h
set_option maxHeartbeats 1000000 in
theorem one_any (t : Tr) (hL : LayIs t) : OneIs t := by
  intro f x a hm hr B g v w tv hx hB ht
  obtain ⟨w1, hw1⟩ : ∃ w1, w1 = w.alloc (.cells #[.int .i64 t.kind, .int .u64 t.set.a, .int .u64 t.set.b, .int .u64 t.set.c, .int .u64 t.set.d, .int .i64 t.min, .int .i64 t.max, tv] 29) := ⟨_, rfl⟩
  have b1 : Below w.heap.size w w1 := by rw [hw1]; exact (Below.refl _ _).alloc (Nat.le_refl _) _
  have bx1 : Box w1 w.heap.size t tv := by rw [hw1]; exact st.box_new w t tv
  have hx1 := hx.later b1
  have hB1 : B ≤ w1.heap.size := Nat.le_trans hB b1.size
  have ht1 := is_mv ht hx hB (Mv.of (g := g) (v := v) b1)
  have HM := (show Hid (Mv g v v w w1) from Mv.of b1)
  have hlo := hr.lo
  have hhi := hr.hi
  have hn : x.n ≤ 1000000 := by have := hm.n; simp [St.new] at this; omega
  have h75 := state_any x hn B g v w1 hx1
  have HL := (show Hid (∀ W, Bx W B g x.new v → Mv g v v w1 W → Calls Tryz.prog 66 #[.pointer (some ⟨g, 0, none⟩), trV t tv, .int .i64 (f : Int), .int .i64 (x.n : Int)] W fun e w' => e = .returned (.tuple #[]) ∧ ∃ v', Bx w' B g (layT t f x.n x.new) v' ∧ Mv g v v' W w') from fun W h m => hL f x.n x.new a hm hr B g v W tv h (Nat.le_trans hB1 m.size) (is_mv ht1 hx1 hB1 m))
  have HB := (show Hid (∀ W, Mv g v v w1 W → Box W w.heap.size t tv) from fun W m => box_mv bx1 hx1 m)
  clear ht ht1 hx hm hr b1 bx1 hx1
  go_enter Tryz.func110, Tryz.ntmps110
  go_wp2_with (first | (go_at_call 111; (try rw [← hw1]); refine h75.mono ?_; rintro e w2 ⟨rfl, hx2, m2⟩; clear h75; have b2 := HB.out w2 m2; have c27 := HL.out w2 hx2 m2) | (refine wpList_load_row rfl 29 (.tmp 4) rfl w.heap.size rfl 29 _ (0, 0) _ b2 Tryz.underlying29 rfl info29 ?_) | (go_at_call 66; refine c27.mono ?_; rintro e w3 ⟨rfl, v3, hx3, m3⟩))
  go_ret
  exact ⟨rfl, v3, hx3, HM.out.trans (m2.trans m3)⟩
end Go.Proofs.YthmecbonjkcnmaaGreat.nb

namespace Go.Proofs.YthmecbonjkcnmaaGreat.nb
open Go.ChangeShapes Go.WideShapes Go.ChangeAt Go.RowKit
open st (Tr Q4 nodesOf goods okNode Is Box nthT)
open nf (Ed)
set_option linter.unusedVariables false
set_option maxRecDepth 100000

theorem rowT_append : ∀ (l m : List Tr) (f : Nat) (x : St), rowT (l ++ m) f x = rowT m (rowT l f x).1 (rowT l f x).2
  | [], m, f, x => by rw [rowT]; rfl
  | t :: l, m, f, x => by
    rw [List.cons_append, rowT, rowT_append l m, rowT]
theorem rowT_take (l : List Tr) (i : Nat) (h : i < l.length) (f : Nat) (x : St) : rowT (l.take (i + 1)) f x = ((rowT (l.take i) f x).2.n, layT (nthT l i) (rowT (l.take i) f x).1 (rowT (l.take i) f x).2.n (rowT (l.take i) f x).2.new) := by
  rw [st.take_nthT l i h, rowT_append, rowT, rowT]
theorem altT_append : ∀ (l m : List Tr) (f to : Nat) (x : St), altT (l ++ m) f to x = altT m f to (altT l f to x)
  | [], m, f, to, x => by rw [altT]; rfl
  | t :: l, m, f, to, x => by
    rw [List.cons_append, altT, altT_append l m, altT]
theorem altT_take (l : List Tr) (i : Nat) (h : i < l.length) (f to : Nat) (x : St) : altT (l.take (i + 1)) f to x = layT (nthT l i) f to (altT (l.take i) f to x) := by
  rw [st.take_nthT l i h, altT_append, altT, altT]
theorem kid_lim (t : Tr) (hg : t.good = true) : ∀ u ∈ t.kids, Lim (layT u) (30 * u.nodes - 5) := fun u hu => lay_lim u.depth u (Nat.le_refl _) (goods_mem t.kids (by rw [Tr.good_eq, Bool.and_eq_true] at hg; exact hg.2) u hu)
theorem take_nodes (l : List Tr) (i : Nat) : nodesOf (l.take i) ≤ nodesOf l := st.nodesOf_le l i
/-- room for a kid, behind those ahead of it -/
theorem kid_room {t : Tr} {a : Nat} (h : Room t a) (i : Nat) (hi : i < t.kids.length) (c : Nat) (hc : c ≤ 30 * nodesOf (t.kids.take i) + 30) : Room (nthT t.kids i) (a + c) := by
  have h1 := st.nodes_nth t.kids i hi
  have h2 := st.depth_nth t.kids i hi
  have h3 := t.nodes_eq
  have h4 := t.depth_eq
  have h5 := h.nd
  have h6 := h.hi
  have h7 : 1 ≤ (nthT t.kids i).nodes := by rw [Tr.nodes_eq]; omega
  exact ⟨by have := h.lo; omega, by omega, by rw [h4] at h6; omega⟩
theorem cells_mv {w w' : World} {B g b o : Nat} {x : St} {v v' : Value} {t : Tr} {tv : Value} (h : st.Cells w b o t tv) (hb : b < w.heap.size) (hp : b < B) (hx : Bx w B g x v) (m : Mv g v v' w w') : st.Cells w' b o t tv :=
  h.same (m.block b hb (by have := hx.bg; omega) (fun e => by have := (ow.lt hx.own e.symm).1; omega))
def RowIs (t : Tr) : Prop := ∀ (f : Nat) (x : St) (a : Nat), Most x a a → Room t a → ∀ B g v w tv, Bx w B g x v → B ≤ w.heap.size → Is w (· < B) t tv →
  Calls Tryz.prog 92 #[.pointer (some ⟨g, 0, none⟩), tv, .int .i64 (f : Int)] w fun e w' => e = .returned (.int .i64 ((rowT t.kids f x).1 : Int)) ∧ ∃ v', Bx w' B g (rowT t.kids f x).2 v' ∧ Mv g v v' w w'
set_option maxHeartbeats 1000000 in
theorem row_any (t : Tr) (hg : t.good = true) (hO : ∀ i, i < t.kids.length → OneIs (nthT t.kids i)) : RowIs t := by
  intro f x a hm hr B g v w tv hx hB ht
  have HMo := (show Hid (∀ i, Most (rowT (t.kids.take i) f x).2 (a + 30 * nodesOf (t.kids.take i)) (a + 30 * nodesOf (t.kids.take i))) from fun i => row_most (t.kids.take i) (fun u hu => kid_lim t hg u (List.mem_of_mem_take hu)) f x a a (by have := hr.lo; omega) hr.lo hm)
  obtain ⟨o, cap, b, off, vs, rfl, hcap, hk⟩ := ht.form
  have hll : t.kids.length ≤ 9223372036854775807 := by
    by_cases h0 : 0 < t.kids.length
    · have := (hk 0 h0).2.1; omega
    · omega
  have HO := (show Hid (∀ (i : Nat) (hi : i < t.kids.length) (v1 : Value) (W : World), Bx W B g (rowT (t.kids.take i) f x).2 v1 → Mv g v v1 w W → Calls Tryz.prog 110 #[.pointer (some ⟨g, 0, none⟩), trV (nthT t.kids i) (vs i), .int .i64 ((rowT (t.kids.take i) f x).1 : Int)] W fun e w' => e = .returned (.int .i64 ((rowT (t.kids.take (i + 1)) f x).1 : Int)) ∧ ∃ v', Bx w' B g (rowT (t.kids.take (i + 1)) f x).2 v' ∧ Mv g v1 v' W w') from fun i hi v1 W h m => by
    have h1 := hO i hi (rowT (t.kids.take i) f x).1 (rowT (t.kids.take i) f x).2 (a + (30 * nodesOf (t.kids.take i) + 1)) ((HMo.out i).new.up (by omega) (by omega)) (kid_room hr i hi _ (by omega)) B g v1 W (vs i) h (Nat.le_trans hB m.size) (is_mv (hk i hi).2.2.2.2.2 hx hB m)
    rw [rowT_take t.kids i hi]
    exact h1)
  have HC := (show Hid (∀ (i : Nat) (hi : i < t.kids.length) (v1 : Value) (W : World), Mv g v v1 w W → st.Cells W b (off + i * 8) (nthT t.kids i) (vs i)) from fun i hi v1 W m => cells_mv (hk i hi).2.2.2.2.1 (hk i hi).2.2.1 (hk i hi).2.2.2.1 hx m)
  have HSh := (show Hid (∀ (i : Nat) (hi : i < t.kids.length), o = some ⟨b, off, none⟩ ∧ cap ≤ 9223372036854775807 ∧ ∃ (o : Option Addr) (n c : Nat), vs i = .slice o n c) from fun i hi => ⟨(hk i hi).1, (hk i hi).2.1, (hk i hi).2.2.2.2.2.shape⟩)
  have HX := (show Hid (Bx w B g x v) from hx)
  have HR0 := (show Hid (rowT (t.kids.take 0) f x = (f, x)) from by show _ = _; rw [List.take_zero, rowT])
  have HRn := (show Hid (t.kids.take t.kids.length = t.kids) from List.take_length)
  clear hk ht hx hm hr HMo hO hg
  generalize t.kids = l at *
  go_enter Tryz.func92, Tryz.ntmps92
  go_wp2_with (fail)
  go_loopw [2, 11] (fun u y wr => ∃ (i : Nat) (v1 : Value), u = .int .i64 ((rowT (l.take i) f x).1 : Int) ∧ y = .int .i64 (i : Int) ∧ i ≤ l.length ∧ Hid (Bx wr B g (rowT (l.take i) f x).2 v1) ∧ Hid (Mv g v v1 w wr)) (fun _ y _ => l.length - (intOf y).toNat)
  case atStart => exact ⟨0, v, by rw [HR0.out], rfl, by omega, by rw [HR0.out]; exact HX, Mv.refl _ _ _⟩
  case round =>
    obtain ⟨i, v1, rfl, rfl, hil, H1, H2⟩ := hrel
    by_cases hend : i < l.length
    · obtain ⟨rfl, hcm, o2, n2, cap2, hv2⟩ := HSh.out i hend
      have hcells := HC.out i hend v1 wr H2.out
      rw [hv2] at hcells
      obtain ⟨k0, k1, k2, k3, k4, k5, k6, k7⟩ := hcells
      have HO1 := (show Hid (∀ (W : World), Below wr.heap.size wr W → Calls Tryz.prog 110 #[.pointer (some ⟨g, 0, none⟩), trV (nthT l i) (.slice o2 n2 cap2), .int .i64 ((rowT (l.take i) f x).1 : Int)] W fun e w' => e = .returned (.int .i64 ((rowT (l.take (i + 1)) f x).1 : Int)) ∧ ∃ v', Bx w' B g (rowT (l.take (i + 1)) f x).2 v' ∧ Mv g v1 v' W w') from fun W hW => by
        have := HO.out i hend v1 W (H1.out.later hW) (H2.out.trans (Mv.of hW))
        rw [hv2] at this
        exact this)
      have HM2 := (show Hid (∀ (W W' : World) (v' : Value), Below wr.heap.size wr W → Mv g v1 v' W W' → Mv g v v' w W') from fun W W' v' hW m => H2.out.trans ((Mv.of hW).trans m))
      clear hv2 HC HSh HO
      generalize rowT (l.take i) f x = y at *
      obtain ⟨y2, hy2⟩ : ∃ y2, y2 = rowT (l.take (i + 1)) f x := ⟨_, rfl⟩
      rw [← hy2] at HO1
      have HY := (show Hid (rowT (l.take (i + 1)) f x = y2) from hy2.symm)
      clear hy2
      generalize nthT l i = u at *
      go_wp2_with (go_at_call 110; refine (HO1.out _ (nf.below_alloc _ _)).mono ?_; rintro e w2 ⟨rfl, v2, hx2, m2⟩)
      go_roundw
      case rel => exact ⟨i + 1, v2, by rw [HY.out], by go_num, by omega, by rw [HY.out]; exact hx2, HM2.out _ _ _ (nf.below_alloc _ _) m2⟩
      case measure => simp [intOf]; omega
    · have e : i = l.length := by omega
      subst e
      rw [HRn.out] at H1 ⊢
      go_wp2_with (fail)
      go_ret
      exact ⟨rfl, v1, H1.out, H2.out⟩
end Go.Proofs.YthmecbonjkcnmaaGreat.nb
