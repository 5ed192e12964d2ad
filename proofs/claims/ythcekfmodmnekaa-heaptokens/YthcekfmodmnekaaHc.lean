/-
  Over this program: a number more in a pile (pile.put).
-/
import Derived.Test.YthcekfmodmnekaaHb
import Derived.Test.YthcekfmodmnekaaAp
namespace Go.Proofs.Ythcekfmodmnekaa.hp
open Go.ChangeShapes Go.WideShapes Go.ChangeAt Go.RowKit
set_option linter.unusedVariables false
set_option maxRecDepth 100000

/-- what a call may change: one cell, one row, new blocks -/
structure Mv (w w' : World) (b off : Nat) (r : Option Nat) : Prop where
  os : w'.os = w.os
  tape : w'.tape = w.tape
  output : w'.output = w.output
  size : w.heap.size ≤ w'.heap.size
  block : ∀ k, k < w.heap.size → k ≠ b → some k ≠ r → w'.heap[k]? = w.heap[k]?
  self : ∀ cs t, w.heap[b]? = some (.cells cs t (0, 0)) → ∃ u, w'.heap[b]? = some (.cells (cs.setIfInBounds off u) t (0, 0))
theorem set_twice {α : Type} (cs : Array α) (j : Nat) (u v : α) : (cs.setIfInBounds j u).setIfInBounds j v = cs.setIfInBounds j v := by simp
theorem set_self {α : Type} {cs : Array α} {j : Nat} {u : α} (h : cs[j]? = some u) : cs.setIfInBounds j u = cs := by
  apply Array.ext_getElem?
  intro i
  rw [Array.getElem?_setIfInBounds]
  split
  · rename_i e
    subst e
    have hl := (Array.getElem?_eq_some_iff.1 h).1
    rw [h]; simp [hl]
  · rfl
theorem Mv.refl {w : World} {b off : Nat} {v : Value} {r : Option Nat} (h : w.cell? ⟨b, off, none⟩ = some v) : Mv w w b off r :=
  ⟨rfl, rfl, rfl, Nat.le_refl _, fun _ _ _ _ => rfl, fun cs t hb => ⟨v, by
    rw [hb]
    have : cs[off]? = some v := by rw [← Lib.cell_of_heap hb]; exact h
    rw [set_self this]⟩⟩
theorem Mv.trans {w w1 w2 : World} {b off : Nat} {r r1 : Option Nat} (h1 : Mv w w1 b off r) (h2 : Mv w1 w2 b off r1) (hr : r1 = r ∨ ∀ g, r1 = some g → w.heap.size ≤ g) : Mv w w2 b off r := by
  refine ⟨h2.os.trans h1.os, h2.tape.trans h1.tape, h2.output.trans h1.output, Nat.le_trans h1.size h2.size, fun k hk hb hne => ?_, fun cs t hb => ?_⟩
  · refine (h2.block k (Nat.lt_of_lt_of_le hk h1.size) hb ?_).trans (h1.block k hk hb hne)
    rcases hr with rfl | hr
    · exact hne
    · intro e; have := hr k e.symm; omega
  · obtain ⟨u, hu⟩ := h1.self cs t hb
    obtain ⟨u', hu'⟩ := h2.self _ t hu
    exact ⟨u', by rw [hu', set_twice]⟩
theorem Mv.below {w w1 w2 : World} {b off : Nat} {r : Option Nat} (h1 : Mv w w1 b off r) (h2 : Below w1.heap.size w1 w2) (hb : b < w.heap.size) : Mv w w2 b off r :=
  ⟨h2.os.trans h1.os, h2.tape.trans h1.tape, h2.output.trans h1.output, Nat.le_trans h1.size h2.size, fun k hk hb hne => (h2.block k (Nat.lt_of_lt_of_le hk h1.size)).trans (h1.block k hk hb hne), fun cs t hc => by
    obtain ⟨u, hu⟩ := h1.self cs t hc
    exact ⟨u, (h2.block b (Nat.lt_of_lt_of_le hb h1.size)).trans hu⟩⟩
theorem Mv.drew {w w' : World} {b off : Nat} {r : Option Nat} (h : Mv w w' b off r) : Mv w w'.drew b off r := ⟨h.os, h.tape, h.output, h.size, h.block, h.self⟩
theorem info75 : (Try.prog.info? 75).map (fun i => (i.zero, i.size, i.bytes)) = some (some (.int .i64 0), 1, 8) := by kernel_rfl
theorem map_set (l : List Int) (j : Nat) (x : Int) : (l.map nv).set j (nv x) = (l.set j x).map nv := by rw [List.map_set]
theorem Pil.len {w : World} {B b off n cap : Nat} {o : Option Addr} {l : List Int} (h : Pil w B b off (.slice o n cap) l) : n = l.length ∧ n ≤ cap ∧ cap ≤ 9223372036854775807 := by
  obtain ⟨_, _, e, h1, h2⟩ := h.form
  cases e
  exact ⟨rfl, h1, h2⟩
theorem Pil.row {w : World} {B b off g n cap : Nat} {l : List Int} (h : Pil w B b off (.slice (some ⟨g, 0, none⟩) n cap) l) {i : Nat} {x : Int} (hx : l[i]? = some x) : w.cell? ⟨g, i, none⟩ = some (nv x) ∧ w.frozen? ⟨g, i, none⟩ = false := by
  obtain ⟨hl, rfl⟩ := List.getElem?_eq_some_iff.1 hx
  have e := h.len.1
  subst e
  obtain ⟨_, _, e, _, hc⟩ := h.at i hl
  cases e
  exact ⟨hc, h.own.frozenAt i⟩
/-- a number is laid at a place of the row -/
theorem Pil.set {w : World} {B b off g n cap : Nat} {l : List Int} (h : Pil w B b off (.slice (some ⟨g, 0, none⟩) n cap) l) (j : Nat) (x : Int) : Pil (w.setCell ⟨g, j, none⟩ (nv x)) B b off (.slice (some ⟨g, 0, none⟩) n cap) (l.set j x) ∧ Mv w (w.setCell ⟨g, j, none⟩ (nv x)) b off (some g) := by
  have hn : n = l.length := by obtain ⟨_, _, e, _⟩ := h.form; cases e; rfl
  subst hn
  obtain ⟨s1, s2⟩ := h.own.stored j (nv x)
  have hbg : b ≠ g := fun e => h.apart (by rw [e]; rfl)
  have hb : (w.setCell ⟨g, j, none⟩ (nv x)).heap[b]? = w.heap[b]? := s2.block b h.lt (fun e => h.apart e)
  refine ⟨⟨(World.cell?_of_block (a := ⟨b, off, none⟩) hb).trans h.cell, (World.frozen?_of_block (a := ⟨b, off, none⟩) hb).trans h.thaw, ?_, h.apart⟩, s2.os, s2.tape, s2.output, s2.size, fun k hk _ hne => s2.block k hk hne, fun cs t hc => ⟨.slice (some ⟨g, 0, none⟩) l.length cap, ?_⟩⟩
  · rw [map_set] at s1
    simpa using s1
  · rw [hb, hc]
    have : cs[off]? = some (.slice (some ⟨g, 0, none⟩) l.length cap) := by rw [← Lib.cell_of_heap hc]; exact h.cell
    rw [set_self this]
/-- the row of a pile with one more, and the pile's cell -/
theorem Pil.more {w w2 : World} {B b off g cap : Nat} {v : Value} {l : List Int} {x : Int} (h : Pil w B b off v l) (hB : B ≤ b)
    (ho : w2.ownsRow B 75 1 (.slice (some ⟨g, 0, none⟩) (l.length + 1) cap) (l.length + 1) (l.map nv ++ [nv x])) (hg : (w.alloc (.cells #[nv x] 75)).grownBy w2 v.ownBlock) (hw : some g = v.ownBlock ∨ (w.alloc (.cells #[nv x] 75)).heap.size ≤ g) :
    Pil (w2.setCell ⟨b, off, none⟩ (.slice (some ⟨g, 0, none⟩) (l.length + 1) cap)) B b off (.slice (some ⟨g, 0, none⟩) (l.length + 1) cap) (l ++ [x]) ∧ Mv w (w2.setCell ⟨b, off, none⟩ (.slice (some ⟨g, 0, none⟩) (l.length + 1) cap)) b off v.ownBlock ∧ w2.cell? ⟨b, off, none⟩ = some v ∧ w2.frozen? ⟨b, off, none⟩ = false := by
  have ba := (Below.refl w.heap.size w).alloc (Nat.le_refl _) (.cells #[nv x] 75)
  have hb2 : w2.heap[b]? = w.heap[b]? := (hg.block b (Nat.lt_of_lt_of_le h.lt ba.size) h.apart).trans (ba.block b h.lt)
  have c2 : w2.cell? ⟨b, off, none⟩ = some v := (World.cell?_of_block (a := ⟨b, off, none⟩) hb2).trans h.cell
  have f2 : w2.frozen? ⟨b, off, none⟩ = false := (World.frozen?_of_block (a := ⟨b, off, none⟩) hb2).trans h.thaw
  have hbg : b ≠ g := by
    intro e
    subst e
    rcases hw with e | e
    · exact h.apart e
    · have := h.lt; have := ba.size; omega
  have oth : ∀ k, k ≠ b → (w2.setCell ⟨b, off, none⟩ (.slice (some ⟨g, 0, none⟩) (l.length + 1) cap)).heap[k]? = w2.heap[k]? := fun k hk => Below.heap_setCell _ _ _ _ hk
  refine ⟨⟨World.cell?_setCell_same w2 ⟨b, off, none⟩ _ c2, by simp [f2], ?_, ?_⟩, ⟨hg.os.trans ba.os, hg.tape.trans ba.tape, hg.output.trans ba.output, ?_, fun k hk hne hr => ?_, fun cs t hc => ⟨.slice (some ⟨g, 0, none⟩) (l.length + 1) cap, ?_⟩⟩, c2, f2⟩
  · have := own_keep ho (W' := w2.setCell ⟨b, off, none⟩ (.slice (some ⟨g, 0, none⟩) (l.length + 1) cap)) fun k e => oth k (by intro e'; subst e'; cases e; exact hbg rfl)
    simpa using this
  · intro e; cases e; exact hbg rfl
  · rw [World.size_setCell]; exact Nat.le_trans ba.size hg.size
  · rw [oth k hne, hg.block k (Nat.lt_of_lt_of_le hk ba.size) hr, ba.block k hk]
  · exact heap_setCell_same w2 b off cs t _ (hb2.trans hc)
end Go.Proofs.Ythcekfmodmnekaa.hp
