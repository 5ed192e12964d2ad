/-
  Over this program: a pair more in a pile (pile.put): what becomes of memory.
-/
import Derived.Test.YthcekfmodmnekaaJa
namespace Go.Proofs.Ythcekfmodmnekaa.pp
open Go.ChangeShapes Go.WideShapes Go.ChangeAt Go.RowKit
open Go.Sort
open hp (Lt Heap Up Dn kidOf kid_none kid_one kid_two kid_lt nv own_keep Mv below_drewN set_self)
set_option linter.unusedVariables false
set_option maxRecDepth 100000

theorem info87 : (Try.prog.info? 87).map (fun i => (i.zero, i.size, i.bytes)) = some (some (.agg #[.int .i64 0, .int .i64 0]), 2, 16) := by kernel_rfl
theorem new2 (W : World) (u u' : Value) (t : TypeId) : ∀ j x, [u, u'][j]? = some x → (W.alloc (.cells #[u, u'] t)).cell? ((⟨W.heap.size, 0, none⟩ : Addr).add j) = some x := fun j x hx => by
  rcases j with _ | _ | j
  · simp at hx
    subst hx
    rw [show ((⟨W.heap.size, 0, none⟩ : Addr).add 0) = ⟨W.heap.size, 0, none⟩ from rfl, Lib.cell_of_heap (World.alloc_heap_new W _)]
    rfl
  · simp at hx
    subst hx
    rw [show ((⟨W.heap.size, 0, none⟩ : Addr).add 1) = ⟨W.heap.size, 1, none⟩ from rfl, Lib.cell_of_heap (World.alloc_heap_new W _)]
    rfl
  · simp at hx
theorem one2 (u u' : Value) (h : u.oneCell' = true) (h' : u'.oneCell' = true) : ∀ x ∈ [u, u'], x.oneCell' = true := fun x hx => by
  rcases List.mem_cons.1 hx with rfl | hx
  · exact h
  · rw [List.mem_singleton.1 hx]; exact h'
/-- a pair is laid at a place of the row -/
theorem Pil.set {w : World} {B b off g n cap : Nat} {l : List Pr} (h : Pil w B b off (.slice (some ⟨g, 0, none⟩) n cap) l) (j : Nat) (x : Pr) : Pil ((w.setCell ⟨g, j * 2, none⟩ (.int .i64 x.1)).setCell ⟨g, j * 2 + 1, none⟩ (.int .i64 x.2)) B b off (.slice (some ⟨g, 0, none⟩) n cap) (l.set j x) ∧ Mv w ((w.setCell ⟨g, j * 2, none⟩ (.int .i64 x.1)).setCell ⟨g, j * 2 + 1, none⟩ (.int .i64 x.2)) b off (some g) := by
  have hn : n = l.length := h.len.1
  subst hn
  obtain ⟨s1, s2⟩ := h.own.stored (j * 2) (.int .i64 x.1)
  obtain ⟨s3, s4⟩ := s1.stored (j * 2 + 1) (.int .i64 x.2)
  rw [cs2_set] at s3
  have blk : ∀ k, k < w.heap.size → some k ≠ some g → ((w.setCell ⟨g, j * 2, none⟩ (.int .i64 x.1)).setCell ⟨g, j * 2 + 1, none⟩ (.int .i64 x.2)).heap[k]? = w.heap[k]? := fun k hk hne => (s4.block k (by rw [World.size_setCell]; exact hk) hne).trans (s2.block k hk hne)
  have hb := blk b h.lt (fun e => h.apart e)
  refine ⟨⟨(World.cell?_of_block (a := ⟨b, off, none⟩) hb).trans h.cell, (World.frozen?_of_block (a := ⟨b, off, none⟩) hb).trans h.thaw, ?_, h.apart⟩, rfl, rfl, rfl, by rw [World.size_setCell, World.size_setCell]; exact Nat.le_refl _, fun k hk _ hne => blk k hk hne, fun cs t hc => ⟨.slice (some ⟨g, 0, none⟩) l.length cap, ?_⟩⟩
  · rw [List.length_set]; exact s3
  · rw [hb, hc]
    have : cs[off]? = some (.slice (some ⟨g, 0, none⟩) l.length cap) := by rw [← Lib.cell_of_heap hc]; exact h.cell
    rw [set_self this]
/-- the row of a pile with one more, and the pile's cell -/
theorem Pil.more {w w2 : World} {B b off g cap : Nat} {v : Value} {l : List Pr} {x : Pr} (h : Pil w B b off v l) 
    (ho : w2.ownsRow B 87 2 (.slice (some ⟨g, 0, none⟩) (l.length + 1) cap) (l.length + 1) (cs2 l ++ [.int .i64 x.1, .int .i64 x.2])) (hg : (w.alloc (.cells #[.int .i64 x.1, .int .i64 x.2] 87)).grownBy w2 v.ownBlock) (hw : some g = v.ownBlock ∨ (w.alloc (.cells #[.int .i64 x.1, .int .i64 x.2] 87)).heap.size ≤ g) :
    Pil (w2.setCell ⟨b, off, none⟩ (.slice (some ⟨g, 0, none⟩) (l.length + 1) cap)) B b off (.slice (some ⟨g, 0, none⟩) (l.length + 1) cap) (l ++ [x]) ∧ Mv w (w2.setCell ⟨b, off, none⟩ (.slice (some ⟨g, 0, none⟩) (l.length + 1) cap)) b off v.ownBlock ∧ w2.cell? ⟨b, off, none⟩ = some v ∧ w2.frozen? ⟨b, off, none⟩ = false := by
  have ba := (Below.refl w.heap.size w).alloc (Nat.le_refl _) (.cells #[.int .i64 x.1, .int .i64 x.2] 87)
  have hb2 : w2.heap[b]? = w.heap[b]? := (hg.block b (Nat.lt_of_lt_of_le h.lt ba.size) h.apart).trans (ba.block b h.lt)
  have c2 : w2.cell? ⟨b, off, none⟩ = some v := (World.cell?_of_block (a := ⟨b, off, none⟩) hb2).trans h.cell
  have f2 : w2.frozen? ⟨b, off, none⟩ = false := (World.frozen?_of_block (a := ⟨b, off, none⟩) hb2).trans h.thaw
  have hbg : b ≠ g := by
    intro e
    subst e
    rcases hw with e | e
    · exact h.apart e
    · have := h.lt; have := ba.size; omega
  have oth : ∀ k, k ≠ b → (w2.setCell ⟨b, off, none⟩ (.slice (some ⟨g, 0, none⟩) (l.length + 1) cap)).heap[k]? = w2.heap[k]? := fun k hk => Below.heap_setCell _ _ _ _ hk
  refine ⟨⟨World.cell?_setCell_same w2 ⟨b, off, none⟩ _ c2, by simp [f2], ?_, ?_⟩, ⟨hg.os.trans ba.os, hg.tape.trans ba.tape, hg.output.trans ba.output, ?_, fun k hk hne hr => ?_, fun cs t hc => ⟨.slice (some ⟨g, 0, none⟩) (l.length + 1) cap, ?_⟩⟩, c2, f2⟩
  · have := own_keep ho (W' := w2.setCell ⟨b, off, none⟩ (.slice (some ⟨g, 0, none⟩) (l.length + 1) cap)) fun k e => oth k (by intro e'; subst e'; cases e; exact hbg rfl)
    rw [cs2_app, List.length_append]
    exact this
  · intro e; cases e; exact hbg rfl
  · rw [World.size_setCell]; exact Nat.le_trans ba.size hg.size
  · rw [oth k hne, hg.block k (Nat.lt_of_lt_of_le hk ba.size) hr, ba.block k hk]
  · exact heap_setCell_same w2 b off cs t _ (hb2.trans hc)
theorem Pil.cut {w : World} {B b off g n cap : Nat} {l m : List Pr} {x : Pr} (h : Pil w B b off (.slice (some ⟨g, 0, none⟩) (n + 1) cap) l) (hl : l = m ++ [x]) : Pil (w.setCell ⟨b, off, none⟩ (.slice (some ⟨g, 0, none⟩) n cap)) B b off (.slice (some ⟨g, 0, none⟩) n cap) m ∧ Mv w (w.setCell ⟨b, off, none⟩ (.slice (some ⟨g, 0, none⟩) n cap)) b off (some g) := by
  subst hl
  have hn : n = m.length := by have := h.len.1; simp at this; omega
  subst hn
  have ho : w.ownsRow B 87 2 (.slice (some ⟨g, 0, none⟩) (m.length + 1) cap) (m.length + 1) (cs2 m ++ [.int .i64 x.1, .int .i64 x.2]) := by
    have := h.own
    rw [cs2_app, List.length_append] at this
    exact this
  have hp := ownsRow_pop (by rw [cs2_len]) ho
  have hbg : b ≠ g := fun e => h.apart (by rw [e]; rfl)
  have oth : ∀ k, k ≠ b → (w.setCell ⟨b, off, none⟩ (.slice (some ⟨g, 0, none⟩) m.length cap)).heap[k]? = w.heap[k]? := fun k hk => Below.heap_setCell _ _ _ _ hk
  refine ⟨⟨World.cell?_setCell_same w ⟨b, off, none⟩ _ h.cell, by simp [h.thaw], own_keep hp fun k e => oth k (by intro e'; subst e'; cases e; exact hbg rfl), h.apart⟩, rfl, rfl, rfl, by rw [World.size_setCell]; exact Nat.le_refl _, fun k hk hne _ => oth k hne, fun cs t hc => ⟨_, heap_setCell_same w b off cs t _ hc⟩⟩

def PutOut (B b off : Nat) (v : Value) (l : List Pr) (x : Pr) (w : World) (e : Ending) (w' : World) : Prop :=
  ∃ v' l', e = .returned (.tuple #[]) ∧ Pil w' B b off v' l' ∧ Heap plt l' ∧ l'.Perm (x :: l) ∧ Mv w w' b off v.ownBlock ∧ (v'.ownBlock = v.ownBlock ∨ ∀ g, v'.ownBlock = some g → w.heap.size ≤ g)
end Go.Proofs.Ythcekfmodmnekaa.pp
