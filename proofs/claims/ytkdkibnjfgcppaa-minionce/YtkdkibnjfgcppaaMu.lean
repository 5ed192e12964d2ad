/-
  Memory: a dfa that is being made, its rows and what it accepts; its parts put one behind the other.
-/
import Derived.Test.YtkdkibnjfgcppaaMt
namespace Go.Proofs.Ytkdkibnjfgcppaa.mi
open Go.ChangeShapes Go.WideShapes Go.ChangeAt Go.RowKit Go.Shelf Go.Maps
set_option linter.unusedVariables false

theorem z26_nil (i : Nat) (h1 : 256 ≤ i) (h2 : i < 258) : z26[i]? = some (.slice none 0 0) := by
  unfold z26
  rw [List.getElem?_toArray, List.getElem?_append_right (by rw [List.length_replicate]; exact h1), List.length_replicate, List.getElem?_replicate, if_pos (by omega)]
set_option maxRecDepth 100000 in
theorem built26 (X : List Nat) (hX : X.length = 256) : ∃ cells, Try.prog.built 26 [(0, .agg (ccs X))] = some cells ∧ DCells cells X (.slice none 0 0) (.slice none 0 0) := by
  have e : ∀ parts, Try.prog.built 26 parts = Instr.fill (fun i => (#[(0, 256), (256, 1), (257, 1)] : Array (Nat × Nat))[i]?) z26 parts := fun parts => by kernel_rfl
  rw [e, fill1 _ _ 0 0 256 (.agg (ccs X)) _ rfl (by show (ccs X).size = 256; rw [ccs_size, hX]) (by rw [z26_size]; omega)]
  refine ⟨_, rfl, ?_⟩
  have hcl : (Value.agg (ccs X)).cells.toList = (ccs X).toList := rfl
  have hlen : (ccs X).toList.length = 256 := by simp [ccs_size, hX]
  rw [hcl]
  have g1 : ∀ i, (List.foldl (fun cs (x : Value × Nat) => cs.setIfInBounds (0 + x.2) x.1) z26 (ccs X).toList.zipIdx)[i]? = if i < 256 then (ccs X)[i]? else z26[i]? := fun i => by
    rw [lay_get (ccs X).toList 0 0 z26 i, hlen, z26_size]
    by_cases h : i < 256
    · rw [if_pos (by omega), if_pos h]; simp
    · rw [if_neg (by omega), if_neg h]
  refine ⟨by rw [lay_size, z26_size], fun i hi => ?_, ?_, ?_⟩
  · refine (g1 i).trans ?_; rw [if_pos hi]; simp [ccs]
  · refine (g1 256).trans ?_; rw [if_neg (by omega)]; exact z26_nil 256 (by omega) (by omega)
  · refine (g1 257).trans ?_; rw [if_neg (by omega)]; exact z26_nil 257 (by omega) (by omega)
theorem storeC (w : World) (s r : List Nat) (hs : s.length = 256) (hr : r.length = 256) : (storeCells ⟨w.heap.size, 0, none⟩ (ccs r).toList).run Try.prog (w.alloc (.cells (ccs s) 22)) = .ok () (w.alloc (.cells (ccs r) 22)) :=
  run_storeCells_new (P := Try.prog) w 22 (ccs s) (ccs r) (sizeC r hr) (by rw [ccs_size, ccs_size, hs, hr]) (ccs_one r)
theorem DCells.one {cells : Array Value} {X : List Nat} {n1 n2 n3 n4 : Nat} {q1 q2 : Option Addr} (h : DCells cells X (.slice q1 n1 n2) (.slice q2 n3 n4)) : cells.all (·.oneCell') = true := by
  rw [Array.all_eq_true]
  intro i hi
  have hs := h.size
  by_cases h1 : i < 256
  · have := h.cl i h1
    rw [Array.getElem?_eq_getElem hi] at this
    cases hx : X[i]? with
    | none => rw [hx] at this; cases this
    | some x => rw [hx] at this; rw [Option.some.inj this]; rfl
  · by_cases h2 : i = 256
    · subst h2
      have := h.nx
      rw [Array.getElem?_eq_getElem hi] at this
      rw [Option.some.inj this]; rfl
    · obtain rfl : i = 257 := by omega
      have := h.ac
      rw [Array.getElem?_eq_getElem hi] at this
      rw [Option.some.inj this]; rfl
theorem store26 (w : World) (cells : Array Value) (h : cells.size = 258) (h1 : cells.all (·.oneCell') = true) : (storeCells ⟨w.heap.size, 0, none⟩ cells.toList).run Try.prog (w.alloc (.cells z26 26)) = .ok () (w.alloc (.cells cells 26)) :=
  run_storeCells_new (P := Try.prog) w 26 z26 cells (df.info26 cells h) (by rw [z26_size, h]) h1
/-- a dfa that is being made -/
def DL (w : World) (g : Nat) (X : List Nat) (nv av : Value) : Prop := ∃ cells, w.heap[g]? = some (.cells cells 26 (0, 0)) ∧ DCells cells X nv av
section
variable {w w' : World} {g : Nat} {X : List Nat} {nv av : Value}
theorem DL.lt (h : DL w g X nv av) : g < w.heap.size := by obtain ⟨c, h, _⟩ := h; exact (Array.getElem?_eq_some_iff.1 h).1
theorem DL.keep (h : DL w g X nv av) (e : w'.heap[g]? = w.heap[g]?) : DL w' g X nv av := by obtain ⟨c, h, k⟩ := h; exact ⟨c, e.trans h, k⟩
theorem DL.cn (h : DL w g X nv av) : w.cell? ⟨g, 256, none⟩ = some nv := by obtain ⟨c, h, k⟩ := h; rw [Lib.cell_of_heap h, k.nx]
theorem DL.ca (h : DL w g X nv av) : w.cell? ⟨g, 257, none⟩ = some av := by obtain ⟨c, h, k⟩ := h; rw [Lib.cell_of_heap h, k.ac]
theorem DL.fz (h : DL w g X nv av) (i : Nat) : w.frozen? ⟨g, i, none⟩ = false := by obtain ⟨c, h, k⟩ := h; exact Lib.frozen_of_heap h i
theorem DL.setN (h : DL w g X nv av) (v : Value) : DL (w.setCell ⟨g, 256, none⟩ v) g X v av := by
  obtain ⟨c, h, k⟩ := h
  have hz := k.size
  refine ⟨_, set_heap w _ _ _ 256 v h, by simp [hz], fun i hi => ?_, ?_, ?_⟩
  · rw [wset _ _ _ (by omega), if_neg (by omega)]; exact k.cl i hi
  · rw [wset _ _ _ (by omega), if_pos rfl]
  · rw [wset _ _ _ (by omega), if_neg (by omega)]; exact k.ac
theorem DL.setA (h : DL w g X nv av) (v : Value) : DL (w.setCell ⟨g, 257, none⟩ v) g X nv v := by
  obtain ⟨c, h, k⟩ := h
  have hz := k.size
  refine ⟨_, set_heap w _ _ _ 257 v h, by simp [hz], fun i hi => ?_, ?_, ?_⟩
  · rw [wset _ _ _ (by omega), if_neg (by omega)]; exact k.cl i hi
  · rw [wset _ _ _ (by omega), if_neg (by omega)]; exact k.nx
  · rw [wset _ _ _ (by omega), if_pos rfl]
end
/-- with all that it leads to: blocks below gl are left -/
structure Mst (gl : Nat) (w3 w : World) (X : List Nat) (nf : Nat) (gs : List Nat) (rs : List (List Int)) (ac0 : List Bool) (nv av : Value) : Prop where
  box : DL w gl X nv av
  nx : w.ownsRow (gl + 1) 39 1 nv gs.length (gs.map fun g => Value.slice (some ⟨g, 0, none⟩) nf nf)
  rows : rs.length = gs.length ∧ ∀ i (h : i < gs.length) (h2 : i < rs.length), ZRow w gs[i] rs[i] ∧ rs[i].length = nf
  far : ∀ g ∈ gs, gl < g ∧ nv.ownBlock ≠ some g ∧ av.ownBlock ≠ some g
  ac : w.ownsRow (gl + 1) 4 1 av ac0.length (ac0.map Value.bool)
  ap : ∀ g, nv.ownBlock = some g → av.ownBlock ≠ some g
  bel : Below gl w3 w
  k0 : gl ≤ w3.heap.size
section
variable {gl : Nat} {w3 w w' : World} {X : List Nat} {nf : Nat} {gs : List Nat} {rs : List (List Int)} {ac0 : List Bool} {nv av : Value}
theorem Mst.zlt (h : Mst gl w3 w X nf gs rs ac0 nv av) {g : Nat} (hg : g ∈ gs) : g < w.heap.size := by
  obtain ⟨i, hi, rfl⟩ := List.mem_iff_getElem.1 hg
  exact (h.rows.2 i hi (by rw [h.rows.1]; exact hi)).1.lt
theorem Mst.later (h : Mst gl w3 w X nf gs rs ac0 nv av) (b : Below w.heap.size w w') : Mst gl w3 w' X nf gs rs ac0 nv av :=
  ⟨h.box.keep (b.block _ h.box.lt), own_keep h.nx (fun g hg => b.block g (own_lt h.nx hg).2), ⟨h.rows.1, fun i h1 h2 => ⟨(b.block _ (h.zlt (List.getElem_mem h1))).trans (h.rows.2 i h1 h2).1, (h.rows.2 i h1 h2).2⟩⟩, h.far, own_keep h.ac (fun g hg => b.block g (own_lt h.ac hg).2), h.ap, h.bel.trans ⟨b.os, b.tape, b.output, b.size, fun k hk => b.block k (by have := h.bel.size; have := h.k0; omega)⟩, h.k0⟩
/-- one row more -/
theorem Mst.row (h : Mst gl w3 w X nf gs rs ac0 nv av) {gm : Nat} {rn : List Int} {nv' : Value} (hz : ZRow w gm rn) (hn : rn.length = nf) (hm : gl < gm ∧ nv.ownBlock ≠ some gm ∧ av.ownBlock ≠ some gm)
    (ho : w'.ownsRow (gl + 1) 39 1 nv' (gs.length + 1) ((gs.map fun g => Value.slice (some ⟨g, 0, none⟩) nf nf) ++ [Value.slice (some ⟨gm, 0, none⟩) nf nf])) (hg : w.grownBy w' nv.ownBlock) (hv : nv'.ownBlock = nv.ownBlock ∨ nv'.ownBlock = some w.heap.size) :
    Mst gl w3 (w'.setCell ⟨gl, 256, none⟩ nv') X nf (gs ++ [gm]) (rs ++ [rn]) ac0 nv' av ∧ DL w' gl X nv av := by
  have hk : ∀ g, g < w.heap.size → nv.ownBlock ≠ some g → w'.heap[g]? = w.heap[g]? := fun g h1 h2 => hg.block g h1 (fun e => h2 e.symm)
  have hs : ∀ k, k ≠ gl → (w'.setCell ⟨gl, 256, none⟩ nv').heap[k]? = w'.heap[k]? := fun k hk => Below.heap_setCell _ _ _ _ (fun e => hk e)
  have nl : nv.ownBlock ≠ some gl := fun e => by have := (own_lt h.nx e).1; omega
  have hne : ∀ g, g < w.heap.size → nv.ownBlock ≠ some g → nv'.ownBlock ≠ some g := fun g h1 h2 e => by
    rcases hv with hv | hv
    · exact h2 (hv ▸ e)
    · rw [hv] at e; have := Option.some.inj e; omega
  have hb := h.box.keep (hk _ h.box.lt nl)
  refine ⟨⟨hb.setN nv', ?_, ⟨by simp [h.rows.1], fun i h1 h2 => ?_⟩, fun g hgm => ?_, own_keep h.ac (fun g e => (hs g (by have := (own_lt h.ac e).1; omega)).trans (hk g (own_lt h.ac e).2 (fun e2 => h.ap g e2 e))), fun g e e2 => ?_, ?_, h.k0⟩, hb⟩
  · rw [List.map_append, List.length_append]
    exact own_keep ho (fun g e => hs g (by have := (own_lt ho e).1; omega))
  · by_cases e : i < gs.length
    · have h3 : i < rs.length := by rw [h.rows.1]; exact e
      rw [List.getElem_append_left e, List.getElem_append_left h3]
      have hf := h.far _ (List.getElem_mem e)
      exact ⟨(hs _ (by omega)).trans ((hk _ (h.zlt (List.getElem_mem e)) hf.2.1).trans (h.rows.2 i e h3).1), (h.rows.2 i e h3).2⟩
    · have e3 : i = gs.length := by simp at h1; omega
      subst e3
      have hrl := h.rows.1
      rw [List.getElem_append_right (Nat.le_refl _), List.getElem_append_right (by omega)]
      simp only [Nat.sub_self, List.getElem_singleton, hrl]
      exact ⟨(hs _ (by omega)).trans ((hk _ hz.lt hm.2.1).trans hz), hn⟩
  · rcases List.mem_append.1 hgm with hgm | hgm
    · have hf := h.far g hgm
      exact ⟨hf.1, hne g (h.zlt hgm) hf.2.1, hf.2.2⟩
    · rw [List.mem_singleton.1 hgm]
      exact ⟨hm.1, hne gm hz.lt hm.2.1, hm.2.2⟩
  · rcases hv with hv | hv
    · exact h.ap g (hv ▸ e) e2
    · rw [hv] at e
      have := Option.some.inj e
      have := (own_lt h.ac e2).2
      omega
  · refine (h.bel.trans ⟨hg.os, hg.tape, hg.output, hg.size, fun k hk2 => ?_⟩).setCell (p := ⟨gl, 256, none⟩) (by simp) _
    exact hk k (by have := h.bel.size; have := h.k0; omega) (fun e => by have := (own_lt h.nx e).1; omega)
/-- one more that accepts, or not -/
theorem Mst.acc (h : Mst gl w3 w X nf gs rs ac0 nv av) {b : Bool} {av' : Value}
    (ho : w'.ownsRow (gl + 1) 4 1 av' (ac0.length + 1) (ac0.map Value.bool ++ [Value.bool b])) (hg : w.grownBy w' av.ownBlock) (hv : av'.ownBlock = av.ownBlock ∨ av'.ownBlock = some w.heap.size) :
    Mst gl w3 (w'.setCell ⟨gl, 257, none⟩ av') X nf gs rs (ac0 ++ [b]) nv av' ∧ DL w' gl X nv av := by
  have hk : ∀ g, g < w.heap.size → av.ownBlock ≠ some g → w'.heap[g]? = w.heap[g]? := fun g h1 h2 => hg.block g h1 (fun e => h2 e.symm)
  have hs : ∀ k, k ≠ gl → (w'.setCell ⟨gl, 257, none⟩ av').heap[k]? = w'.heap[k]? := fun k hk => Below.heap_setCell _ _ _ _ (fun e => hk e)
  have nl : av.ownBlock ≠ some gl := fun e => by have := (own_lt h.ac e).1; omega
  have hne : ∀ g, g < w.heap.size → av.ownBlock ≠ some g → av'.ownBlock ≠ some g := fun g h1 h2 e => by
    rcases hv with hv | hv
    · exact h2 (hv ▸ e)
    · rw [hv] at e; have := Option.some.inj e; omega
  have hb := h.box.keep (hk _ h.box.lt nl)
  refine ⟨⟨hb.setA av', own_keep h.nx (fun g e => (hs g (by have := (own_lt h.nx e).1; omega)).trans (hk g (own_lt h.nx e).2 (h.ap g e))), ⟨h.rows.1, fun i h1 h2 => ?_⟩, fun g hgm => ?_, ?_, fun g e e2 => ?_, ?_, h.k0⟩, hb⟩
  · have hf := h.far _ (List.getElem_mem h1)
    exact ⟨(hs _ (by omega)).trans ((hk _ (h.zlt (List.getElem_mem h1)) hf.2.2).trans (h.rows.2 i h1 h2).1), (h.rows.2 i h1 h2).2⟩
  · have hf := h.far g hgm
    exact ⟨hf.1, hf.2.1, hne g (h.zlt hgm) hf.2.2⟩
  · rw [List.map_append, List.length_append]
    exact own_keep ho (fun g e => hs g (by have := (own_lt ho e).1; omega))
  · exact hne g (own_lt h.nx e).2 (h.ap g e) e2
  · refine (h.bel.trans ⟨hg.os, hg.tape, hg.output, hg.size, fun k hk2 => ?_⟩).setCell (p := ⟨gl, 257, none⟩) (by simp) _
    exact hk k (by have := h.bel.size; have := h.k0; omega) (fun e => by have := (own_lt h.ac e).1; omega)
end
end Go.Proofs.Ytkdkibnjfgcppaa.mi
