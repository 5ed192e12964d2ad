/-
  Texts put together: Contracts over this program: the least of a dfa (least): the walk through its states, and their classes. Memory: a dfa that is being made, its rows and what it accepts; its parts put one behind the other. Memory: a dfa that is made is one. Over this program: operations that put a bool behind others, one by one.
-/
import Derived.Test.YtkdkibnjfgcppaaKMs
namespace Go.Proofs.Ytkdkibnjfgcppaa.mi
open Go.ChangeShapes Go.WideShapes Go.ChangeAt Go.RowKit Go.Shelf Go.Maps
set_option linter.unusedVariables false

def z26 : Array Value := (List.replicate 256 (Value.int .u8 0) ++ List.replicate 2 (Value.slice none 0 0)).toArray
theorem z26_size : z26.size = 258 := by unfold z26; rw [List.size_toArray, List.length_append, List.length_replicate, List.length_replicate]
theorem zero26 : ∀ w, (zeroValue 26).run Try.prog w = .ok (.agg z26) w :=
  (zero_of_info (P := Try.prog) (t := 26) (v := .agg z26) (n := 258) (by kernel_rfl)).1
/-- a dfa that is being made: its classes, and what stands for its lists -/
structure DCells (cells : Array Value) (X : List Nat) (nv av : Value) : Prop where
  size : cells.size = 258
  cl : ∀ i, i < 256 → cells[i]? = (X[i]?).map fun n : Nat => Value.int .u8 (n : Int)
  nx : cells[256]? = some nv
  ac : cells[257]? = some av
theorem new_wst {d : df.Dfa} {cs : Array Value} {B : Nat} {w : World} {gw gp gn : Nat} {F : List Nat} {nums : List Int} {sv : Value} (h : New d cs B w gw gp gn F nums sv) (hB : B < w.heap.size) : Wst d cs (B + 1) w w gw gp gn F nums sv (.slice none 0 0) [0] [] := by
  obtain ⟨g, e, g1, g2, g3, g4⟩ := h.one
  refine ⟨h.box, h.parts, h.nrow, h.st, World.ownsRow_nil _ _ _ _, ⟨h.ap.1, h.ap.2.1, h.ap.2.2.1, by have := h.ap.2.2.2; omega, by have := h.ap.2.2.2; omega, by have := h.ap.2.2.2; omega⟩, fun k hk => ?_, (fun k hk => by cases hk), Below.refl _ _, by omega⟩
  rw [e] at hk
  cases hk
  exact ⟨g1, g2, g3, fun e2 => by cases e2⟩
theorem new_go {d : df.Dfa} {cs : Array Value} {B : Nat} {w : World} {gw gp gn : Nat} {F : List Nat} {nums : List Int} {sv : Value} (h : New d cs B w gw gp gn F nums sv) (hn : 1 ≤ d.next.length) : Go_ d F 0 nums [0] [] := by
  refine ⟨rfl, h.num, by simp [lgs], fun x hx => ?_, by simp, fun j hj => by omega⟩
  rw [List.mem_singleton.1 hx]
  omega
theorem go_row {d : df.Dfa} {F : List Nat} {i : Nat} {nums S : List Int} {rows : List (List Int)} (h : Go_ d F i nums S rows) (hd : d.next.length ≤ 1000) : rows.length = i ∧ (∀ r ∈ rows, r.length = 256) ∧ ∀ r ∈ rows, ∀ x ∈ r, -1 ≤ x ∧ x ≤ 1000 := by
  have hw := it_wk _ i h.wk
  have hf := h.few
  rw [h.eq] at hw
  have hl : (lgs d S).length = S.length := by simp [lgs]
  have hr : ∀ r ∈ rows, r.length = 256 ∧ ∀ x ∈ r, -1 ≤ x ∧ x ≤ 1000 := fun r hr => by
    obtain ⟨k, hk, e⟩ := List.mem_iff_getElem.1 hr
    obtain ⟨L, r', e1, e2, e3, e4⟩ := hw.rows k (by have := hw.len; simp at this; omega)
    simp only at e2
    rw [List.getElem?_eq_getElem hk, e] at e2
    obtain rfl := Option.some.inj e2
    refine ⟨e3, fun x hx => ?_⟩
    obtain ⟨b, hb, e5⟩ := List.mem_iff_getElem.1 hx
    obtain ⟨n, e6, e7⟩ := e4 b (by omega)
    rw [List.getElem?_eq_getElem hb, e5] at e6
    obtain rfl := Option.some.inj e6
    rcases e7 with ⟨_, rfl⟩ | ⟨_, j, rfl, hj⟩
    · omega
    · have := (List.getElem?_eq_some_iff.1 hj).1
      simp only at this
      omega
  exact ⟨hw.len, fun r h => (hr r h).1, fun r h => (hr r h).2⟩
theorem owns_at {w : World} {K : Nat} {sv : Value} {S : List Int} (h : df.Owns w K sv S) {i : Nat} (hi : i < S.length) : ∃ g cap, sv = .slice (some ⟨g, 0, none⟩) S.length cap ∧ S.length ≤ cap ∧ cap ≤ 9223372036854775807 ∧ w.cell? ⟨g, i, none⟩ = some (.int .i64 S[i]) := by
  have h0 := h
  rcases h.2 with ⟨_, hl⟩ | ⟨g, cap, cur, e, hb, hg, hn, hc, hs, ht⟩
  · omega
  · subst e
    unfold maxLen at hc
    refine ⟨g, cap, rfl, hn, hc, ?_⟩
    have := World.ownsRow.cellAt h0 i (by omega)
    rw [this, List.getElem?_map, List.getElem?_eq_getElem hi]
    rfl
end Go.Proofs.Ytkdkibnjfgcppaa.mi

namespace Go.Proofs.Ytkdkibnjfgcppaa.mi
open Go.ChangeShapes Go.WideShapes Go.ChangeAt Go.RowKit Go.Shelf Go.Maps
set_option linter.unusedVariables false

theorem z26_nil (i : Nat) (h1 : 256 ≤ i) (h2 : i < 258) : z26[i]? = some (.slice none 0 0) := by
  unfold z26
  rw [List.getElem?_toArray, List.getElem?_append_right (by rw [List.length_replicate]; exact h1), List.length_replicate, List.getElem?_replicate, if_pos (by omega)]
set_option maxRecDepth 100000 in
theorem built26 (X : List Nat) (hX : X.length = 256) : ∃ cells, Try.prog.built 26 [(0, .agg (ccs X))] = some cells ∧ DCells cells X (.slice none 0 0) (.slice none 0 0) := by
  have e : ∀ parts, Try.prog.built 26 parts = Instr.fill (fun i => (#[(0, 256), (256, 1), (257, 1)] : Array (Nat × Nat))[i]?) z26 parts := fun parts => by kernel_rfl
  rw [e, fill1 _ _ 0 0 256 (.agg (ccs X)) _ rfl (by show (ccs X).size = 256; rw [ccs_size, hX]) (by rw [z26_size]; omega)]
  refine ⟨_, rfl, ?_⟩
  have hcl : (Value.agg (ccs X)).cells.toList = (ccs X).toList := rfl
  have hlen : (ccs X).toList.length = 256 := by simp [ccs_size, hX]
  rw [hcl]
  have g1 : ∀ i, (List.foldl (fun cs (x : Value × Nat) => cs.setIfInBounds (0 + x.2) x.1) z26 (ccs X).toList.zipIdx)[i]? = if i < 256 then (ccs X)[i]? else z26[i]? := fun i => by
    rw [lay_get (ccs X).toList 0 0 z26 i, hlen, z26_size]
    by_cases h : i < 256
    · rw [if_pos (by omega), if_pos h]; simp
    · rw [if_neg (by omega), if_neg h]
  refine ⟨by rw [lay_size, z26_size], fun i hi => ?_, ?_, ?_⟩
  · refine (g1 i).trans ?_; rw [if_pos hi]; simp [ccs]
  · refine (g1 256).trans ?_; rw [if_neg (by omega)]; exact z26_nil 256 (by omega) (by omega)
  · refine (g1 257).trans ?_; rw [if_neg (by omega)]; exact z26_nil 257 (by omega) (by omega)
theorem storeC (w : World) (s r : List Nat) (hs : s.length = 256) (hr : r.length = 256) : (storeCells ⟨w.heap.size, 0, none⟩ (ccs r).toList).run Try.prog (w.alloc (.cells (ccs s) 22)) = .ok () (w.alloc (.cells (ccs r) 22)) :=
  run_storeCells_new (P := Try.prog) w 22 (ccs s) (ccs r) (sizeC r hr) (by rw [ccs_size, ccs_size, hs, hr]) (ccs_one r)
theorem DCells.one {cells : Array Value} {X : List Nat} {n1 n2 n3 n4 : Nat} {q1 q2 : Option Addr} (h : DCells cells X (.slice q1 n1 n2) (.slice q2 n3 n4)) : cells.all (·.oneCell') = true := by
  rw [Array.all_eq_true]
  intro i hi
  have hs := h.size
  by_cases h1 : i < 256
  · have := h.cl i h1
    rw [Array.getElem?_eq_getElem hi] at this
    cases hx : X[i]? with
    | none => rw [hx] at this; cases this
    | some x => rw [hx] at this; rw [Option.some.inj this]; rfl
  · by_cases h2 : i = 256
    · subst h2
      have := h.nx
      rw [Array.getElem?_eq_getElem hi] at this
      rw [Option.some.inj this]; rfl
    · obtain rfl : i = 257 := by omega
      have := h.ac
      rw [Array.getElem?_eq_getElem hi] at this
      rw [Option.some.inj this]; rfl
theorem store26 (w : World) (cells : Array Value) (h : cells.size = 258) (h1 : cells.all (·.oneCell') = true) : (storeCells ⟨w.heap.size, 0, none⟩ cells.toList).run Try.prog (w.alloc (.cells z26 26)) = .ok () (w.alloc (.cells cells 26)) :=
  run_storeCells_new (P := Try.prog) w 26 z26 cells (df.info26 cells h) (by rw [z26_size, h]) h1
/-- a dfa that is being made -/
def DL (w : World) (g : Nat) (X : List Nat) (nv av : Value) : Prop := ∃ cells, w.heap[g]? = some (.cells cells 26 (0, 0)) ∧ DCells cells X nv av
section
variable {w w' : World} {g : Nat} {X : List Nat} {nv av : Value}
theorem DL.lt (h : DL w g X nv av) : g < w.heap.size := by obtain ⟨c, h, _⟩ := h; exact (Array.getElem?_eq_some_iff.1 h).1
theorem DL.keep (h : DL w g X nv av) (e : w'.heap[g]? = w.heap[g]?) : DL w' g X nv av := by obtain ⟨c, h, k⟩ := h; exact ⟨c, e.trans h, k⟩
theorem DL.cn (h : DL w g X nv av) : w.cell? ⟨g, 256, none⟩ = some nv := by obtain ⟨c, h, k⟩ := h; rw [Lib.cell_of_heap h, k.nx]
theorem DL.ca (h : DL w g X nv av) : w.cell? ⟨g, 257, none⟩ = some av := by obtain ⟨c, h, k⟩ := h; rw [Lib.cell_of_heap h, k.ac]
theorem DL.fz (h : DL w g X nv av) (i : Nat) : w.frozen? ⟨g, i, none⟩ = false := by obtain ⟨c, h, k⟩ := h; exact Lib.frozen_of_heap h i
theorem DL.setN (h : DL w g X nv av) (v : Value) : DL (w.setCell ⟨g, 256, none⟩ v) g X v av := by
  obtain ⟨c, h, k⟩ := h
  have hz := k.size
  refine ⟨_, set_heap w _ _ _ 256 v h, by simp [hz], fun i hi => ?_, ?_, ?_⟩
  · rw [wset _ _ _ (by omega), if_neg (by omega)]; exact k.cl i hi
  · rw [wset _ _ _ (by omega), if_pos rfl]
  · rw [wset _ _ _ (by omega), if_neg (by omega)]; exact k.ac
theorem DL.setA (h : DL w g X nv av) (v : Value) : DL (w.setCell ⟨g, 257, none⟩ v) g X nv v := by
  obtain ⟨c, h, k⟩ := h
  have hz := k.size
  refine ⟨_, set_heap w _ _ _ 257 v h, by simp [hz], fun i hi => ?_, ?_, ?_⟩
  · rw [wset _ _ _ (by omega), if_neg (by omega)]; exact k.cl i hi
  · rw [wset _ _ _ (by omega), if_neg (by omega)]; exact k.nx
  · rw [wset _ _ _ (by omega), if_pos rfl]
end
/-- with all that it leads to: blocks below gl are left -/
structure Mst (gl : Nat) (w3 w : World) (X : List Nat) (nf : Nat) (gs : List Nat) (rs : List (List Int)) (ac0 : List Bool) (nv av : Value) : Prop where
  box : DL w gl X nv av
  nx : w.ownsRow (gl + 1) 39 1 nv gs.length (gs.map fun g => Value.slice (some ⟨g, 0, none⟩) nf nf)
  rows : rs.length = gs.length ∧ ∀ i (h : i < gs.length) (h2 : i < rs.length), ZRow w gs[i] rs[i] ∧ rs[i].length = nf
  far : ∀ g ∈ gs, gl < g ∧ nv.ownBlock ≠ some g ∧ av.ownBlock ≠ some g
  ac : w.ownsRow (gl + 1) 4 1 av ac0.length (ac0.map Value.bool)
  ap : ∀ g, nv.ownBlock = some g → av.ownBlock ≠ some g
  bel : Below gl w3 w
  k0 : gl ≤ w3.heap.size
section
variable {gl : Nat} {w3 w w' : World} {X : List Nat} {nf : Nat} {gs : List Nat} {rs : List (List Int)} {ac0 : List Bool} {nv av : Value}
theorem Mst.zlt (h : Mst gl w3 w X nf gs rs ac0 nv av) {g : Nat} (hg : g ∈ gs) : g < w.heap.size := by
  obtain ⟨i, hi, rfl⟩ := List.mem_iff_getElem.1 hg
  exact (h.rows.2 i hi (by rw [h.rows.1]; exact hi)).1.lt
theorem Mst.later (h : Mst gl w3 w X nf gs rs ac0 nv av) (b : Below w.heap.size w w') : Mst gl w3 w' X nf gs rs ac0 nv av :=
  ⟨h.box.keep (b.block _ h.box.lt), own_keep h.nx (fun g hg => b.block g (own_lt h.nx hg).2), ⟨h.rows.1, fun i h1 h2 => ⟨(b.block _ (h.zlt (List.getElem_mem h1))).trans (h.rows.2 i h1 h2).1, (h.rows.2 i h1 h2).2⟩⟩, h.far, own_keep h.ac (fun g hg => b.block g (own_lt h.ac hg).2), h.ap, h.bel.trans ⟨b.os, b.tape, b.output, b.size, fun k hk => b.block k (by have := h.bel.size; have := h.k0; omega)⟩, h.k0⟩
/-- one row more -/
theorem Mst.row (h : Mst gl w3 w X nf gs rs ac0 nv av) {gm : Nat} {rn : List Int} {nv' : Value} (hz : ZRow w gm rn) (hn : rn.length = nf) (hm : gl < gm ∧ nv.ownBlock ≠ some gm ∧ av.ownBlock ≠ some gm)
    (ho : w'.ownsRow (gl + 1) 39 1 nv' (gs.length + 1) ((gs.map fun g => Value.slice (some ⟨g, 0, none⟩) nf nf) ++ [Value.slice (some ⟨gm, 0, none⟩) nf nf])) (hg : w.grownBy w' nv.ownBlock) (hv : nv'.ownBlock = nv.ownBlock ∨ nv'.ownBlock = some w.heap.size) :
    Mst gl w3 (w'.setCell ⟨gl, 256, none⟩ nv') X nf (gs ++ [gm]) (rs ++ [rn]) ac0 nv' av ∧ DL w' gl X nv av := by
  have hk : ∀ g, g < w.heap.size → nv.ownBlock ≠ some g → w'.heap[g]? = w.heap[g]? := fun g h1 h2 => hg.block g h1 (fun e => h2 e.symm)
  have hs : ∀ k, k ≠ gl → (w'.setCell ⟨gl, 256, none⟩ nv').heap[k]? = w'.heap[k]? := fun k hk => Below.heap_setCell _ _ _ _ (fun e => hk e)
  have nl : nv.ownBlock ≠ some gl := fun e => by have := (own_lt h.nx e).1; omega
  have hne : ∀ g, g < w.heap.size → nv.ownBlock ≠ some g → nv'.ownBlock ≠ some g := fun g h1 h2 e => by
    rcases hv with hv | hv
    · exact h2 (hv ▸ e)
    · rw [hv] at e; have := Option.some.inj e; omega
  have hb := h.box.keep (hk _ h.box.lt nl)
  refine ⟨⟨hb.setN nv', ?_, ⟨by simp [h.rows.1], fun i h1 h2 => ?_⟩, fun g hgm => ?_, own_keep h.ac (fun g e => (hs g (by have := (own_lt h.ac e).1; omega)).trans (hk g (own_lt h.ac e).2 (fun e2 => h.ap g e2 e))), fun g e e2 => ?_, ?_, h.k0⟩, hb⟩
  · rw [List.map_append, List.length_append]
    exact own_keep ho (fun g e => hs g (by have := (own_lt ho e).1; omega))
  · by_cases e : i < gs.length
    · have h3 : i < rs.length := by rw [h.rows.1]; exact e
      rw [List.getElem_append_left e, List.getElem_append_left h3]
      have hf := h.far _ (List.getElem_mem e)
      exact ⟨(hs _ (by omega)).trans ((hk _ (h.zlt (List.getElem_mem e)) hf.2.1).trans (h.rows.2 i e h3).1), (h.rows.2 i e h3).2⟩
    · have e3 : i = gs.length := by simp at h1; omega
      subst e3
      have hrl := h.rows.1
      rw [List.getElem_append_right (Nat.le_refl _), List.getElem_append_right (by omega)]
      simp only [Nat.sub_self, List.getElem_singleton, hrl]
      exact ⟨(hs _ (by omega)).trans ((hk _ hz.lt hm.2.1).trans hz), hn⟩
  · rcases List.mem_append.1 hgm with hgm | hgm
    · have hf := h.far g hgm
      exact ⟨hf.1, hne g (h.zlt hgm) hf.2.1, hf.2.2⟩
    · rw [List.mem_singleton.1 hgm]
      exact ⟨hm.1, hne gm hz.lt hm.2.1, hm.2.2⟩
  · rcases hv with hv | hv
    · exact h.ap g (hv ▸ e) e2
    · rw [hv] at e
      have := Option.some.inj e
      have := (own_lt h.ac e2).2
      omega
  · refine (h.bel.trans ⟨hg.os, hg.tape, hg.output, hg.size, fun k hk2 => ?_⟩).setCell (p := ⟨gl, 256, none⟩) (by simp) _
    exact hk k (by have := h.bel.size; have := h.k0; omega) (fun e => by have := (own_lt h.nx e).1; omega)
/-- one more that accepts, or not -/
theorem Mst.acc (h : Mst gl w3 w X nf gs rs ac0 nv av) {b : Bool} {av' : Value}
    (ho : w'.ownsRow (gl + 1) 4 1 av' (ac0.length + 1) (ac0.map Value.bool ++ [Value.bool b])) (hg : w.grownBy w' av.ownBlock) (hv : av'.ownBlock = av.ownBlock ∨ av'.ownBlock = some w.heap.size) :
    Mst gl w3 (w'.setCell ⟨gl, 257, none⟩ av') X nf gs rs (ac0 ++ [b]) nv av' ∧ DL w' gl X nv av := by
  have hk : ∀ g, g < w.heap.size → av.ownBlock ≠ some g → w'.heap[g]? = w.heap[g]? := fun g h1 h2 => hg.block g h1 (fun e => h2 e.symm)
  have hs : ∀ k, k ≠ gl → (w'.setCell ⟨gl, 257, none⟩ av').heap[k]? = w'.heap[k]? := fun k hk => Below.heap_setCell _ _ _ _ (fun e => hk e)
  have nl : av.ownBlock ≠ some gl := fun e => by have := (own_lt h.ac e).1; omega
  have hne : ∀ g, g < w.heap.size → av.ownBlock ≠ some g → av'.ownBlock ≠ some g := fun g h1 h2 e => by
    rcases hv with hv | hv
    · exact h2 (hv ▸ e)
    · rw [hv] at e; have := Option.some.inj e; omega
  have hb := h.box.keep (hk _ h.box.lt nl)
  refine ⟨⟨hb.setA av', own_keep h.nx (fun g e => (hs g (by have := (own_lt h.nx e).1; omega)).trans (hk g (own_lt h.nx e).2 (h.ap g e))), ⟨h.rows.1, fun i h1 h2 => ?_⟩, fun g hgm => ?_, ?_, fun g e e2 => ?_, ?_, h.k0⟩, hb⟩
  · have hf := h.far _ (List.getElem_mem h1)
    exact ⟨(hs _ (by omega)).trans ((hk _ (h.zlt (List.getElem_mem h1)) hf.2.2).trans (h.rows.2 i h1 h2).1), (h.rows.2 i h1 h2).2⟩
  · have hf := h.far g hgm
    exact ⟨hf.1, hf.2.1, hne g (h.zlt hgm) hf.2.2⟩
  · rw [List.map_append, List.length_append]
    exact own_keep ho (fun g e => hs g (by have := (own_lt ho e).1; omega))
  · exact hne g (own_lt h.nx e).2 (h.ap g e) e2
  · refine (h.bel.trans ⟨hg.os, hg.tape, hg.output, hg.size, fun k hk2 => ?_⟩).setCell (p := ⟨gl, 257, none⟩) (by simp) _
    exact hk k (by have := h.bel.size; have := h.k0; omega) (fun e => by have := (own_lt h.ac e).1; omega)
end
end Go.Proofs.Ytkdkibnjfgcppaa.mi

namespace Go.Proofs.Ytkdkibnjfgcppaa.mi
open Go.ChangeShapes Go.WideShapes Go.ChangeAt Go.RowKit Go.Shelf Go.Maps
set_option linter.unusedVariables false

theorem own_sl {w : World} {K t m n : Nat} {v : Value} {xs : List Value} (h : w.ownsRow K t m v n xs) : ∃ o c, v = .slice o n c := by
  rcases h.2 with ⟨e, h0⟩ | ⟨g, cap, cur, e, _⟩
  · exact ⟨none, 0, by rw [e, h0]⟩
  · exact ⟨_, _, e⟩
theorem own_row {w w' : World} {K t n : Nat} {v : Value} {xs : List Value} (h : w.ownsRow K t 1 v n xs) (hn : xs.length = n) (hk : ∀ g, K ≤ g → w'.heap[g]? = w.heap[g]?) :
    ∃ o c, v = .slice o n c ∧ n ≤ c ∧ c ≤ 9223372036854775807 ∧ ∀ i x, xs[i]? = some x → ∃ g, o = some ⟨g, 0, none⟩ ∧ K ≤ g ∧ g < w'.heap.size ∧ w'.cell? ⟨g, i, none⟩ = some x := by
  have h0 := h
  rcases h.2 with ⟨e, hz⟩ | ⟨g, cap, cur, e, hb, hg, hnc, hc, hs, ht⟩
  · refine ⟨none, 0, by rw [e, hz], by omega, by omega, fun i x hx => ?_⟩
    have := (List.getElem?_eq_some_iff.1 hx).1
    omega
  · unfold maxLen at hc
    refine ⟨_, _, e, hnc, hc, fun i x hx => ⟨g, rfl, hb, ?_, ?_⟩⟩
    · have := (hk g hb).trans hg
      exact (Array.getElem?_eq_some_iff.1 this).1
    · have hi := (List.getElem?_eq_some_iff.1 hx).1
      subst e
      have := World.ownsRow.cellAt h0 i (by omega)
      rw [hx] at this
      simp only [World.cell?, hk g hb] at this ⊢
      exact this
theorem Mst.dat {gl : Nat} {w3 w w' : World} {X : List Nat} {nf : Nat} {gs : List Nat} {rs : List (List Int)} {ac0 : List Bool} {nv av : Value} (h : Mst gl w3 w X nf gs rs ac0 nv av) {cells : Array Value} (hc : DCells cells X nv av) (hX : X.length = 256) (hX8 : ∀ x ∈ X, x < 256) (hn : nf ≤ 256)
    (hk : ∀ g, gl + 1 ≤ g → w'.heap[g]? = w.heap[g]?) : ∃ o c ao ac, df.DAt (fun b => gl + 1 ≤ b ∧ b < w'.heap.size) w' ⟨fun i => X.getD i 0, rs, ac0⟩ cells o c ao ac := by
  obtain ⟨o, c, e1, h1, h2, h3⟩ := own_row h.nx (by simp) hk
  obtain ⟨ao, ac, e4, h4, h5, h6⟩ := own_row h.ac (by simp) hk
  have hl := h.rows.1
  refine ⟨o, c, ao, ac, hc.size, fun i hi => ?_, fun i => ?_, ?_, ?_, ⟨by show rs.length ≤ c; omega, h2, fun i hi => ?_⟩, ⟨h4, h5, fun i hi => ?_⟩⟩
  · rw [hc.cl i hi]
    show _ = some (Value.int .u8 (X.getD i 0 : Nat))
    rw [List.getD_eq_getElem?_getD, List.getElem?_eq_getElem (by omega)]
    rfl
  · show X.getD i 0 < 256
    rw [List.getD_eq_getElem?_getD]
    cases hx : X[i]? with
    | none => simp
    | some x => exact hX8 x (List.mem_of_getElem? hx)
  · rw [hc.nx, e1]; show _ = some (Value.slice o rs.length c); rw [hl]
  · rw [hc.ac, e4]
  · have hi2 : i < gs.length := by have : i < rs.length := hi; omega
    obtain ⟨g, e, hg1, hg2, hg3⟩ := h3 i (Value.slice (some ⟨gs[i], 0, none⟩) nf nf) (by rw [List.getElem?_map, List.getElem?_eq_getElem hi2]; rfl)
    obtain ⟨hz, hzl⟩ := h.rows.2 i hi2 hi
    have hf := (h.far _ (List.getElem_mem hi2)).1
    have hz2 : ZRow w' gs[i] rs[i] := (hk _ (by omega)).trans hz
    refine ⟨g, 0, some ⟨gs[i], 0, none⟩, nf, e, ⟨hg1, hg2⟩, ?_, ⟨?_, by omega, fun j hj => ⟨gs[i], 0, rfl, ⟨by omega, hz2.lt⟩, ?_⟩⟩⟩
    · rw [Nat.zero_add, hg3]
      show some (Value.slice _ nf nf) = some (Value.slice _ rs[i].length nf)
      rw [hzl]
    · show rs[i].length ≤ nf
      omega
    · rw [Nat.zero_add]
      exact hz2.cell (List.getElem?_eq_getElem hj)
  · obtain ⟨g, e, hg1, hg2, hg3⟩ := h6 i (.bool ac0[i]) (by rw [List.getElem?_map, List.getElem?_eq_getElem hi]; rfl)
    exact ⟨g, 0, e, ⟨hg1, hg2⟩, by rw [Nat.zero_add]; exact hg3⟩
/-- the last walk is the least -/
theorem Go_.least {d : df.Dfa} {F : List Nat} {nums S : List Int} {rows : List (List Int)} (h : Go_ d F S.length nums S rows) :
    Least ((dm d).lang (some 0)) (clsL rows) (rows.map fun r => (firsts (colOf rows) 256).map fun c => r.getD c 0) (S.map fun s => df.acpt d s.toNat) := by
  refine ⟨S.length, ?_, ?_, ?_, ?_⟩
  · rw [h.eq]; simp [lgs]
  · rw [h.eq]; rfl
  · rw [h.eq]
  · rw [h.eq]
    show _ = (lgs d S).map fun L => L []
    unfold lgs
    rw [List.map_map]
    apply List.map_congr_left
    intro s hs
    rfl
end Go.Proofs.Ytkdkibnjfgcppaa.mi

namespace Go.Proofs.Ytkdkibnjfgcppaa.mi
open Go.ChangeShapes Go.WideShapes Go.ChangeAt Go.RowKit Go.Shelf Go.Maps
set_option linter.unusedVariables false

section
variable {o : Oper} {a : Act} {w : World}
theorem x_load24 {x : Operand} {g i : Nat} {v : Value} (h : o.op = .load 24 x) (hx : a.eval x = .pointer (some ⟨g, i, none⟩)) (hc : w.cell? ⟨g, i, none⟩ = some v) : (execOp a.eval o).run Try.prog w = .ok (.value v) w := by
  unfold execOp
  rw [h]
  simp only [hx]
  go_simp
theorem x_load4 {x : Operand} {g i : Nat} {v : Value} (h : o.op = .load 4 x) (hx : a.eval x = .pointer (some ⟨g, i, none⟩)) (hc : w.cell? ⟨g, i, none⟩ = some v) : (execOp a.eval o).run Try.prog w = .ok (.value v) w := by
  unfold execOp
  rw [h]
  simp only [hx]
  go_simp
theorem x_idx24 {x y : Operand} {g i n c s : Nat} (h : o.op = .indexAddr 24 x y) (hx : a.eval x = .slice (some ⟨g, i, none⟩) n c) (hy : a.eval y = .int .i64 (s : Int)) (hs : s < n) (hn : n ≤ 1000) : (execOp a.eval o).run Try.prog w = .ok (.value (.pointer (some ⟨g, i + s, none⟩))) w := by
  unfold execOp
  rw [h]
  simp only [hx, hy]
  go_simp
theorem x_build24 {x : Operand} {b : Bool} (h : o.op = .buildSlice 24 1 #[(0, x)]) (hx : a.eval x = .bool b) : (execOp a.eval o).run Try.prog w = .ok (.value (.slice (some ⟨w.heap.size, 0, none⟩) 1 1)) (w.alloc (.cells #[.bool b] 4)) := by
  have e : (Instr.buildSlice 24 1 #[(0, Value.bool b)]).run Try.prog w = .ok (.slice (some ⟨w.heap.size, 0, none⟩) 1 1) (w.alloc (.cells #[.bool b] 4)) := by kernel_rfl
  unfold execOp
  rw [h]
  simp [hx, e, Result.andThen]
theorem x_app24 {x y : Operand} {v u v' : Value} {w' : World} (h : o.op = .call { callee := .builtin .append, args := #[x, y], argTypes := #[24, 24] }) (ht : o.type = 24) (hx : a.eval x = v) (hy : a.eval y = u) (e : (Builtin.append_ #[24, 24] 24 #[v, u]).run Try.prog w = .ok v' w') : (execOp a.eval o).run Try.prog w = .ok (.value v') w' := by
  unfold execOp
  simp only [h, ht, resolve, invoke, builtin, Sem.run_bind, Sem.run_pure, Result.andThen_ok, List.map_toArray, List.map_cons, List.map_nil, hx, hy, e]
theorem x_store24 {x y : Operand} {g i n c : Nat} {q : Option Addr} {u : Value} (h : o.op = .store 24 x y) (hx : a.eval x = .pointer (some ⟨g, i, none⟩)) (hy : a.eval y = .slice q n c) (hc : w.cell? ⟨g, i, none⟩ = some u) (hf : w.frozen? ⟨g, i, none⟩ = false) : (execOp a.eval o).run Try.prog w = .ok .skip (w.setCell ⟨g, i, none⟩ (.slice q n c)) := by
  unfold execOp
  rw [h]
  simp only [hx, hy]
  go_simp
end
theorem info4 : (Try.prog.info? 4).map (fun i => (i.zero, i.size, i.bytes)) = some (some (.bool false), 1, 1) := by kernel_rfl
theorem app24 {w : World} {K g0 : Nat} {v : Value} {l : List Bool} {b : Bool} {n : Nat} (hl : l.length = n)
    (ho : w.ownsRow K 4 1 v n (l.map Value.bool)) (hb : w.heap[g0]? = some (.cells #[.bool b] 4 (0, 0))) (hn : n ≤ 100000) (hK : K ≤ w.heap.size) :
    ∃ q c w', (Builtin.append_ #[24, 24] 24 #[v, .slice (some ⟨g0, 0, none⟩) 1 1]).run Try.prog w = .ok (.slice (some ⟨q, 0, none⟩) (n + 1) c) w' ∧ w'.ownsRow K 4 1 (.slice (some ⟨q, 0, none⟩) (n + 1) c) (n + 1) (l.map Value.bool ++ [Value.bool b]) ∧ w.grownBy w' v.ownBlock ∧ ((Value.slice (some ⟨q, 0, none⟩) (n + 1) c).ownBlock = v.ownBlock ∨ (Value.slice (some ⟨q, 0, none⟩) (n + 1) c).ownBlock = some w.heap.size) := by
  obtain ⟨i0, hi0, hz0, hz1, hz2⟩ := info_parts info4
  obtain ⟨v', w', e, h1, h2, _, h4⟩ := run_append_own_at (P := Try.prog) w K 24 24 4 i0 (.bool false) 1 1 Try.underlying24 hi0 hz0 hz1 hz2 rfl (by omega) v n (l.map Value.bool) ho ⟨g0, 0, none⟩ 1 1 [.bool b] rfl (fun j u hu => by
    rcases j with _ | j
    · simp at hu
      subst hu
      rw [show (⟨g0, 0, none⟩ : Addr).add 0 = ⟨g0, 0, none⟩ from rfl, Lib.cell_of_heap hb]; rfl
    · simp at hu) (by simp [Value.oneCell']) (by unfold maxLen; omega) (by omega) hK
  obtain ⟨g', cap', rfl⟩ := ownsRow_succ h1
  exact ⟨g', cap', w', e, h1, h2, h4⟩
end Go.Proofs.Ytkdkibnjfgcppaa.mi
