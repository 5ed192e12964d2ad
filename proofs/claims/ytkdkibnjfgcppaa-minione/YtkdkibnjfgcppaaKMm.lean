/-
  Contracts over this program: the walk through the states of the least, as it lies in memory; its beginning (newWalk).
-/
import Derived.Test.YtkdkibnjfgcppaaKRg
namespace Go.Proofs.Ytkdkibnjfgcppaa.mi
open Go.ChangeShapes Go.WideShapes Go.ChangeAt Go.RowKit Go.Shelf Go.Maps
set_option linter.unusedVariables false

/-- cells laid over others, from a place on -/
theorem lay_get (l : List Value) : ∀ (k off : Nat) (Z : Array Value) (i : Nat), ((l.zipIdx k).foldl (fun cs (c, j) => cs.setIfInBounds (off + j) c) Z)[i]? = if off + k ≤ i ∧ i < off + k + l.length ∧ i < Z.size then l[i - (off + k)]? else Z[i]? := by
  induction l with
  | nil => intro k off Z i; simp; omega
  | cons c l ih =>
    intro k off Z i
    rw [List.zipIdx_cons, List.foldl_cons, ih (k + 1) off]
    simp only [Array.size_setIfInBounds, List.length_cons]
    by_cases h1 : off + (k + 1) ≤ i ∧ i < off + (k + 1) + l.length ∧ i < Z.size
    · rw [if_pos h1, if_pos (by omega)]
      rw [show i - (off + k) = (i - (off + (k + 1))) + 1 by omega, List.getElem?_cons_succ]
    · rw [if_neg h1, Array.getElem?_setIfInBounds]
      by_cases h2 : off + k = i
      · rw [if_pos h2]
        by_cases h3 : i < Z.size
        · rw [if_pos (by omega), if_pos (by omega), show i - (off + k) = 0 by omega]; rfl
        · rw [if_neg (by omega), if_neg (by omega), Array.getElem?_eq_none (by omega)]
      · rw [if_neg h2, if_neg (by omega)]
theorem lay_size (l : List Value) : ∀ (k off : Nat) (Z : Array Value), ((l.zipIdx k).foldl (fun cs (c, j) => cs.setIfInBounds (off + j) c) Z).size = Z.size := by
  induction l with
  | nil => intro k off Z; rfl
  | cons c l ih => intro k off Z; rw [List.zipIdx_cons, List.foldl_cons, ih]; simp
def z84 : Array Value := (List.replicate 256 (Value.int .u8 0) ++ List.replicate 6 (Value.slice none 0 0)).toArray
theorem z84_size : z84.size = 262 := by unfold z84; rw [List.size_toArray, List.length_append, List.length_replicate, List.length_replicate]
theorem z84_nil (i : Nat) (h1 : 256 ≤ i) (h2 : i < 262) : z84[i]? = some (.slice none 0 0) := by
  unfold z84
  rw [List.getElem?_toArray, List.getElem?_append_right (by rw [List.length_replicate]; exact h1), List.length_replicate, List.getElem?_replicate, if_pos (by omega)]
theorem fill1 (pl : Nat → Option (Nat × Nat)) (Z : Array Value) (i off size : Nat) (v : Value) (rest : List (Nat × Value)) (h : pl i = some (off, size)) (hv : v.cells.size = size) (hf : off + size ≤ Z.size) :
    Instr.fill pl Z ((i, v) :: rest) = Instr.fill pl (v.cells.toList.zipIdx.foldl (fun cs (c, j) => cs.setIfInBounds (off + j) c) Z) rest := by
  rw [Instr.fill, h]
  simp only
  rw [if_neg (by rw [hv]; simp; omega)]
  congr 1
  rw [← Array.foldl_toList, Array.toList_zipIdx]
/-- the cells of a walk -/
structure WCells (cells cs : Array Value) (p n s r : Value) : Prop where
  size : cells.size = 262
  d : ∀ i, i < 258 → cells[i]? = cs[i]?
  p : cells[258]? = some p
  n : cells[259]? = some n
  s : cells[260]? = some s
  r : cells[261]? = some r
set_option maxRecDepth 100000 in
theorem built84 (cs : Array Value) (hs : cs.size = 258) (p s : Value) (hp : p.cells = #[p]) (hss : s.cells = #[s]) :
    ∃ cells, Try.prog.built 84 [(0, .agg cs), (1, p), (3, s)] = some cells ∧ WCells cells cs p (.slice none 0 0) s (.slice none 0 0) := by
  have e : ∀ parts, Try.prog.built 84 parts = Instr.fill (fun i => (#[(0, 258), (258, 1), (259, 1), (260, 1), (261, 1)] : Array (Nat × Nat))[i]?) z84 parts := fun parts => by kernel_rfl
  rw [e, fill1 _ _ 0 0 258 (.agg cs) _ rfl hs (by rw [z84_size]; omega)]
  rw [fill1 _ _ 1 258 1 p _ rfl (by rw [hp]; rfl) (by rw [lay_size, z84_size]; omega)]
  rw [fill1 _ _ 3 260 1 s _ rfl (by rw [hss]; rfl) (by rw [lay_size, lay_size, z84_size]; omega)]
  refine ⟨_, rfl, ?_⟩
  have hcl : (Value.agg cs).cells.toList = cs.toList := rfl
  have hlen : cs.toList.length = 258 := by simpa using hs
  rw [hcl, hp, hss]
  have g1 : ∀ i, (List.foldl (fun cs (x : Value × Nat) => cs.setIfInBounds (0 + x.2) x.1) z84 cs.toList.zipIdx)[i]? = if i < 258 then cs[i]? else z84[i]? := fun i => by
    rw [lay_get cs.toList 0 0 z84 i, hlen, z84_size]
    by_cases h : i < 258
    · rw [if_pos (by omega), if_pos h]; simp
    · rw [if_neg (by omega), if_neg h]
  have g2 : ∀ i, (List.foldl (fun cs (x : Value × Nat) => cs.setIfInBounds (258 + x.2) x.1) (List.foldl (fun cs (x : Value × Nat) => cs.setIfInBounds (0 + x.2) x.1) z84 cs.toList.zipIdx) (#[p].toList.zipIdx))[i]? = if i = 258 then some p else (if i < 258 then cs[i]? else z84[i]?) := fun i => by
    rw [lay_get #[p].toList 0 258 _ i, lay_size, z84_size, g1]
    by_cases h : i = 258
    · subst h; simp
    · rw [if_neg (by simp; omega), if_neg h]
  have g3 : ∀ i, (List.foldl (fun cs (x : Value × Nat) => cs.setIfInBounds (260 + x.2) x.1) (List.foldl (fun cs (x : Value × Nat) => cs.setIfInBounds (258 + x.2) x.1) (List.foldl (fun cs (x : Value × Nat) => cs.setIfInBounds (0 + x.2) x.1) z84 cs.toList.zipIdx) (#[p].toList.zipIdx)) (#[s].toList.zipIdx))[i]? = if i = 260 then some s else if i = 258 then some p else (if i < 258 then cs[i]? else z84[i]?) := fun i => by
    rw [lay_get #[s].toList 0 260 _ i, lay_size, lay_size, z84_size, g2]
    by_cases h : i = 260
    · subst h; simp
    · rw [if_neg (by simp; omega), if_neg h]
  refine ⟨by rw [lay_size, lay_size, lay_size, z84_size], fun i hi => ?_, ?_, ?_, ?_, ?_⟩
  · refine (g3 i).trans ?_; rw [if_neg (by omega), if_neg (by omega), if_pos hi]
  · exact (g3 258).trans rfl
  · refine (g3 259).trans ?_; rw [if_neg (by omega), if_neg (by omega), if_neg (by omega)]; exact z84_nil 259 (by omega) (by omega)
  · exact (g3 260).trans rfl
  · refine (g3 261).trans ?_; rw [if_neg (by omega), if_neg (by omega), if_neg (by omega)]; exact z84_nil 261 (by omega) (by omega)
/-- a walk in memory -/
def WBox (w : World) (g : Nat) (cs : Array Value) (p n s r : Value) : Prop := ∃ cells, w.heap[g]? = some (.cells cells 84 (0, 0)) ∧ WCells cells cs p n s r
section
variable {w w' : World} {g : Nat} {cs : Array Value} {p n s r : Value}
theorem WBox.lt (h : WBox w g cs p n s r) : g < w.heap.size := by obtain ⟨c, h, _⟩ := h; exact (Array.getElem?_eq_some_iff.1 h).1
theorem WBox.keep (h : WBox w g cs p n s r) (e : w'.heap[g]? = w.heap[g]?) : WBox w' g cs p n s r := by obtain ⟨c, h, k⟩ := h; exact ⟨c, e.trans h, k⟩
theorem WBox.cd (h : WBox w g cs p n s r) {i : Nat} (hi : i < 258) {v : Value} (hv : cs[i]? = some v) : w.cell? ⟨g, i, none⟩ = some v := by obtain ⟨c, h, k⟩ := h; rw [Lib.cell_of_heap h, k.d i hi, hv]
theorem WBox.cp (h : WBox w g cs p n s r) : w.cell? ⟨g, 258, none⟩ = some p := by obtain ⟨c, h, k⟩ := h; rw [Lib.cell_of_heap h, k.p]
theorem WBox.cn (h : WBox w g cs p n s r) : w.cell? ⟨g, 259, none⟩ = some n := by obtain ⟨c, h, k⟩ := h; rw [Lib.cell_of_heap h, k.n]
theorem WBox.cst (h : WBox w g cs p n s r) : w.cell? ⟨g, 260, none⟩ = some s := by obtain ⟨c, h, k⟩ := h; rw [Lib.cell_of_heap h, k.s]
theorem WBox.cr (h : WBox w g cs p n s r) : w.cell? ⟨g, 261, none⟩ = some r := by obtain ⟨c, h, k⟩ := h; rw [Lib.cell_of_heap h, k.r]
theorem WBox.fz (h : WBox w g cs p n s r) (i : Nat) : w.frozen? ⟨g, i, none⟩ = false := by obtain ⟨c, h, k⟩ := h; exact Lib.frozen_of_heap h i
theorem wset {c : Array Value} (i j : Nat) (v : Value) (hi : i < c.size) : (c.setIfInBounds i v)[j]? = if j = i then some v else c[j]? := by
  rw [Array.getElem?_setIfInBounds]
  by_cases h : i = j
  · rw [if_pos h, if_pos h.symm, if_pos hi]
  · rw [if_neg h, if_neg (fun e => h e.symm)]
theorem WBox.setN (h : WBox w g cs p n s r) (v : Value) : WBox (w.setCell ⟨g, 259, none⟩ v) g cs p v s r := by
  obtain ⟨c, h, k⟩ := h
  have hz := k.size
  refine ⟨_, set_heap w _ _ _ 259 v h, by simp [hz], fun i hi => ?_, ?_, ?_, ?_, ?_⟩
  · rw [wset _ _ _ (by omega), if_neg (by omega)]; exact k.d i hi
  · rw [wset _ _ _ (by omega), if_neg (by omega)]; exact k.p
  · rw [wset _ _ _ (by omega), if_pos rfl]
  · rw [wset _ _ _ (by omega), if_neg (by omega)]; exact k.s
  · rw [wset _ _ _ (by omega), if_neg (by omega)]; exact k.r
theorem WBox.setS (h : WBox w g cs p n s r) (v : Value) : WBox (w.setCell ⟨g, 260, none⟩ v) g cs p n v r := by
  obtain ⟨c, h, k⟩ := h
  have hz := k.size
  refine ⟨_, set_heap w _ _ _ 260 v h, by simp [hz], fun i hi => ?_, ?_, ?_, ?_, ?_⟩
  · rw [wset _ _ _ (by omega), if_neg (by omega)]; exact k.d i hi
  · rw [wset _ _ _ (by omega), if_neg (by omega)]; exact k.p
  · rw [wset _ _ _ (by omega), if_neg (by omega)]; exact k.n
  · rw [wset _ _ _ (by omega), if_pos rfl]
  · rw [wset _ _ _ (by omega), if_neg (by omega)]; exact k.r
theorem WBox.setR (h : WBox w g cs p n s r) (v : Value) : WBox (w.setCell ⟨g, 261, none⟩ v) g cs p n s v := by
  obtain ⟨c, h, k⟩ := h
  have hz := k.size
  refine ⟨_, set_heap w _ _ _ 261 v h, by simp [hz], fun i hi => ?_, ?_, ?_, ?_, ?_⟩
  · rw [wset _ _ _ (by omega), if_neg (by omega)]; exact k.d i hi
  · rw [wset _ _ _ (by omega), if_neg (by omega)]; exact k.p
  · rw [wset _ _ _ (by omega), if_neg (by omega)]; exact k.n
  · rw [wset _ _ _ (by omega), if_neg (by omega)]; exact k.s
  · rw [wset _ _ _ (by omega), if_pos rfl]
end
end Go.Proofs.Ytkdkibnjfgcppaa.mi
