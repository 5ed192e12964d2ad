/-
  Plain, and memory: a dfa whose classes are another's, by what is put in each byte's place.
-/
import Derived.Test.YtkdkibnjfgcppaaKMy
namespace Go.Proofs.Ytkdkibnjfgcppaa.mi
open Go.ChangeShapes Go.WideShapes Go.ChangeAt Go.RowKit Go.Shelf Go.Maps
set_option linter.unusedVariables false

/-- the classes of the first k bytes, then noughts -/
def xk (d : df.Dfa) (T : List Nat) (k : Nat) : List Nat := (List.range 256).map fun j => if j < k then d.cls (T.getD j 0) else 0
theorem xk_len (d : df.Dfa) (T : List Nat) (k : Nat) : (xk d T k).length = 256 := by simp [xk]
theorem xk_get (d : df.Dfa) (T : List Nat) (k i : Nat) (h : i < 256) : (xk d T k)[i]? = some (if i < k then d.cls (T.getD i 0) else 0) := by
  unfold xk; rw [List.getElem?_map, List.getElem?_range h]; rfl
theorem xk_set (d : df.Dfa) (T : List Nat) (k : Nat) (h : k < 256) : (xk d T k).set k (d.cls (T.getD k 0)) = xk d T (k + 1) := by
  apply List.ext_getElem?
  intro i
  by_cases hi : i < 256
  · rw [xk_get _ _ _ _ hi]
    by_cases e : k = i
    · subst e
      rw [List.getElem?_set_self (by rw [xk_len]; exact h), if_pos (by omega)]
    · rw [List.getElem?_set_ne e, xk_get _ _ _ _ hi]
      by_cases h2 : i < k
      · rw [if_pos h2, if_pos (by omega)]
      · rw [if_neg h2, if_neg (by omega)]
  · rw [List.getElem?_eq_none (by rw [List.length_set, xk_len]; omega), List.getElem?_eq_none (by rw [xk_len]; omega)]
def mp (d : df.Dfa) (T : List Nat) : df.Dfa := ⟨fun i => (xk d T 256).getD i 0, d.next, d.acc⟩
theorem mp_cls (d : df.Dfa) (T : List Nat) (i : Nat) (h : i < 256) : (mp d T).cls i = d.cls (T.getD i 0) := by
  show (xk d T 256).getD i 0 = _
  rw [List.getD_eq_getElem?_getD, xk_get _ _ _ _ h, if_pos h]; rfl
theorem mp_right (d : df.Dfa) (T : List Nat) (h : df.right d = true) (hT : ∀ i, i < 256 → T.getD i 0 < 256) : df.right (mp d T) = true := by
  have hok := df.ok_of d h
  unfold df.right at h ⊢
  simp only [Bool.and_eq_true] at h ⊢
  refine ⟨h.1, ?_⟩
  unfold df.clsOk
  rw [List.all_eq_true]
  intro i hi
  have hi := List.mem_range.1 hi
  rw [decide_eq_true_eq, mp_cls d T i hi]
  exact hok.cl _ (hT i hi)
set_option maxRecDepth 100000 in
theorem built26_2 (p s : Value) (hp : p.cells = #[p]) (hss : s.cells = #[s]) (d : df.Dfa) (T : List Nat) : ∃ cells, Try.prog.built 26 [(1, p), (2, s)] = some cells ∧ DCells cells (xk d T 0) p s := by
  have e : ∀ parts, Try.prog.built 26 parts = Instr.fill (fun i => (#[(0, 256), (256, 1), (257, 1)] : Array (Nat × Nat))[i]?) z26 parts := fun parts => by kernel_rfl
  rw [e, fill1 _ _ 1 256 1 p _ rfl (by rw [hp]; rfl) (by rw [z26_size]; omega)]
  rw [fill1 _ _ 2 257 1 s _ rfl (by rw [hss]; rfl) (by rw [lay_size, z26_size]; omega)]
  refine ⟨_, rfl, ?_⟩
  rw [hp, hss]
  have g1 : ∀ i, (List.foldl (fun cs (x : Value × Nat) => cs.setIfInBounds (256 + x.2) x.1) z26 (#[p] : Array Value).toList.zipIdx)[i]? = if i = 256 then some p else z26[i]? := fun i => by
    rw [lay_get _ 0 256 z26 i, z26_size]
    by_cases h : i = 256
    · subst h; rw [if_pos (by simp), if_pos rfl]; simp
    · rw [if_neg (by simp; omega), if_neg h]
  have hsz : (List.foldl (fun cs (x : Value × Nat) => cs.setIfInBounds (256 + x.2) x.1) z26 (#[p] : Array Value).toList.zipIdx).size = 258 := by rw [lay_size, z26_size]
  have g2 : ∀ i, (List.foldl (fun cs (x : Value × Nat) => cs.setIfInBounds (257 + x.2) x.1) (List.foldl (fun cs (x : Value × Nat) => cs.setIfInBounds (256 + x.2) x.1) z26 (#[p] : Array Value).toList.zipIdx) (#[s] : Array Value).toList.zipIdx)[i]? = if i = 257 then some s else if i = 256 then some p else z26[i]? := fun i => by
    rw [lay_get _ 0 257 _ i, hsz]
    by_cases h : i = 257
    · subst h; rw [if_pos (by simp), if_pos rfl]; simp
    · rw [if_neg (by simp; omega), if_neg h, g1]
  refine ⟨by rw [lay_size, hsz], fun i hi => ?_, ?_, ?_⟩
  · refine (g2 i).trans ?_
    rw [if_neg (by omega), if_neg (by omega), xk_get _ _ _ _ hi, if_neg (by omega)]
    unfold z26
    rw [List.getElem?_toArray, List.getElem?_append_left (by rw [List.length_replicate]; exact hi), List.getElem?_replicate, if_pos hi]
    rfl
  · refine (g2 256).trans ?_; rw [if_neg (by omega), if_pos rfl]
  · refine (g2 257).trans ?_; rw [if_pos rfl]
theorem DL.setC {w : World} {g : Nat} {X : List Nat} {nv av : Value} (h : DL w g X nv av) (k v : Nat) (hk : k < 256) (hX : X.length = 256) : DL (w.setCell ⟨g, k, none⟩ (.int .u8 (v : Int))) g (X.set k v) nv av := by
  obtain ⟨c, h, e⟩ := h
  have hz := e.size
  refine ⟨_, set_heap w _ _ _ k _ h, by simp [hz], fun i hi => ?_, ?_, ?_⟩
  · rw [wset _ _ _ (by omega)]
    by_cases h2 : i = k
    · subst h2
      rw [if_pos rfl, List.getElem?_set_self (by omega)]; rfl
    · rw [if_neg (by omega), List.getElem?_set_ne (by omega)]; exact e.cl i hi
  · rw [wset _ _ _ (by omega), if_neg (by omega)]; exact e.nx
  · rw [wset _ _ _ (by omega), if_neg (by omega)]; exact e.ac
theorem indexC (T : List Nat) (i : Nat) (hi : i < 256) (x : Nat) (hx : T[i]? = some x) (W : World) : (Instr.index 22 (.agg (ccs T)) (.int .i64 (i : Int))).run Try.prog W = .ok (.int .u8 (x : Int)) W :=
  df.run_index_arr 22 5 256 (ccs T) i hi (.int .u8 (x : Int)) (by simp [ccs, hx]) W Try.underlying22 (Try.isAgg5 W) (Try.sizeOf5 W)
end Go.Proofs.Ytkdkibnjfgcppaa.mi
