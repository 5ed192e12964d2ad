/-
  Plain, and memory: the walk step by step is 'it'; its rows read again; a row by classes.
-/
import Derived.Test.YtkdkibnjfgcppaaKMq
namespace Go.Proofs.Ytkdkibnjfgcppaa.mi
open Go.ChangeShapes Go.WideShapes Go.ChangeAt Go.RowKit Go.Shelf Go.Maps
set_option linter.unusedVariables false

theorem flat_get {rows : List (List Int)} (h : ∀ r ∈ rows, r.length = 256) : ∀ (i j : Nat) (hi : i < rows.length) (hj : j < 256), (flat rows)[i * 256 + j]? = (rows[i].map fun n : Int => Value.int .i64 n)[j]? := by
  induction rows with
  | nil => intro i j hi; simp at hi
  | cons r rows ih =>
    intro i j hi hj
    have hr : r.length = 256 := h r (by simp)
    have hf : flat (r :: rows) = ivs r ++ flat rows := by simp [flat]
    have hl : (ivs r).length = 256 := by simp [hr]
    rw [hf]
    cases i with
    | zero =>
      rw [List.getElem?_append_left (by rw [hl]; omega)]
      simp
    | succ i =>
      rw [List.getElem?_append_right (by rw [hl]; omega), hl, show (i + 1) * 256 + j - 256 = i * 256 + j by omega]
      exact ih (fun r hr => h r (by simp [hr])) i j (by simpa using hi) hj
theorem rows_of {w : World} {K : Nat} {rv : Value} {rows : List (List Int)} (h : w.ownsRow K 89 256 rv rows.length (flat rows)) (h256 : ∀ r ∈ rows, r.length = 256) (hn : 0 < rows.length) (hc : rows.length ≤ 1000) : ∃ q c, rv = .slice q rows.length c ∧ RRows (df.In w) w q c rows := by
  rcases h.2 with ⟨_, h0⟩ | ⟨g, cap, cur, e, _, hg, hnc, hcm, hsz, htk⟩
  · omega
  · refine ⟨some ⟨g, 0, none⟩, cap, e, hnc, (by unfold maxLen at hcm; exact hcm), h256, fun i hi => ⟨g, rfl, (Array.getElem?_eq_some_iff.1 hg).1, fun j v hv => ?_⟩⟩
    have hj : j < 256 := by have := (List.getElem?_eq_some_iff.1 hv).1; rw [List.length_map, h256 _ (List.getElem_mem hi)] at this; exact this
    rw [Lib.cell_of_heap hg, ← hv, ← flat_get h256 i j hi hj, ← htk, List.getElem?_take, if_pos (by have : (i + 1) * 256 ≤ rows.length * 256 := Nat.mul_le_mul_right _ hi; omega)]
    simp
/-- how far the walk is -/
structure Go_ (d : df.Dfa) (F : List Nat) (i : Nat) (nums : List Int) (S : List Int) (rows : List (List Int)) : Prop where
  eq : it ((dm d).lang (some 0)) i = (lgs d S, rows)
  num : Num (dm d) (pa F) (lgs d S) nums
  nd : (lgs d S).Nodup
  ins : ∀ x ∈ S, 0 ≤ x ∧ x < (d.next.length : Int)
  le : i ≤ S.length
  wk : ∀ j, j < i → j < (it ((dm d).lang (some 0)) j).1.length
theorem Go_.few {d : df.Dfa} {F : List Nat} {i : Nat} {nums S : List Int} {rows : List (List Int)} (h : Go_ d F i nums S rows) : S.length ≤ d.next.length := by
  have hnd : S.Nodup := List.Pairwise.of_map _ (fun a b h e => h (by rw [e])) h.nd
  have := few_of hnd (M := (List.range d.next.length).map fun n : Nat => (n : Int)) fun x hx => by
    have := h.ins x hx
    exact List.mem_map.2 ⟨x.toNat, List.mem_range.2 (by omega), by omega⟩
  simpa using this
theorem it_len (L : Lg) : ∀ k, (∀ j, j < k → j < (it L j).1.length) → (it L k).2.length = k := fun k h => (it_wk L k h).len
theorem Go_.step {d : df.Dfa} {F : List Nat} {i : Nat} {nums nums' S S' : List Int} {rows : List (List Int)} {s : Nat} (h : Go_ d F i nums S rows) (hs : S[i]? = some (s : Int)) (hv : Lv d F S s 256 nums' S') : Go_ d F (i + 1) nums' S' (rows ++ [(rowN (lgs d S) ((dm d).lang (some s)) 256).2]) := by
  have hL : (it ((dm d).lang (some 0)) i).1[i]? = some ((dm d).lang (some s)) := by
    rw [h.eq]
    show (lgs d S)[i]? = _
    unfold lgs
    rw [List.getElem?_map, hs]
    rfl
  refine ⟨?_, hv.num, hv.nd, hv.ins, ?_, ?_⟩
  · rw [it_next hL, h.eq, hv.lg]
  · have h1 := (List.getElem?_eq_some_iff.1 hs).1
    have h2 := hv.pre.length_le
    omega
  · intro j hj
    rcases Nat.lt_or_eq_of_le (Nat.le_of_lt_succ hj) with h1 | rfl
    · exact h.wk j h1
    · exact (List.getElem?_eq_some_iff.1 hL).1
theorem Go_.lv {d : df.Dfa} {F : List Nat} {i : Nat} {nums S : List Int} {rows : List (List Int)} (h : Go_ d F i nums S rows) (s : Nat) : Lv d F S s 0 nums S := lv_start s h.num h.nd h.ins

theorem firsts_dis (col : Nat → List Int) : ∀ k, ((firsts col k).map col).Nodup := by
  intro k
  induction k with
  | zero => simp [firsts]
  | succ k ih =>
    by_cases h : ∃ c ∈ firsts col k, col c = col k
    · rw [firsts_yes h]; exact ih
    · rw [firsts_no h, List.map_append, List.nodup_append]
      refine ⟨ih, by simp, fun a ha b hb e => ?_⟩
      simp at hb
      obtain ⟨c, hc, e2⟩ := List.mem_map.1 ha
      exact h ⟨c, hc, by rw [e2, e, hb]⟩
theorem cls_first (col : Nat → List Int) (k c : Nat) (hc : c < (firsts col k).length) : clsOf col k (firsts col k)[c] = c := by
  have hlt := firsts_lt col k _ (List.getElem_mem hc)
  obtain ⟨c', e1, e2⟩ := cls_at col hlt
  refine nodup_idx (firsts_dis col k) (x := col (firsts col k)[c]) ?_ ?_
  · rw [List.getElem?_map, e1, Option.map_some, e2]
  · rw [List.getElem?_map, List.getElem?_eq_getElem hc, Option.map_some]
/-! a row by classes -/
def byC (r : List Int) (cl : List Nat) (n : Nat) : Nat → List Int
  | 0 => List.replicate n 0
  | k + 1 => (byC r cl n k).set (cl.getD k 0) (r.getD k 0)
theorem byC_len (r : List Int) (cl : List Nat) (n k : Nat) : (byC r cl n k).length = n := by
  induction k with
  | zero => simp [byC]
  | succ k ih => rw [byC, List.length_set, ih]
set_option maxRecDepth 100000 in
theorem byC_all (rows : List (List Int)) (r : List Int) (hr : r ∈ rows) : byC r (clsL rows) (firsts (colOf rows) 256).length 256 = (firsts (colOf rows) 256).map fun c => r.getD c 0 := by
  have hcol : ∀ b c, colOf rows b = colOf rows c → r.getD b 0 = r.getD c 0 := fun b c h => by
    obtain ⟨i, hi, e⟩ := List.mem_iff_getElem.1 hr
    have := congrArg (fun l : List Int => l[i]?) h
    simp only [colOf, List.getElem?_map, List.getElem?_eq_getElem hi, Option.map_some, e] at this
    exact Option.some.inj this
  have key : ∀ k, k ≤ 256 → ∀ c, (hc : c < (firsts (colOf rows) 256).length) → (∃ b, b < k ∧ clsOf (colOf rows) 256 b = c) → (byC r (clsL rows) (firsts (colOf rows) 256).length k)[c]? = some (r.getD (firsts (colOf rows) 256)[c] 0) := by
    intro k
    induction k with
    | zero => rintro _ c hc ⟨b, hb, _⟩; omega
    | succ k ih =>
      rintro hk c hc ⟨b, hb, e⟩
      have hg : (clsL rows).getD k 0 = clsOf (colOf rows) 256 k := by rw [List.getD_eq_getElem?_getD, clsL_get rows k (by omega), Option.getD_some]
      rw [byC, hg]
      by_cases h2 : clsOf (colOf rows) 256 k = c
      · rw [h2, List.getElem?_set_self (by rw [byC_len]; exact hc)]
        obtain ⟨c', e1, e2⟩ := cls_at (colOf rows) (k := 256) (b := k) (by omega)
        rw [h2, List.getElem?_eq_getElem hc] at e1
        rw [Option.some.inj e1]
        exact congrArg some (hcol k c' e2.symm)
      · rw [List.getElem?_set_ne h2]
        refine ih (by omega) c hc ⟨b, ?_, e⟩
        rcases Nat.lt_or_eq_of_le (Nat.le_of_lt_succ hb) with h3 | h3
        · exact h3
        · exact absurd (h3 ▸ e) h2
  have hcf := cls_first (colOf rows) 256
  apply List.ext_getElem?
  intro c
  by_cases hc : c < (firsts (colOf rows) 256).length
  · have hmem := List.getElem_mem hc
    have hlt := firsts_lt (colOf rows) 256 _ hmem
    have hk := key 256 (by omega) c hc ⟨_, hlt, hcf c hc⟩
    refine hk.trans ?_
    rw [List.getElem?_map, List.getElem?_eq_getElem hc, Option.map_some]
  · rw [List.getElem?_eq_none (by rw [byC_len]; omega), List.getElem?_eq_none (by simpa using hc)]
end Go.Proofs.Ytkdkibnjfgcppaa.mi
