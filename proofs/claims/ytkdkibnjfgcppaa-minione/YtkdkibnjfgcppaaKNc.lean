/-
  Memory: a text's bytes in a row of their own, exchanged one after the other, and made a text again; the law's own short.
-/
import Derived.Test.YtkdkibnjfgcppaaKNb
import Derived.Test.YtkdkibnjfgcppaaKNa
import Derived.Test.YtkdkibnjfgcppaaKDk
import Derived.Lib.ConvBytes
import Derived.Laws.IdiomStrings
import Derived.Laws.Append
namespace Go.Proofs.Ytkdkibnjfgcppaa.mi
open Go.ChangeShapes Go.WideShapes Go.ChangeAt Go.RowKit Go.Shelf Go.Maps
set_option linter.unusedVariables false

/-- the first k bytes are exchanged -/
def mixT (T : List Nat) (s : ByteArray) (k : Nat) : List Nat := (List.range s.size).map fun i => if i < k then T.getD (df.byteAt s i) 0 else df.byteAt s i
theorem mixT_len (T : List Nat) (s : ByteArray) (k : Nat) : (mixT T s k).length = s.size := by simp [mixT]
theorem mixT_get (T : List Nat) (s : ByteArray) (k i : Nat) (h : i < s.size) : (mixT T s k)[i]? = some (if i < k then T.getD (df.byteAt s i) 0 else df.byteAt s i) := by simp [mixT, h]
theorem mixT_set (T : List Nat) (s : ByteArray) (k : Nat) (h : k < s.size) : (mixT T s k).set k (T.getD (df.byteAt s k) 0) = mixT T s (k + 1) := by
  apply List.ext_getElem?
  intro i
  by_cases hi : i < s.size
  · rw [mixT_get T s (k + 1) i hi, List.getElem?_set]
    by_cases e : k = i
    · subst e
      rw [if_pos rfl, if_pos (by rw [mixT_len]; exact hi), if_pos (by omega)]
    · rw [if_neg e, mixT_get T s k i hi]
      by_cases h1 : i < k
      · rw [if_pos h1, if_pos (by omega)]
      · rw [if_neg h1, if_neg (by omega)]
  · rw [List.getElem?_eq_none (by rw [List.length_set, mixT_len]; omega), List.getElem?_eq_none (by rw [mixT_len]; omega)]
/-- a row of bytes, of which nothing is frozen -/
def BRow (w : World) (g : Nat) (l : List Nat) : Prop := ∃ (cs : Array Value) (fz : Nat × Nat), w.heap[g]? = some (.cells cs 5 fz) ∧ l.length ≤ fz.1 ∧ l.length ≤ cs.size ∧ ∀ (i x : Nat), l[i]? = some x → cs[i]? = some (Value.int .u8 (x : Int))
section
variable {w w' : World} {g : Nat} {l : List Nat}
theorem BRow.lt (h : BRow w g l) : g < w.heap.size := by
  obtain ⟨cs, fz, h1, _⟩ := h
  exact (Array.getElem?_eq_some_iff.1 h1).1
theorem BRow.later (h : BRow w g l) (b : Below w.heap.size w w') : BRow w' g l := by
  have hl := h.lt
  obtain ⟨cs, fz, h1, h2⟩ := h
  exact ⟨cs, fz, (b.block g hl).trans h1, h2⟩
theorem BRow.cell (h : BRow w g l) {i x : Nat} (hx : l[i]? = some x) : w.cell? ⟨g, i, none⟩ = some (.int .u8 (x : Int)) := by
  obtain ⟨cs, fz, h1, _, _, h3⟩ := h
  simp only [World.cell?, h1]
  exact h3 i x hx
theorem BRow.fz (h : BRow w g l) {i : Nat} (hi : i < l.length) : w.frozen? ⟨g, i, none⟩ = false := by
  obtain ⟨cs, fz, h1, h2, _⟩ := h
  simp only [World.frozen?, h1]
  obtain ⟨lo, hi'⟩ := fz
  have : ¬ lo ≤ i := by have : l.length ≤ lo := h2; omega
  simp [this]
theorem BRow.set (h : BRow w g l) {i : Nat} (hi : i < l.length) (x : Nat) : BRow (w.setCell ⟨g, i, none⟩ (.int .u8 (x : Int))) g (l.set i x) := by
  have hlt := h.lt
  obtain ⟨cs, fz, h1, h2, h3, h4⟩ := h
  refine ⟨cs.setIfInBounds i (.int .u8 (x : Int)), fz, ?_, by rw [List.length_set]; exact h2, by rw [List.length_set, Array.size_setIfInBounds]; exact h3, fun j y hy => ?_⟩
  · unfold World.setCell
    simp only
    rw [Array.getElem?_modify, if_pos rfl, h1]
    rfl
  · rw [Array.getElem?_setIfInBounds]
    rw [List.getElem?_set] at hy
    by_cases e : i = j
    · subst e
      rw [if_pos rfl, if_pos hi] at hy
      rw [if_pos rfl, if_pos (by omega), Option.some.inj hy]
    · rw [if_neg e] at hy ⊢
      exact h4 j y hy
end
theorem size_list (s : ByteArray) : s.data.toList.length = s.size := by cases s; rfl
theorem byteAt_list (s : ByteArray) (i : Nat) : df.byteAt s i = (s.data.toList.getD i 0).toNat := by
  unfold df.byteAt
  congr 1
  rw [List.getD_eq_getElem?_getD]
  by_cases h : i < s.size
  · rw [getElem?_pos s i h, List.getElem?_eq_getElem (by rw [size_list]; exact h)]; rfl
  · rw [getElem?_neg s i h, List.getElem?_eq_none (by rw [size_list]; omega)]
theorem conv37 (T : List Nat) (W : World) (s : ByteArray) (hs : s.size ≤ 1000000) : ∃ cap W', (convert 9 37 (.string s)).run Try.prog W = .ok (.slice (some ⟨W.heap.size, 0, none⟩) s.size cap) W' ∧ BRow W' W.heap.size (mixT T s 0) ∧ s.size ≤ cap ∧ cap ≤ 9223372036854775807 ∧ Below W.heap.size W W' := by
  have h1 := grownCap_ge W s.size 0 5
  have h2 := grownCap_le_maxLen W s.size 0 5 (by unfold maxLen; omega)
  have hsz : (Lib.bytesCells W 5 s).size = grownCap W s.size 0 5 := by
    have : s.data.size = s.size := rfl
    simp [Lib.bytesCells]
    omega
  unfold maxLen at h2
  refine ⟨_, _, Lib.run_convert_string_bytes W 9 37 5 s Try.underlying9 Try.underlying37 Try.underlying5, ⟨_, _, Lib.bytesWorld_at_new W 5 s, ?_, ?_, fun i x hx => ?_⟩, by omega, h2, ⟨rfl, rfl, rfl, by rw [Lib.bytesWorld_size]; omega, fun j hj => Lib.bytesWorld_at_old W 5 s j hj⟩⟩
  · rw [mixT_len]; show s.size ≤ (Lib.bytesCells W 5 s).size; omega
  · rw [mixT_len]; omega
  · have hi : i < s.size := by
      have := (List.getElem?_eq_some_iff.1 hx).1
      rwa [mixT_len] at this
    have h3 := Lib.bytesWorld_cell W 5 s i hi
    simp only [World.cell?, Lib.bytesWorld_at_new] at h3
    rw [mixT_get T s 0 i hi, if_neg (by omega)] at hx
    rw [← Option.some.inj hx, byteAt_list]
    exact h3
/-- the text with all bytes exchanged -/
def tT (T : List Nat) (s : ByteArray) : ByteArray := ⟨((mixT T s s.size).map by8).toArray⟩
theorem tT_size (T : List Nat) (s : ByteArray) : (tT T s).size = s.size := by
  show (((mixT T s s.size).map by8).toArray).size = s.size
  rw [List.size_toArray, List.length_map, mixT_len]
theorem tT_at (T : List Nat) (s : ByteArray) (hT : ∀ i, i < 256 → T.getD i 0 < 256) (i : Nat) (h : i < s.size) : df.byteAt (tT T s) i = T.getD (df.byteAt s i) 0 := by
  rw [byteAt_list]
  show ((((mixT T s s.size).map by8)).getD i 0).toNat = _
  rw [List.getD_eq_getElem?_getD, List.getElem?_map, mixT_get T s _ i h, if_pos h]
  exact by8_nat _ (hT _ (df.byte_lt s i))
theorem BRow.conv {W : World} {g : Nat} {T : List Nat} {s : ByteArray} (hT : ∀ i, i < 256 → T.getD i 0 < 256) (h : BRow W g (mixT T s s.size)) (cap : Nat) : (convert 37 9 (.slice (some ⟨g, 0, none⟩) s.size cap)).run Try.prog W = .ok (.string (tT T s)) W := by
  have hl : ((mixT T s s.size).map by8).length = s.size := by rw [List.length_map, mixT_len]
  have := run_convert_bytes_back (P := Try.prog) W 37 9 5 ⟨g, 0, none⟩ cap ((mixT T s s.size).map by8) Try.underlying37 Try.underlying5 Try.underlying9 (fun j hj => by
    rw [hl] at hj
    have hg := mixT_get T s s.size j hj
    rw [if_pos hj] at hg
    have hc := h.cell hg
    have ha : (⟨g, 0, none⟩ : Addr).add j = ⟨g, j, none⟩ := by simp only [Addr.add, Nat.zero_add]; simp; intro h; exact h.symm
    rw [ha, hc, List.getElem_map]
    have e : (mixT T s s.size)[j]'(by rw [mixT_len]; exact hj) = T.getD (df.byteAt s j) 0 := by
      have := List.getElem?_eq_getElem (l := mixT T s s.size) (i := j) (by rw [mixT_len]; exact hj)
      rw [hg] at this
      exact (Option.some.inj this).symm
    rw [e, by8_nat _ (hT _ (df.byte_lt s j))])
  rw [hl] at this
  exact this
set_option maxHeartbeats 1000000 in
theorem short15 (s : ByteArray) (hs : s.size ≤ 9223372036854775807) (w : World) : Calls Try.prog 15 #[.string s, .int .i64 500] w fun e w' => e = .returned (.string (df.cut s 500)) ∧ w' = w := by
  by_cases h : s.size ≤ 500
  · have e : df.cut s 500 = s := if_pos h
    rw [e]
    go_enter Try.func15, Try.ntmps15
    go_wp2_with (fail)
    go_ret
    exact ⟨rfl, rfl⟩
  · have e : df.cut s 500 = s.extract 0 500 := if_neg h
    rw [e]
    have h5 : (500 : Int) < (s.size : Int) := by omega
    go_enter Try.func15, Try.ntmps15
    go_wp2_with (fail)
    go_ret
    exact ⟨rfl, rfl⟩
end Go.Proofs.Ytkdkibnjfgcppaa.mi
