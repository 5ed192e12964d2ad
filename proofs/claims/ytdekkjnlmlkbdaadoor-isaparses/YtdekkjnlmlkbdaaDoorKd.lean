/-
  Lists of texts in memory; a line's parts (isa.apart).
-/
import Derived.Test.YtdekkjnlmlkbdaaDoorKc
import Derived.Test.YtdekkjnlmlkbdaaDoorAp
namespace Go.Proofs.YtdekkjnlmlkbdaaDoor.is
open Go.Proofs.YtdekkjnlmlkbdaaDoor.num
open Go.ChangeShapes Go.WideShapes Go.ChangeAt Go.RowKit
set_option linter.unusedVariables false

abbrev L8 := List UInt8
def cellsS (l : List L8) : List Value := l.map fun x => .string (ba x)
/-- a slice of texts that can be read -/
def StrsAt (w : World) (v : Value) (l : List L8) : Prop :=
  ∃ o cap, v = .slice o l.length cap ∧ l.length ≤ cap ∧ cap ≤ 9223372036854775807 ∧ (0 < l.length → ∃ b off, o = some ⟨b, off, none⟩ ∧ ∀ k (h : k < l.length), w.cell? ⟨b, off + k, none⟩ = some (.string (ba l[k])))
theorem cell_lt {w : World} {b o : Nat} {v : Value} (hc : w.cell? ⟨b, o, none⟩ = some v) : b < w.heap.size := by
  unfold World.cell? at hc
  by_cases hb : b < w.heap.size
  · exact hb
  · rw [Array.getElem?_eq_none (by simpa using hb)] at hc
    simp at hc
theorem StrsAt.later {w w' : World} {v : Value} {l : List L8} (h : StrsAt w v l) (b : Below w.heap.size w w') : StrsAt w' v l := by
  obtain ⟨o, cap, e, h1, h2, h3⟩ := h
  exact ⟨o, cap, e, h1, h2, fun hl => by
    obtain ⟨g, off, e2, h4⟩ := h3 hl
    refine ⟨g, off, e2, fun k hk => ?_⟩
    have hc := h4 k hk
    have eb := b.block g (cell_lt hc)
    simp only [World.cell?, eb]
    exact hc⟩
def RowS (w : World) (B : Nat) (v : Value) (l : List L8) : Prop := w.ownsRow B 9 1 v l.length (cellsS l)
theorem RowS.later {w w' : World} {B : Nat} {v : Value} {l : List L8} (h : RowS w B v l) (b : Below w.heap.size w w') : RowS w' B v l := ow.later h b
theorem RowS.read {w : World} {B : Nat} {v : Value} {l : List L8} (h : RowS w B v l) : StrsAt w v l := by
  obtain ⟨o, cap, e, h1, h2⟩ := ow.form h
  refine ⟨o, cap, e, h1, h2, fun hl => ?_⟩
  have hlen : (cellsS l).length = l.length := by simp [cellsS]
  obtain ⟨g, cap', e2, hg, _⟩ := ow.cell h 0 (by omega)
  rw [e2] at e
  simp at e
  refine ⟨g, 0, by rw [← e.1], fun k hk => ?_⟩
  obtain ⟨g', cap'', e3, _, hc⟩ := ow.cell h k (by omega)
  rw [e2] at e3
  simp at e3
  rw [Nat.zero_add, e3.1, hc]
  simp [cellsS]
theorem rowS_nil (w : World) (B : Nat) : RowS w B (.slice none 0 0) [] := ow.nil w B 9 1
theorem rowS_new (w : World) (B : Nat) (hB : B ≤ w.heap.size) : RowS (w.alloc (.cells #[] 9)) B (.slice (some ⟨w.heap.size, 0, none⟩) 0 0) [] :=
  ⟨rfl, .inr ⟨w.heap.size, 0, #[], rfl, hB, heap_alloc_new w _, Nat.le_refl _, by unfold maxLen; omega, rfl, rfl⟩⟩
theorem RowS.ne {w : World} {B : Nat} {v : Value} {l : List L8} (h : RowS w B v l) {k : Nat} {s : ByteArray} {p : Nat} (hk : w.heap[k]? = some (.stringIter s p)) : some k ≠ v.ownBlock := by
  intro e
  rcases h.2 with ⟨rfl, _⟩ | ⟨gg, cap, cur, rfl, _, hgg, _⟩
  · cases e
  · cases e
    rw [hk] at hgg
    cases hgg
theorem RowS.iter {w : World} {B : Nat} {v : Value} {l : List L8} (h : RowS w B v l) {k : Nat} {s : ByteArray} {p : Nat} (hk : w.heap[k]? = some (.stringIter s p)) (p' : Nat) : RowS (w.iterAt k s p') B v l :=
  ow.keep h fun g hg => Lib.iterAt_other w k g s p' fun e => h.ne hk (by rw [hg, e])
theorem info9 : (Tryd.prog.info? 9).map (fun i => (i.zero, i.size, i.bytes)) = some (some (.string ⟨#[]⟩), 1, 16) := by kernel_rfl

theorem wpList_appS {ops : Array Oper} {rest : List Oper} {o : Oper} {a : Act} {w : World} {Q : Exit → Act → World → Prop} (hgd : o.guard = none) (s x : Operand)
    (ho : o.op = Op.call { callee := Callee.builtin Builtin.append, args := #[s, x], argTypes := #[66, 66] })
    (B : Nat) (v : Value) (l : List L8) (g : Nat) (t : ByteArray) (hs : a.eval s = v) (hx : a.eval x = .slice (some ⟨g, 0, none⟩) 1 1) (hown : RowS w B v l) (hg : w.cell? ⟨g, 0, none⟩ = some (.string t)) (hsm : l.length ≤ 1000000) (hB : B ≤ w.heap.size)
    (hK : ∀ v' w', RowS w' B v' (l ++ [t.data.toList]) → Below B w w' → (∀ k, k < w.heap.size → some k ≠ v.ownBlock → w'.heap[k]? = w.heap[k]?) → wpList Tryd.prog ops Q rest (a.put o.dst v') w') : wpList Tryd.prog ops Q (o :: rest) a w := by
  refine ow.wpList_append hgd s x 66 ho 9 _ 1 16 Tryd.underlying66 info9 (by rfl) (by omega) (by omega) B v l.length (cellsS l) g [.string t] hs hx hown rfl ?_ ?_ hsm hB ?_
  · intro j u hj
    rcases j with _ | j
    · simp at hj; rw [← hj]; exact hg
    · simp at hj
  · intro u hu; rw [List.mem_singleton.1 hu]; rfl
  · intro g' cap' w' h1 h2 h3
    refine hK _ w' ?_ ((Below.refl B w).grown h2 hB (fun k hk => (ow.lt hown hk).1)) (fun k hk hne => h2.block k hk hne)
    unfold RowS
    rw [List.length_append]
    have e : cellsS (l ++ [t.data.toList]) = cellsS l ++ [.string t] := by simp only [cellsS, List.map_append, List.map_cons, List.map_nil]; rw [← ba_eq t]
    rw [e]
    exact h1

theorem decode_span (s : ByteArray) (pos : Nat) (h : pos < s.size) (ha : 128 ≤ (s[pos]'h).toNat) :
    pos + (Utf8.decode s pos).2 ≤ s.size ∧ ∀ j, pos ≤ j → j < pos + (Utf8.decode s pos).2 → 128 ≤ (s.get! j).toNat := by
  have hn : ¬ (s[pos]'h).toNat < 128 := by omega
  have h0 : 128 ≤ (s.get! pos).toNat := by have := get_at s pos h; rw [Nat.add_zero] at this; rw [this]; exact ha
  have one : ∀ j, pos ≤ j → j < pos + 1 → 128 ≤ (s.get! j).toNat := fun j h1 h2 => by
    have e : j = pos := by omega
    rw [e]; exact h0
  simp only [Utf8.decode, get_at s pos h, hn, if_false]
  split
  · rename_i h1
    simp only [Bool.and_eq_true, decide_eq_true_eq, beq_iff_eq] at h1
    split
    · exact ⟨by simp only; omega, fun j hj1 hj2 => by
        simp only at hj2
        rcases (by omega : j = pos ∨ j = pos + 1) with rfl | rfl
        · exact h0
        · omega⟩
    · exact ⟨by simp only; omega, fun j hj1 hj2 => one j hj1 hj2⟩
  · split
    · rename_i h1
      simp only [Bool.and_eq_true, decide_eq_true_eq, beq_iff_eq] at h1
      split
      · exact ⟨by simp only; omega, fun j hj1 hj2 => by
          simp only at hj2
          rcases (by omega : j = pos ∨ j = pos + 1 ∨ j = pos + 2) with rfl | rfl | rfl
          · exact h0
          · omega
          · omega⟩
      · exact ⟨by simp only; omega, fun j hj1 hj2 => one j hj1 hj2⟩
    · split
      · rename_i h1
        simp only [Bool.and_eq_true, decide_eq_true_eq, beq_iff_eq] at h1
        split
        · exact ⟨by simp only; omega, fun j hj1 hj2 => by
            simp only at hj2
            rcases (by omega : j = pos ∨ j = pos + 1 ∨ j = pos + 2 ∨ j = pos + 3) with rfl | rfl | rfl | rfl
            · exact h0
            · omega
            · omega
            · omega⟩
        · exact ⟨by simp only; omega, fun j hj1 hj2 => one j hj1 hj2⟩
      · exact ⟨by simp only; omega, fun j hj1 hj2 => one j hj1 hj2⟩
/-- what stands between two places -/
def mid (s : ByteArray) (a b : Nat) : L8 := (s.data.toList.take b).drop a
theorem mid_nil (s : ByteArray) (a : Nat) : mid s a a = [] := by unfold mid; rw [List.drop_eq_nil_of_le (by rw [List.length_take]; omega)]
theorem mid_ext (s : ByteArray) (a b : Nat) : (s.extract a b).data.toList = mid s a b := ext_list s a b
theorem mid_snoc (s : ByteArray) (a b : Nat) (hab : a ≤ b) (hb : b < s.size) : mid s a (b + 1) = mid s a b ++ [s[b]] := by
  unfold mid
  have h' : b < s.data.toList.length := by simpa using hb
  rw [List.take_add_one, List.getElem?_eq_getElem h', Option.toList_some, List.drop_append_of_le_length (by rw [List.length_take]; omega)]
  rfl
/-- a character that is no byte below 128, as bytes -/
theorem mid_high (s : ByteArray) (pos : Nat) (h : pos < s.size) (ha : 128 ≤ (s[pos]'h).toNat) (k : Nat) (hk : k = (Utf8.decode s pos).2) : pos + k ≤ s.size ∧ s.data.toList.drop pos = mid s pos (pos + k) ++ s.data.toList.drop (pos + k) ∧ ∀ b ∈ mid s pos (pos + k), 128 ≤ b.toNat := by
  obtain ⟨h1, h2⟩ := decode_span s pos h ha
  rw [← hk] at h1 h2
  refine ⟨h1, ?_, ?_⟩
  · unfold mid
    have e : (s.data.toList.take (pos + k)).drop pos ++ s.data.toList.drop (pos + k) = s.data.toList.drop pos := by
      rw [List.drop_take, show s.data.toList.drop (pos + k) = (s.data.toList.drop pos).drop k from by rw [List.drop_drop], Nat.add_sub_cancel_left, List.take_append_drop]
    exact e.symm
  · intro b hb
    unfold mid at hb
    rw [List.drop_take, Nat.add_sub_cancel_left] at hb
    obtain ⟨j, hj, rfl⟩ := List.mem_iff_getElem.1 hb
    have hj2 : j < k := by rw [List.length_take] at hj; omega
    have hjs : pos + j < s.size := by omega
    have := h2 (pos + j) (by omega) (by omega)
    have e : s.get! (pos + j) = s.data.toList[pos + j]'(by simpa using hjs) := by
      have e2 := get_at s (pos + j) hjs
      rw [Nat.add_zero] at e2
      rw [e2]; rfl
    rw [e] at this
    simpa using this
theorem mid_more (s : ByteArray) (a b k : Nat) (hab : a ≤ b) (hb : b ≤ s.size) : mid s a (b + k) = mid s a b ++ mid s b (b + k) := by
  unfold mid
  rw [List.drop_take, List.drop_take, List.drop_take, show b + k - a = (b - a) + k from by omega, List.take_add, List.drop_drop, show a + (b - a) = b from by omega, Nat.add_sub_cancel_left]
end Go.Proofs.YtdekkjnlmlkbdaaDoor.is
