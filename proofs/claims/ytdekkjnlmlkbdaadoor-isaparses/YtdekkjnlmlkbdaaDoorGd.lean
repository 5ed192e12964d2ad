/-
  Lists of instructions in memory: rows that a call owns, and slices that are read; the instruction at a place for all bytes; isa.Get.
-/
import Derived.Test.YtdekkjnlmlkbdaaDoorGc
import Derived.Test.YtdekkjnlmlkbdaaDoorAp
namespace Go.Proofs.YtdekkjnlmlkbdaaDoor.is
open Go.Proofs.YtdekkjnlmlkbdaaDoor.num
open Go.ChangeShapes Go.WideShapes Go.ChangeAt Go.RowKit
set_option linter.unusedVariables false

theorem geti_any (s : ByteArray) (p : Nat) (hs : s.size ≤ 1125899906842624) (hp : p ≤ s.size) (r : In) (to er : Nat) (h : rdI s.data.toList p = (r, to, er)) : GetIIs s p r to er := by
  obtain ⟨n, t, e, hg⟩ : ∃ n to e, gets s.data.toList p = (n, to, e) := ⟨_, _, _, rfl⟩
  by_cases he : e = 0
  · subst he
    by_cases hn : n < 1 ∨ 17 < n
    · rw [rdI_far hg hn] at h
      simp only [Prod.mk.injEq] at h
      obtain ⟨rfl, rfl, rfl⟩ := h
      by_cases h0 : 17 < n
      · exact geti_far s p hs hp n t hg h0
      · obtain rfl : n = 0 := by omega
        exact geti_nil s p hs hp t hg
    · rw [rdI_ok hg hn] at h
      exact geti_ok s p hs hp n t hg (by omega) (by omega) r to er h
  · rw [rdI_bad hg he] at h
    simp only [Prod.mk.injEq] at h
    obtain ⟨rfl, rfl, rfl⟩ := h
    exact geti_bad s p hs hp n t e hg he

def cI (i : In) : List Value := [.int .i64 i.op, .int .i64 i.a, .int .i64 i.b, .int .i64 i.c, .int .i64 i.d]
def cellsI (l : List In) : List Value := l.flatMap cI
theorem cellsI_len (l : List In) : (cellsI l).length = l.length * 5 := by
  induction l with
  | nil => rfl
  | cons i l ih => simp only [cellsI, List.flatMap_cons, List.length_append] at ih ⊢; rw [ih]; simp [cI]; omega
theorem cellsI_at (l : List In) (k : Nat) (h : k < l.length) (j : Nat) (hj : j < 5) : (cellsI l)[k * 5 + j]? = (cI l[k])[j]? := by
  induction l generalizing k with
  | nil => simp at h
  | cons i l ih =>
    rw [cellsI, List.flatMap_cons]
    have hl : (cI i).length = 5 := rfl
    cases k with
    | zero => rw [Nat.zero_mul, Nat.zero_add, List.getElem?_append_left (by omega)]; rfl
    | succ k =>
      rw [List.getElem?_append_right (by omega), hl, show (k + 1) * 5 + j - 5 = k * 5 + j from by omega]
      exact ih k (by simpa using h)
theorem cellsI_snoc (l : List In) (i : In) : cellsI (l ++ [i]) = cellsI l ++ cI i := by simp [cellsI]

/-- an instruction's five cells at a place -/
structure IAt (w : World) (b o : Nat) (i : In) : Prop where
  c0 : w.cell? ⟨b, o, none⟩ = some (.int .i64 i.op)
  c1 : w.cell? ⟨b, o + 1, none⟩ = some (.int .i64 i.a)
  c2 : w.cell? ⟨b, o + 2, none⟩ = some (.int .i64 i.b)
  c3 : w.cell? ⟨b, o + 3, none⟩ = some (.int .i64 i.c)
  c4 : w.cell? ⟨b, o + 4, none⟩ = some (.int .i64 i.d)
theorem IAt.lt {w : World} {b o : Nat} {i : In} (h : IAt w b o i) : b < w.heap.size := by
  have hc := h.c0
  unfold World.cell? at hc
  by_cases hb : b < w.heap.size
  · exact hb
  · rw [Array.getElem?_eq_none (by simpa using hb)] at hc
    simp at hc
theorem IAt.later {w w' : World} {b o : Nat} {i : In} (h : IAt w b o i) (l : Below w.heap.size w w') : IAt w' b o i := by
  have e := l.block b h.lt
  exact ⟨by simp only [World.cell?, e]; exact h.c0, by simp only [World.cell?, e]; exact h.c1, by simp only [World.cell?, e]; exact h.c2, by simp only [World.cell?, e]; exact h.c3, by simp only [World.cell?, e]; exact h.c4⟩

/-- a slice of instructions that can be read -/
def InsAt (w : World) (v : Value) (l : List In) : Prop :=
  ∃ o cap, v = .slice o l.length cap ∧ l.length ≤ cap ∧ cap ≤ 9223372036854775807 ∧ (0 < l.length → ∃ b off, o = some ⟨b, off, none⟩ ∧ ∀ k (h : k < l.length), IAt w b (off + k * 5) l[k])
theorem InsAt.later {w w' : World} {v : Value} {l : List In} (h : InsAt w v l) (b : Below w.heap.size w w') : InsAt w' v l := by
  obtain ⟨o, cap, e, h1, h2, h3⟩ := h
  exact ⟨o, cap, e, h1, h2, fun hl => by obtain ⟨g, off, e2, h4⟩ := h3 hl; exact ⟨g, off, e2, fun k hk => (h4 k hk).later b⟩⟩

/-- a row that the call owns -/
def RowI (w : World) (B : Nat) (v : Value) (l : List In) : Prop := w.ownsRow B 23 5 v l.length (cellsI l)
theorem RowI.read {w : World} {B : Nat} {v : Value} {l : List In} (h : RowI w B v l) : InsAt w v l := by
  obtain ⟨o, cap, e, h1, h2⟩ := ow.form h
  refine ⟨o, cap, e, h1, h2, fun hl => ?_⟩
  have hlen := cellsI_len l
  obtain ⟨g, cap', e2, hg, _⟩ := ow.cell h 0 (by omega)
  rw [e2] at e
  simp at e
  refine ⟨g, 0, by rw [← e.1], fun k hk => ?_⟩
  have cell : ∀ j, j < 5 → w.cell? ⟨g, 0 + k * 5 + j, none⟩ = (cI l[k])[j]? := fun j hj => by
    obtain ⟨g', cap'', e3, _, hc⟩ := ow.cell h (k * 5 + j) (by omega)
    rw [e2] at e3
    simp at e3
    rw [e3.1, Nat.zero_add, hc, ← cellsI_at l k hk j hj, List.getElem?_eq_getElem (by omega)]
  exact ⟨cell 0 (by omega), cell 1 (by omega), cell 2 (by omega), cell 3 (by omega), cell 4 (by omega)⟩
theorem RowI.later {w w' : World} {B : Nat} {v : Value} {l : List In} (h : RowI w B v l) (b : Below w.heap.size w w') : RowI w' B v l := ow.later h b
theorem rowI_nil (w : World) (B : Nat) : RowI w B (.slice none 0 0) [] := ow.nil w B 23 5
theorem info23 : (Tryd.prog.info? 23).map (fun i => (i.zero, i.size, i.bytes)) = some (some (.agg #[.int .i64 0, .int .i64 0, .int .i64 0, .int .i64 0, .int .i64 0]), 5, 40) := by kernel_rfl

theorem wpList_appI {ops : Array Oper} {rest : List Oper} {o : Oper} {a : Act} {w : World} {Q : Exit → Act → World → Prop} (hgd : o.guard = none) (s x : Operand)
    (ho : o.op = Op.call { callee := Callee.builtin Builtin.append, args := #[s, x], argTypes := #[25, 25] })
    (B : Nat) (v : Value) (l : List In) (g : Nat) (i : In) (hs : a.eval s = v) (hx : a.eval x = .slice (some ⟨g, 0, none⟩) 1 1) (hown : RowI w B v l) (hg : IBlk w g i) (hsm : l.length ≤ 1000000) (hB : B ≤ w.heap.size)
    (hK : ∀ v' w', RowI w' B v' (l ++ [i]) → Below B w w' → (∀ k, k < w.heap.size → some k ≠ v.ownBlock → w'.heap[k]? = w.heap[k]?) → wpList Tryd.prog ops Q rest (a.put o.dst v') w') : wpList Tryd.prog ops Q (o :: rest) a w := by
  refine ow.wpList_append hgd s x 25 ho 23 _ 5 40 Tryd.underlying25 info23 (by rfl) (by omega) (by omega) B v l.length (cellsI l) g (cI i) hs hx hown rfl ?_ ?_ hsm hB ?_
  · intro j u hj
    rcases (by have := (List.getElem?_eq_some_iff.1 hj).1; simp [cI] at this; omega : j = 0 ∨ j = 1 ∨ j = 2 ∨ j = 3 ∨ j = 4) with rfl | rfl | rfl | rfl | rfl
    · simp [cI] at hj; rw [← hj]; exact hg.c0
    · simp [cI] at hj; rw [← hj]; exact hg.c1
    · simp [cI] at hj; rw [← hj]; exact hg.c2
    · simp [cI] at hj; rw [← hj]; exact hg.c3
    · simp [cI] at hj; rw [← hj]; exact hg.c4
  · intro u hu; simp [cI] at hu; rcases hu with rfl | rfl | rfl | rfl | rfl <;> rfl
  · intro g' cap' w' h1 h2 h3
    refine hK _ w' (by unfold RowI; rw [List.length_append, cellsI_snoc]; exact h1) ?_ (fun k hk hne => h2.block k hk hne)
    exact (Below.refl B w).grown h2 hB (fun k hk => (ow.lt hown hk).1)
end Go.Proofs.YtdekkjnlmlkbdaaDoor.is
