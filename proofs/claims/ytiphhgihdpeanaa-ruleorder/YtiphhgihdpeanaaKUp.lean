/-
  Over this program: lists of rules that the call makes (append); a region that draws, whose operations make memory one behind the other.
-/
import Derived.Test.YtiphhgihdpeanaaKUo
namespace Go.Proofs.Ytiphhgihdpeanaa.ru
open Go.RowKit Go.Shelf
set_option linter.unusedVariables false

def cellsR : List Ru → List Value
  | [] => []
  | r :: l => .string r.fr :: .string r.to :: cellsR l
theorem cellsR_len : ∀ l : List Ru, (cellsR l).length = l.length * 2
  | [] => rfl
  | r :: l => by simp [cellsR, cellsR_len l]; omega
theorem cellsR_append : ∀ l k : List Ru, cellsR (l ++ k) = cellsR l ++ cellsR k
  | [], k => rfl
  | r :: l, k => by simp [cellsR, cellsR_append l k]
theorem cellsR_one : ∀ l : List Ru, ∀ u ∈ cellsR l, u.oneCell' = true
  | [], u, h => by cases h
  | r :: l, u, h => by
    simp only [cellsR, List.mem_cons] at h
    rcases h with rfl | rfl | h
    · rfl
    · rfl
    · exact cellsR_one l u h
theorem nth_cons (r : Ru) (l : List Ru) (i : Nat) : nth (r :: l) (i + 1) = nth l i := rfl
theorem cellsR_get : ∀ (l : List Ru) (i : Nat), i < l.length → (cellsR l)[i * 2]? = some (.string (nth l i).fr) ∧ (cellsR l)[i * 2 + 1]? = some (.string (nth l i).to)
  | [], i, h => by simp at h
  | r :: l, 0, h => ⟨rfl, rfl⟩
  | r :: l, i + 1, h => by
    have := cellsR_get l i (by simpa using h)
    rw [nth_cons]
    show (Value.string r.fr :: Value.string r.to :: cellsR l)[(i + 1) * 2]? = _ ∧ (Value.string r.fr :: Value.string r.to :: cellsR l)[(i + 1) * 2 + 1]? = _
    rw [show (i + 1) * 2 = i * 2 + 1 + 1 by omega]
    exact this
theorem nth_drop (l : List Ru) (b i : Nat) : nth (l.drop b) i = nth l (b + i) := by
  unfold nth
  rw [List.getD_eq_getElem?_getD, List.getD_eq_getElem?_getD, List.getElem?_drop]
theorem nth_take (l : List Ru) (b i : Nat) (h : i < b) : nth (l.take b) i = nth l i := by
  unfold nth
  rw [List.getD_eq_getElem?_getD, List.getD_eq_getElem?_getD, List.getElem?_take_of_lt h]
theorem news_of {w : World} {rb ro : Nat} {k : List Ru} (h : ∀ i, i < k.length → w.cell? ⟨rb, ro + i * 2, none⟩ = some (.string (nth k i).fr) ∧ w.cell? ⟨rb, ro + i * 2 + 1, none⟩ = some (.string (nth k i).to)) :
    ∀ j u, (cellsR k)[j]? = some u → w.cell? ((⟨rb, ro, none⟩ : Addr).add j) = some u := by
  intro j u hj
  have hl : j < (cellsR k).length := (List.getElem?_eq_some_iff.1 hj).1
  rw [cellsR_len] at hl
  have ha : (⟨rb, ro, none⟩ : Addr).add j = ⟨rb, ro + j, none⟩ := by simp [Addr.add]
  rw [ha]
  obtain ⟨i, hi⟩ : ∃ i, j = i * 2 ∨ j = i * 2 + 1 := ⟨j / 2, by omega⟩
  have hik : i < k.length := by omega
  have h1 := h i hik
  have h2 := cellsR_get k i hik
  rcases hi with rfl | rfl
  · rw [h2.1] at hj
    rw [← hj]
    exact h1.1
  · rw [h2.2] at hj
    rw [← hj, ← Nat.add_assoc]
    exact h1.2
theorem rus_owns {w : World} {B : Nat} {v : Value} {l : List Ru} (h : w.ownsRow B 34 2 v l.length (cellsR l)) : Rus w v l := by
  rcases h.2 with ⟨rfl, h0⟩ | ⟨g, cap, cur, rfl, hb, hg, hn, hc, hs, ht⟩
  · exact .inl ⟨List.length_eq_zero_iff.1 h0, _, _, rfl⟩
  · refine .inr ⟨g, 0, cap, rfl, hn, by unfold maxLen at hc; omega, (Array.getElem?_eq_some_iff.1 hg).1, fun i hi => ?_⟩
    have h2 := cellsR_get l i hi
    have hl := cellsR_len l
    rw [Nat.zero_add, World.ownsRow.cellAt h (i * 2) (by omega), World.ownsRow.cellAt h (i * 2 + 1) (by omega)]
    exact h2
theorem info34b : (Try.prog.info? 34).map (fun i => (i.zero, i.size, i.bytes)) = some (some (.agg #[.string ⟨#[]⟩, .string ⟨#[]⟩]), 2, 32) := by kernel_rfl
/-- so many rules more -/
theorem app22 (w : World) (B : Nat) (v : Value) (l k : List Ru) (hown : w.ownsRow B 34 2 v l.length (cellsR l)) (a : Addr) (c : Nat) (ty : TypeId) (hn : ∀ j u, (cellsR k)[j]? = some u → w.cell? (a.add j) = some u) (hsm : l.length + k.length ≤ 1000) (hB : B ≤ w.heap.size) :
    ∃ v' w', (Builtin.append_ #[22, 22] ty #[v, .slice (some a) k.length c]).run Try.prog w = .ok v' w' ∧ w'.ownsRow B 34 2 v' (l ++ k).length (cellsR (l ++ k)) ∧ w.grownBy w' v.ownBlock := by
  obtain ⟨i0, hi, hz0, hz1, hz2⟩ := info_parts info34b
  obtain ⟨v', w', h1, h2, h3, _⟩ := run_append_own (P := Try.prog) w B 22 ty 34 i0 _ 2 32 Try.underlying22 hi hz0 hz1 hz2 rfl (by omega) v l.length (cellsR l) hown a k.length c (cellsR k) (cellsR_len k) hn (cellsR_one k) (by unfold maxLen; omega) (by omega) hB
  exact ⟨v', w', h1, by rw [List.length_append, cellsR_append]; exact h2, h3⟩
section
variable {ops : Array Oper} {S : World → Prop} {op : Oper} {a : Act} {Q : Exit → Act → World → Prop} {fuel : Nat} {listed : Array Bool} {w : World}
theorem eff_op (i k : Nat) {v : Value} {w' : World} (hr : Region.ready .any ops listed = [i]) (ho : ops[i]? = some op) (hd : op.dst = some k) (hw : Region.wanted op (yielded ops a.tmps) = true) (hx : (execOp a.eval op).run Try.prog w = .ok (.value v) w') (hS : S w')
    (h : wpAnyH Try.prog .any ops Q S fuel (listed.setIfInBounds i true) (a.put (some k) v) w') : wpAnyH Try.prog .any ops Q S (fuel + 1) listed a w := by
  refine wpAnyH_all hr (by simp) (fun j hj => ?_)
  simp at hj
  subst hj
  unfold wpOp
  simp only [ho, hw, if_true]
  refine .inl ?_
  unfold Oper.wp
  rw [hx]
  simp only [Oper.upon]
  rw [hd]
  exact ⟨hS, h⟩
theorem x_app22 {x y : Operand} {v u : Value} {v' : Value} {w' : World} (h : op.op = .call { callee := .builtin .append, args := #[x, y], argTypes := #[22, 22] }) (hx : a.eval x = v) (hy : a.eval y = u) (hr : (Builtin.append_ #[22, 22] op.type #[v, u]).run Try.prog w = .ok v' w') : (execOp a.eval op).run Try.prog w = .ok (.value v') w' := by
  unfold execOp
  simp only [h, resolve, invoke, builtin, Sem.run_bind, Sem.run_pure, Result.andThen_ok, List.map_toArray, List.map_cons, List.map_nil, hx, hy, hr]
theorem x_slice22f {x y : Operand} {b off n cap m : Nat} (h : op.op = .slice 22 x (some y) none none) (hx : a.eval x = .slice (some ⟨b, off, none⟩) n cap) (hy : a.eval y = .int .i64 (m : Int)) (hm : m < n) (hn : n ≤ cap) : (execOp a.eval op).run Try.prog w = .ok (.value (.slice (some ⟨b, off + m * 2, none⟩) (n - m) (cap - m))) w := by
  have h1 : (m : Int) ≤ (n : Int) := by omega
  have h2 : (n : Int) ≤ (cap : Int) := by omega
  unfold execOp; rw [h]; simp only [hx, hy, Option.map]; go_simp
  intro e
  omega
theorem x_slice22t {x y : Operand} {b off n cap m : Nat} (h : op.op = .slice 22 x none (some y) none) (hx : a.eval x = .slice (some ⟨b, off, none⟩) n cap) (hy : a.eval y = .int .i64 (m : Int)) (hm : m ≤ n) (hn : n ≤ cap) : (execOp a.eval op).run Try.prog w = .ok (.value (.slice (some ⟨b, off, none⟩) m cap)) w := by
  have h1 : (m : Int) ≤ (n : Int) := by omega
  have h2 : (n : Int) ≤ (cap : Int) := by omega
  have h3 : (m : Int) ≤ (cap : Int) := by omega
  unfold execOp; rw [h]; simp only [hx, hy, Option.map]; go_simp
theorem x_none22 (h : op.op = .buildSlice 22 0 #[]) : (execOp a.eval op).run Try.prog w = .ok (.value (.slice (some ⟨w.heap.size, 0, none⟩) 0 0)) (w.alloc (.cells #[] 34)) := by
  unfold execOp; rw [h]; kernel_rfl
end
end Go.Proofs.Ytiphhgihdpeanaa.ru
