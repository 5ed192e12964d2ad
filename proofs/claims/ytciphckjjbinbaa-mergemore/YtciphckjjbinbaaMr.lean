/-
  Over this program: a merge more (append), the law's own alive; merges, and one merge, that came in as arguments.
-/
import Derived.Test.YtciphckjjbinbaaMn
import Derived.Test.YtciphckjjbinbaaMq
import Derived.Lib.SmallJoins
import Derived.Laws.OwnMore
namespace Go.Proofs.Ytciphckjjbinbaa.mg
open Go.ChangeShapes Go.WideShapes Go.ChangeAt Go.RowKit Go.Shelf Go.Maps
set_option linter.unusedVariables false

theorem below_iter (w : World) (s : ByteArray) (p : Nat) : Below w.heap.size w (w.iter s p) := (Below.refl _ _).alloc (Nat.le_refl _) _
theorem count_a (s : ByteArray) (hd : Utf8.decode s 0 = (97, 1)) (h0 : 0 < s.size) (hz : s.size ≤ 1) (w : World) :
    Calls Try.prog 24 #[.string s] w fun e w' => e = .returned (.int .i64 1) ∧ Below w.heap.size w w' := by
  have HD : Hid (Utf8.decode s 0 = (97, 1)) := hd
  clear hd
  go_enter Try.func24, Try.ntmps24
  go_wp2
  go_loopw [3] (fun v wr => ∃ pos, wr = w.iter s pos ∧ ((pos = 0 ∧ v = .int .i64 0) ∨ (¬ pos < s.size ∧ v = .int .i64 1))) (fun _ wr => s.size - wr.iterPos w.heap.size)
  case atStart => exact ⟨0, rfl, .inl ⟨rfl, rfl⟩⟩
  case round =>
    obtain ⟨pos, rfl, ⟨rfl, rfl⟩ | ⟨hpos, rfl⟩⟩ := hrel
    · have hnx := fun ty => run_next_any (P := Try.prog) w s 0 ty h0
      rw [HD.out] at hnx
      go_wp2
      go_roundw
      case rel => exact ⟨1, by simp, .inr ⟨by omega, rfl⟩⟩
      case measure => simp; omega
    · have hnx := fun ty => run_next_end (P := Try.prog) w s pos ty hpos
      go_wp2
      go_ret
      exact ⟨rfl, below_iter _ _ _⟩
theorem alive_any (w : World) : Calls Try.prog 20 #[] w fun e w' => e = .returned (.bool true) ∧ Below w.heap.size w w' := by
  have h21 := count_a ⟨#[97]⟩ (by decide) (by decide) (by decide)
  go_enter Try.func20, Try.ntmps20
  go_wp2_with fail
  refine (h21 _).mono ?_
  rintro e w1 ⟨rfl, b1⟩
  go_wp2
  go_ret
  exact ⟨rfl, b1⟩

def cellsM (l : List Mg) : List Value := l.flatMap fun m => [iv m.1, iv m.2]
theorem cellsM_len (l : List Mg) : (cellsM l).length = l.length * 2 := by
  induction l with
  | nil => rfl
  | cons m l ih => simp only [cellsM, List.flatMap_cons, List.length_append] at ih ⊢; rw [ih]; simp; omega
theorem cellsM_append (l k : List Mg) : cellsM (l ++ k) = cellsM l ++ cellsM k := by simp [cellsM]
theorem cellsM_one (l : List Mg) : ∀ u ∈ cellsM l, u.oneCell' = true := fun u hu => by
  obtain ⟨m, _, h⟩ := List.mem_flatMap.1 hu
  simp at h
  rcases h with rfl | rfl <;> rfl
theorem cellsM_get (l : List Mg) (i : Nat) (h : i < l.length) : (cellsM l)[i * 2]? = some (iv l[i].1) ∧ (cellsM l)[i * 2 + 1]? = some (iv l[i].2) := by
  induction l generalizing i with
  | nil => simp at h
  | cons s l ih =>
    cases i with
    | zero => exact ⟨rfl, rfl⟩
    | succ i =>
      have := ih i (by simpa using h)
      have e1 : (i + 1) * 2 = i * 2 + 1 + 1 := by omega
      rw [e1]
      exact this
def OwnM (W : World) (B : Nat) (v : Value) (l : List Mg) : Prop := W.ownsRow B 43 2 v l.length (cellsM l)
theorem OwnM.mgs {W : World} {B : Nat} {v : Value} {l : List Mg} (h : OwnM W B v l) : Mgs W v l := by
  rcases h.2 with ⟨rfl, h0⟩ | ⟨g, cap, cur, rfl, hb, hg, hn, hc, hs, ht⟩
  · have e : l = [] := List.length_eq_zero_iff.1 h0
    subst e
    exact ⟨_, _, rfl, Nat.le_refl _, by omega, fun i h => by simp at h⟩
  · refine ⟨_, cap, rfl, hn, by unfold maxLen at hc; omega, fun i hi => ⟨g, 0, rfl, (Array.getElem?_eq_some_iff.1 hg).1, ?_⟩⟩
    have h2 := cellsM_get l i hi
    have hl := cellsM_len l
    rw [Nat.zero_add, World.ownsRow.cellAt h (i * 2) (by omega), World.ownsRow.cellAt h (i * 2 + 1) (by omega)]
    exact h2
theorem info43 : (Try.prog.info? 43).map (fun i => (i.zero, i.size, i.bytes)) = some (some (.agg #[.int .i64 0, .int .i64 0]), 2, 16) := by kernel_rfl
theorem app_any (W : World) (B : Nat) (v : Value) (l k : List Mg) (hown : OwnM W B v l) (a : Addr) (c : Nat) (ty : TypeId) (hn : ∀ j u, (cellsM k)[j]? = some u → W.cell? (a.add j) = some u) (hsm : (l.length + k.length) * 16 ≤ 140737488355328) (hB : B ≤ W.heap.size) :
    ∃ v' w', (Builtin.append_ #[22, 22] ty #[v, .slice (some a) k.length c]).run Try.prog W = .ok v' w' ∧ OwnM w' B v' (l ++ k) ∧ W.grownBy w' v.ownBlock := by
  obtain ⟨i0, hi, hz0, hz1, hz2⟩ := info_parts info43
  obtain ⟨v', w', h1, h2, h3, _⟩ := run_append_own (P := Try.prog) W B 22 ty 43 i0 _ 2 16 Try.underlying22 hi hz0 hz1 hz2 rfl (by omega) v l.length (cellsM l) hown a k.length c (cellsM k) (cellsM_len k) hn (cellsM_one k) (by unfold maxLen; omega) hsm hB
  exact ⟨v', w', h1, by unfold OwnM; rw [List.length_append, cellsM_append]; exact h2, h3⟩
theorem app_l (W : World) (B : Nat) (v vl : Value) (l : List Mg) (hown : OwnM W B v []) (hv : Mgs W vl l) (hf : (vl = .slice none 0 0 ∧ l = []) ∨ ∃ a c, vl = .slice (some a) l.length c) (ty : TypeId) (hsm : l.length * 16 ≤ 140737488351232) (hB : B ≤ W.heap.size) :
    ∃ v' w', (Builtin.append_ #[22, 22] ty #[v, vl]).run Try.prog W = .ok v' w' ∧ OwnM w' B v' l ∧ W.grownBy w' v.ownBlock := by
  rcases hf with ⟨rfl, rfl⟩ | ⟨a, c, rfl⟩
  · obtain ⟨i0, hi, hz0, hz1, hz2⟩ := info_parts info43
    exact ⟨v, W, run_append_owned_none (P := Try.prog) W B 22 ty 43 i0 2 Try.underlying22 hi v 0 _ hown, hown, ⟨rfl, rfl, rfl, Nat.le_refl _, fun _ _ _ => rfl⟩⟩
  · have h := app_any W B v [] l hown a c ty (fun j u hj => by
      have hl : j < (cellsM l).length := (List.getElem?_eq_some_iff.1 hj).1
      rw [cellsM_len] at hl
      obtain ⟨i, hi⟩ : ∃ i, j = i * 2 ∨ j = i * 2 + 1 := ⟨j / 2, by omega⟩
      have hik : i < l.length := by omega
      obtain ⟨o, cap, e, _, _, hc⟩ := hv.form
      obtain ⟨b, off, eo, _, c1, c2⟩ := hc i hik
      subst eo
      obtain ⟨rfl, _⟩ : a = ⟨b, off, none⟩ ∧ c = cap := by simpa using e
      have ha : (⟨b, off, none⟩ : Addr).add j = ⟨b, off + j, none⟩ := by simp [Addr.add]
      rw [ha]
      have h2 := cellsM_get l i hik
      rcases hi with rfl | rfl
      · rw [h2.1] at hj; rw [← hj]; exact c1
      · rw [h2.2] at hj; rw [← hj, ← Nat.add_assoc]; exact c2) (by simp; omega) hB
    simpa using h
theorem app_1 (W : World) (B : Nat) (v : Value) (l : List Mg) (p : Mg) (g : Nat) (hown : OwnM W B v l) (hg : W.heap[g]? = some (.cells #[.int .i64 p.1, .int .i64 p.2] 43 (0, 0))) (ty : TypeId) (hsm : l.length * 16 ≤ 140737488351232) (hB : B ≤ W.heap.size) :
    ∃ v' w', (Builtin.append_ #[22, 22] ty #[v, .slice (some ⟨g, 0, none⟩) 1 1]).run Try.prog W = .ok v' w' ∧ OwnM w' B v' (l ++ [p]) ∧ W.grownBy w' v.ownBlock :=
  app_any W B v l [p] hown ⟨g, 0, none⟩ 1 ty (fun j u hj => by
    have hadd : (⟨g, 0, none⟩ : Addr).add j = ⟨g, j, none⟩ := by unfold Addr.add; split <;> simp_all
    rw [hadd, Lib.cell_of_heap hg]
    match j, hj with
    | 0, hj => exact hj
    | 1, hj => exact hj
    | (j + 2), hj => simp [cellsM] at hj) (by simp; omega) hB
theorem made_M (W : World) (B : Nat) (hB : B ≤ W.heap.size) : OwnM (W.alloc (.cells #[] 43)) B (.slice (some ⟨W.heap.size, 0, none⟩) 0 0) [] := ⟨rfl, .inr ⟨W.heap.size, 0, #[], rfl, hB, heap_alloc_new W _, Nat.le_refl _, by unfold maxLen; omega, rfl, rfl⟩⟩
theorem OwnM.later {W W' : World} {B : Nat} {v : Value} {l : List Mg} (h : OwnM W B v l) (b : Below W.heap.size W W') : OwnM W' B v l := ow.later h b
section
variable {op : Oper} {a : Act} {w : World}
theorem x_app22 {x y : Operand} {v u : Value} {v' : Value} {w' : World} (h : op.op = .call { callee := .builtin .append, args := #[x, y], argTypes := #[22, 22] }) (hx : a.eval x = v) (hy : a.eval y = u) (hr : (Builtin.append_ #[22, 22] op.type #[v, u]).run Try.prog w = .ok v' w') : (execOp a.eval op).run Try.prog w = .ok (.value v') w' := by
  unfold execOp
  simp only [h, resolve, invoke, builtin, Sem.run_bind, Sem.run_pure, Result.andThen_ok, List.map_toArray, List.map_cons, List.map_nil, hx, hy, hr]
theorem x_none22 (h : op.op = .buildSlice 22 0 #[]) : (execOp a.eval op).run Try.prog w = .ok (.value (.slice (some ⟨w.heap.size, 0, none⟩) 0 0)) (w.alloc (.cells #[] 43)) := by
  unfold execOp; rw [h]; kernel_rfl
theorem x_load43 {x : Operand} {g : Nat} {u v : Int} (h : op.op = .load 43 x) (hx : a.eval x = .pointer (some ⟨g, 0, none⟩)) (hc : w.heap[g]? = some (.cells #[.int .i64 u, .int .i64 v] 43 (0, 0))) : (execOp a.eval op).run Try.prog w = .ok (.value (.agg #[.int .i64 u, .int .i64 v])) w := by
  have h0 : w.cell? ⟨g, 0, none⟩ = some (.int .i64 u) := by rw [Lib.cell_of_heap hc]; rfl
  have h1 : w.cell? ⟨g, 1, none⟩ = some (.int .i64 v) := by rw [Lib.cell_of_heap hc]; rfl
  unfold execOp; rw [h]; simp only [hx]; go_simp
end
section
variable {H : Type} {enc : TypeId × Value → H} {W : World}
theorem open43 {base : Nat} {v : Value} {d : DataW H} {p : List MemPlace} (hok : Value.okWide Try.prog W .any base 43 v) (h0 : DataW.Trod enc Try.prog W 0 (fun _ => true) true 43 v d p) : ∃ m : Mg, v = .agg #[.int .i64 m.1, .int .i64 m.2] := by
  obtain ⟨v0, v1, y0, y1, n, rfl, _, _, t0, t1⟩ := Go.Joins.open_agg2 Try.underlying43 (by kernel_rfl) (by kernel_rfl) hok h0
  obtain ⟨s0, e0, _, _⟩ := DataW.trod_int Try.underlying3 t0
  obtain ⟨s1, e1, _, _⟩ := DataW.trod_int Try.underlying3 t1
  simp at e0 e1
  exact ⟨(s0, s1), by rw [e0, e1]⟩
theorem open22d {base : Nat} {v : Value} {d : DataW H} {p : List MemPlace} (hok : Value.okWide Try.prog W .any base 22 v) (h0 : DataW.Trod enc Try.prog W 0 (fun _ => true) true 22 v d p) : ∃ l, Mgs W v l ∧ ((v = .slice none 0 0 ∧ l = []) ∨ ∃ a c es sp, v = .slice (some a) l.length c ∧ d = .slice es sp ∧ es.length = l.length) := by
  obtain ⟨l, hM⟩ := open22 hok h0
  refine ⟨l, hM, ?_⟩
  obtain ⟨a, len, cap, rfl⟩ := okWide_slice Try.underlying22 hok
  obtain ⟨fuel, hf⟩ := h0
  obtain ⟨o, c, e, _⟩ := hM.form
  obtain ⟨rfl, rfl, rfl⟩ : a = o ∧ len = l.length ∧ cap = c := by simpa using e
  rcases Deep.open_slice_pairs Try.underlying22 Try.underlying43 (by kernel_rfl) rfl rfl (by kernel_rfl) (by kernel_rfl) hf with ⟨hcs, _⟩ | ⟨x, l', c', m, n, V0, V1, D0, D1, P0, P1, hcs, _, hl, hm, hmm, hx, hall⟩
  · simp [Value.cells] at hcs
    obtain ⟨rfl, h1, rfl⟩ := hcs
    left
    subst h1
    exact ⟨rfl, rfl⟩
  · simp [Value.cells] at hcs
    obtain ⟨rfl, h1, rfl⟩ := hcs
    simp only [Prod.mk.injEq] at hx
    obtain ⟨rfl, _⟩ := hx
    exact .inr ⟨x, cap, _, _, rfl, rfl, by simp [h1]⟩
end
end Go.Proofs.Ytciphckjjbinbaa.mg
