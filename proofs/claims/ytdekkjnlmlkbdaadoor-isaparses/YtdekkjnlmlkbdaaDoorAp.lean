/-
  Rows of any elements that a call owns: one more element (append), where the new row lies.
-/
import Derived.Test.YtdekkjnlmlkbdaaDoorRows
import Derived.WalkKit
import Derived.ProofKit
import Derived.Lib.Builder
import Derived.OwnWalk
import Derived.Maps.AppendAt
import Derived.Laws.OwnMore
import Derived.RangeFuncBox
namespace Go.Proofs.YtdekkjnlmlkbdaaDoor.ow
open Go.RowKit
set_option linter.unusedVariables false
set_option maxRecDepth 100000

section
variable {W W' : World} {B e sz n : Nat} {v : Value} {xs : List Value}
theorem keep (h : W.ownsRow B e sz v n xs) (hh : ∀ g, v.ownBlock = some g → W'.heap[g]? = W.heap[g]?) : W'.ownsRow B e sz v n xs := by
  refine ⟨h.1, ?_⟩
  rcases h.2 with h0 | ⟨g, cap, cur, rfl, hb, hg, hr⟩
  · exact .inl h0
  · exact .inr ⟨g, cap, cur, rfl, hb, (hh g rfl).trans hg, hr⟩
theorem lt (h : W.ownsRow B e sz v n xs) {g : Nat} (e : v.ownBlock = some g) : B ≤ g ∧ g < W.heap.size := by
  rcases h.2 with ⟨rfl, _⟩ | ⟨gg, cap, cur, rfl, hb, hgg, _⟩
  · cases e
  · cases e; exact ⟨hb, (Array.getElem?_eq_some_iff.1 hgg).1⟩
theorem later (h : W.ownsRow B e sz v n xs) (b : Below W.heap.size W W') : W'.ownsRow B e sz v n xs := keep h fun g eg => b.block g (lt h eg).2
theorem type (h : W.ownsRow B e sz v n xs) {g : Nat} {cs : Array Value} {t : TypeId} {fr : Nat × Nat} (hg : W.heap[g]? = some (.cells cs t fr)) (ht : t ≠ e) : some g ≠ v.ownBlock := by
  intro e
  rcases h.2 with ⟨rfl, _⟩ | ⟨gg, cap, cur, rfl, _, hgg, _⟩
  · cases e
  · cases e
    rw [hg] at hgg
    cases hgg
    exact ht rfl
theorem form (h : W.ownsRow B e sz v n xs) : ∃ g cap, v = .slice g n cap ∧ n ≤ cap ∧ cap ≤ 9223372036854775807 := by
  rcases h.2 with ⟨rfl, rfl⟩ | ⟨gg, cap, cur, rfl, hb, _, h1, h2, _⟩
  · exact ⟨_, _, rfl, Nat.le_refl _, by omega⟩
  · exact ⟨_, _, rfl, h1, by unfold maxLen at h2; omega⟩
theorem cell (h : W.ownsRow B e sz v n xs) (i : Nat) (hi : i < xs.length) : ∃ g cap, v = .slice (some ⟨g, 0, none⟩) n cap ∧ g < W.heap.size ∧ W.cell? ⟨g, i, none⟩ = some xs[i] := by
  rcases h.2 with ⟨rfl, rfl⟩ | ⟨gg, cap, cur, rfl, hb, hg, h1, h2, h3, h4⟩
  · have := h.1; omega
  · refine ⟨gg, cap, rfl, (Array.getElem?_eq_some_iff.1 hg).1, ?_⟩
    rw [Lib.cell_of_heap hg]
    have hx := h.1
    subst h4
    have hc : i < cur.size := by
      simp at hi; omega
    simp [hc]
end
theorem nil (W : World) (B e sz : Nat) : W.ownsRow B e sz (.slice none 0 0) 0 [] := ⟨by simp, .inl ⟨rfl, rfl⟩⟩

theorem append_any (w : World) (t ty e : TypeId) (z : Value) (sz bytes : Nat) (hu : Tryd.prog.underlying t = some (.slice e)) (hinfo : (Tryd.prog.info? e).map (fun i => (i.zero, i.size, i.bytes)) = some (some z, sz, bytes)) (hzs : z.cells.size = sz) (hsz : 0 < sz) (hby : bytes ≤ 1000)
    (B : Nat) (v : Value) (n : Nat) (xs : List Value) (hown : w.ownsRow B e sz v n xs) (g : Nat) (news : List Value) (hnl : news.length = sz) (hnews : ∀ j u, news[j]? = some u → w.cell? ((⟨g, 0, none⟩ : Addr).add j) = some u) (hone : ∀ u ∈ news, u.oneCell' = true) (hsm : n ≤ 1000000) (hB : B ≤ w.heap.size) :
    ∃ g' cap' w', (Builtin.append_ #[t, t] ty #[v, .slice (some ⟨g, 0, none⟩) 1 1]).run Tryd.prog w = .ok (.slice (some ⟨g', 0, none⟩) (n + 1) cap') w' ∧ w'.ownsRow B e sz (.slice (some ⟨g', 0, none⟩) (n + 1) cap') (n + 1) (xs ++ news) ∧ w.grownBy w' v.ownBlock ∧ (some g' = v.ownBlock ∨ w.heap.size ≤ g') := by
  obtain ⟨i0, hi, hz0, hz1, hz2⟩ := info_parts hinfo
  have hbb : (n + 1) * bytes ≤ 140737488355328 := Nat.le_trans (Nat.mul_le_mul (show n + 1 ≤ 1000001 by omega) hby) (by decide)
  obtain ⟨v', w', hr, h2, h3, h4⟩ := run_append_own (P := Tryd.prog) w B t ty e i0 _ sz bytes hu hi hz0 hz1 hz2 hzs hsz v n _ hown ⟨g, 0, none⟩ 1 1 news (by omega) hnews hone (by unfold maxLen; omega) hbb hB
  obtain ⟨g', cap', rfl⟩ := ownsRow_succ h2
  refine ⟨g', cap', w', hr, h2, h3, ?_⟩
  have hl2 : news.length = 1 * i0.size := by rw [hz1]; omega
  rcases hown.2 with ⟨rfl, h0⟩ | ⟨gg, cap, cur, rfl, hbg, hg, hnc, hcm, hcs, htake⟩
  · have hr2 := run_append_nil (P := Tryd.prog) w t ty e i0 _ hu hi hz0 ⟨g, 0, none⟩ 1 1 news hl2 hnews (by omega) (by omega) (by rw [hz2]; omega)
    rw [hr2] at hr
    injection hr with e1 e2
    simp at e1
    exact .inr (by omega)
  · by_cases hroom : n + 1 ≤ cap
    · have hfit : n * i0.size + news.length ≤ cur.size := by rw [hl2, hcs, hz1, ← Nat.add_mul]; exact Nat.mul_le_mul_right _ hroom
      have hr2 := run_append_room (P := Tryd.prog) w t ty e i0 hu hi gg n cap cur hg ⟨g, 0, none⟩ 1 1 news hl2 hnews hone hroom hfit
      rw [hr2] at hr
      injection hr with e1 e2
      simp at e1
      exact .inl (by simp [Value.ownBlock, e1.1])
    · have hr2 := run_append_grow (P := Tryd.prog) w t ty e i0 _ hu hi hz0 ⟨gg, 0, none⟩ n cap _ (by rw [hz1]; exact hown.1) (hown.cells (g := gg) rfl) ⟨g, 0, none⟩ 1 1 news hl2 hnews (by omega) (by omega) (growslice_fits (by omega) (by rw [hz2]; exact hbb))
      rw [hr2] at hr
      injection hr with e1 e2
      simp at e1
      exact .inr (by omega)
theorem wp_append {o : Oper} {a : Act} {w : World} {K : Act → World → Prop} {Q : Exit → Act → World → Prop} (s x : Operand) (t : TypeId)
    (ho : o.op = Op.call { callee := Callee.builtin Builtin.append, args := #[s, x], argTypes := #[t, t] }) (e : TypeId) (z : Value) (sz bytes : Nat) (hu : Tryd.prog.underlying t = some (.slice e)) (hinfo : (Tryd.prog.info? e).map (fun i => (i.zero, i.size, i.bytes)) = some (some z, sz, bytes)) (hzs : z.cells.size = sz) (hsz : 0 < sz) (hby : bytes ≤ 1000)
    (B : Nat) (v : Value) (n : Nat) (xs : List Value) (g : Nat) (news : List Value) (hs : a.eval s = v) (hx : a.eval x = .slice (some ⟨g, 0, none⟩) 1 1) (hown : w.ownsRow B e sz v n xs) (hnl : news.length = sz) (hnews : ∀ j u, news[j]? = some u → w.cell? ((⟨g, 0, none⟩ : Addr).add j) = some u) (hone : ∀ u ∈ news, u.oneCell' = true) (hsm : n ≤ 1000000) (hB : B ≤ w.heap.size)
    (hK : ∀ g' cap' w', w'.ownsRow B e sz (.slice (some ⟨g', 0, none⟩) (n + 1) cap') (n + 1) (xs ++ news) → w.grownBy w' v.ownBlock → (some g' = v.ownBlock ∨ w.heap.size ≤ g') → K (a.put o.dst (.slice (some ⟨g', 0, none⟩) (n + 1) cap')) w') : Oper.wp Tryd.prog o a w K Q := by
  obtain ⟨g', cap', w', hr, h2, h3, h4⟩ := append_any w t o.type e z sz bytes hu hinfo hzs hsz hby B v n xs hown g news hnl hnews hone hsm hB
  unfold Oper.wp execOp
  simp only [ho, resolve, invoke, builtin, Sem.run_bind, Sem.run_pure, Result.andThen_ok, List.map_toArray, List.map_cons, List.map_nil, hs, hx, hr]
  exact hK g' cap' w' h2 h3 h4
theorem wpList_append {ops : Array Oper} {rest : List Oper} {o : Oper} {a : Act} {w : World} {Q : Exit → Act → World → Prop} (hgd : o.guard = none) (s x : Operand) (t : TypeId)
    (ho : o.op = Op.call { callee := Callee.builtin Builtin.append, args := #[s, x], argTypes := #[t, t] }) (e : TypeId) (z : Value) (sz bytes : Nat) (hu : Tryd.prog.underlying t = some (.slice e)) (hinfo : (Tryd.prog.info? e).map (fun i => (i.zero, i.size, i.bytes)) = some (some z, sz, bytes)) (hzs : z.cells.size = sz) (hsz : 0 < sz) (hby : bytes ≤ 1000)
    (B : Nat) (v : Value) (n : Nat) (xs : List Value) (g : Nat) (news : List Value) (hs : a.eval s = v) (hx : a.eval x = .slice (some ⟨g, 0, none⟩) 1 1) (hown : w.ownsRow B e sz v n xs) (hnl : news.length = sz) (hnews : ∀ j u, news[j]? = some u → w.cell? ((⟨g, 0, none⟩ : Addr).add j) = some u) (hone : ∀ u ∈ news, u.oneCell' = true) (hsm : n ≤ 1000000) (hB : B ≤ w.heap.size)
    (hK : ∀ g' cap' w', w'.ownsRow B e sz (.slice (some ⟨g', 0, none⟩) (n + 1) cap') (n + 1) (xs ++ news) → w.grownBy w' v.ownBlock → (some g' = v.ownBlock ∨ w.heap.size ≤ g') → wpList Tryd.prog ops Q rest (a.put o.dst (.slice (some ⟨g', 0, none⟩) (n + 1) cap')) w') : wpList Tryd.prog ops Q (o :: rest) a w := by
  refine wpList_plain hgd fun K hK' => ?_
  refine wp_append s x t ho e z sz bytes hu hinfo hzs hsz hby B v n xs g news hs hx hown hnl hnews hone hsm hB ?_
  intro g' cap' w' h1 h2 h3
  exact hK' _ _ (hK g' cap' w' h1 h2 h3)
theorem step_append {ops : Array Oper} {o : Oper} {a : Act} {w : World} {K : Act → World → Prop} {Q : Exit → Act → World → Prop} {E : Prop} (hgd : o.guard = none) (s x : Operand) (t : TypeId)
    (ho : o.op = Op.call { callee := Callee.builtin Builtin.append, args := #[s, x], argTypes := #[t, t] }) (e : TypeId) (z : Value) (sz bytes : Nat) (hu : Tryd.prog.underlying t = some (.slice e)) (hinfo : (Tryd.prog.info? e).map (fun i => (i.zero, i.size, i.bytes)) = some (some z, sz, bytes)) (hzs : z.cells.size = sz) (hsz : 0 < sz) (hby : bytes ≤ 1000)
    (B : Nat) (v : Value) (n : Nat) (xs : List Value) (g : Nat) (news : List Value) (hs : a.eval s = v) (hx : a.eval x = .slice (some ⟨g, 0, none⟩) 1 1) (hown : w.ownsRow B e sz v n xs) (hnl : news.length = sz) (hnews : ∀ j u, news[j]? = some u → w.cell? ((⟨g, 0, none⟩ : Addr).add j) = some u) (hone : ∀ u ∈ news, u.oneCell' = true) (hsm : n ≤ 1000000) (hB : B ≤ w.heap.size)
    (hK : ∀ g' cap' w', w'.ownsRow B e sz (.slice (some ⟨g', 0, none⟩) (n + 1) cap') (n + 1) (xs ++ news) → w.grownBy w' v.ownBlock → (some g' = v.ownBlock ∨ w.heap.size ≤ g') → K (a.put o.dst (.slice (some ⟨g', 0, none⟩) (n + 1) cap')) w') : if Region.wanted o (yielded ops a.tmps) = true then Oper.wp Tryd.prog o a w K Q else E := by
  have hw : Region.wanted o (yielded ops a.tmps) = true := by simp [Region.wanted, hgd]
  rw [if_pos hw]
  exact wp_append s x t ho e z sz bytes hu hinfo hzs hsz hby B v n xs g news hs hx hown hnl hnews hone hsm hB hK
end Go.Proofs.YtdekkjnlmlkbdaaDoor.ow
