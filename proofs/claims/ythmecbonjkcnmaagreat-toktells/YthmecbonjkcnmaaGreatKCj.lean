/-
  Configurations that came in as arguments: what their readings say of the memory.
-/
import Derived.Test.YthmecbonjkcnmaaGreatM15
import Derived.Test.YthmecbonjkcnmaaGreatM02
import Derived.Test.YthmecbonjkcnmaaGreatM17
namespace Go.Proofs.YthmecbonjkcnmaaGreat.cf
open Go.ChangeShapes Go.WideShapes Go.ChangeAt Go.RowKit
open st (Tr Q4 Is)
open ru (Ru Rus)
open mg (Mg Row In Mgs iv)
set_option linter.unusedVariables false

section
variable {H : Type} {enc : TypeId × Value → H} {W : World} {sp : Nat → Bool} {held : Bool}
theorem row_of {α : Type} [Inhabited α] (g : α → Value) (Pr : α → Prop) {t e : TypeId} (ht : Tryz.prog.underlying t = some (.slice e)) (hc : Tryz.prog.cellsOf e = 1)
    (dec : ∀ n V y, DataW.trod enc Tryz.prog W 0 sp held n e [V] = some y → ∃ x, V = g x ∧ Pr x) {fuel : Nat} {cs : List Value} {x : DataW H × List MemPlace} (h : DataW.trod enc Tryz.prog W 0 sp held fuel t cs = some x) :
    ∃ (o : Option Addr) (cap : Nat) (l : List α), cs = [.slice o l.length cap] ∧ Row (In W) W g o cap l ∧ ∀ x ∈ l, Pr x := by
  rcases Deep.open_slice1 ht hc h with ⟨rfl, _⟩ | ⟨a, len, cap, m, n, V, D, Pl, rfl, hb, hl, hm, hmm, _, hV⟩
  · exact ⟨none, 0, [], rfl, ⟨Nat.le_refl _, by omega, fun i hi => by simp at hi⟩, by simp⟩
  · have hlm : len ≤ m := by rw [hmm]; split <;> omega
    obtain ⟨f, hf⟩ := Deep.choose_lt (α := α) (p := fun i x => V i = g x ∧ Pr x) (fun i (hi : i < len) => dec n (V i) _ (hV i (by omega)).2)
    have hln : ((List.range len).map f).length = len := by simp
    unfold maxLen at hm
    refine ⟨some a, cap, (List.range len).map f, by rw [hln], ⟨by rw [hln]; exact hl, hm, fun i hi => ?_⟩, fun x hx => ?_⟩
    · rw [hln] at hi
      obtain ⟨b, off, spot⟩ := a
      have h1 := (hV i (by omega)).1
      have hspot : spot = none := by simpa [Addr.add] using World.cell?_spot (hV 0 (by omega)).1
      subst hspot
      have hadd : (⟨b, off, none⟩ : Addr).add i = ⟨b, off + i, none⟩ := by simp [Addr.add]
      rw [hadd] at h1
      refine ⟨b, off, rfl, block_lt_of_cell h1, ?_⟩
      rw [h1, (hf i hi).1]
      simp
    · obtain ⟨i, hi, rfl⟩ := List.mem_map.1 hx
      exact (hf i (List.mem_range.1 hi)).2
theorem rus_of {fuel : Nat} {cs : List Value} {y : DataW H × List MemPlace} (h : DataW.trod enc Tryz.prog W 0 sp held fuel 47 cs = some y) :
    ∃ (o : Option Addr) (cap : Nat) (l : List Ru), cs = [.slice o l.length cap] ∧ Rus W (.slice o l.length cap) l := by
  rcases Deep.open_slice_pairs Tryz.underlying47 Tryz.underlying80 (by kernel_rfl) rfl rfl (by kernel_rfl) (by kernel_rfl) h with ⟨hcs, _⟩ | ⟨x, len, cap, m, n, V0, V1, D0, D1, P0, P1, hcs, _, hl, hm, hmm, hx, hall⟩
  · subst hcs
    exact ⟨none, 0, [], rfl, .inl ⟨rfl, _, _, rfl⟩⟩
  · subst hcs
    have hlm : len ≤ m := by rw [hmm]; split <;> omega
    have each : ∀ i, i < len → ∃ y : Ru, W.cell? (x.add (i * 2)) = some (.string y.fr) ∧ W.cell? (x.add (i * 2 + 1)) = some (.string y.to) := by
      intro i hi
      obtain ⟨c0, c1, t0, t1⟩ := hall i (by omega)
      obtain ⟨s0, e0, y0, ws0⟩ := DataW.trod_string Tryz.underlying9 t0
      obtain ⟨s1, e1, y1, ws1⟩ := DataW.trod_string Tryz.underlying9 t1
      simp at e0 e1
      exact ⟨⟨s0, s1⟩, by rw [c0, e0], by rw [c1, e1]⟩
    obtain ⟨f, hfam⟩ := Deep.choose_lt each
    by_cases h0 : len = 0
    · subst h0
      exact ⟨some x, cap, [], rfl, .inl ⟨rfl, _, _, rfl⟩⟩
    · obtain ⟨b, off, spot⟩ := x
      have hc := (hfam 0 (by omega)).1
      have hspot : spot = none := by simpa [Addr.add] using World.cell?_spot hc
      subst hspot
      have hadd : ∀ i, (⟨b, off, none⟩ : Addr).add i = ⟨b, off + i, none⟩ := fun i => by simp [Addr.add]
      rw [hadd] at hc
      have hlen : ((List.range len).map f).length = len := by simp
      have hnth : ∀ i, i < len → ru.nth ((List.range len).map f) i = f i := by
        intro i hi
        unfold ru.nth
        rw [List.getD_eq_getElem?_getD, List.getElem?_map, List.getElem?_range hi]
        rfl
      refine ⟨some ⟨b, off, none⟩, cap, (List.range len).map f, by rw [hlen], .inr ⟨b, off, cap, rfl, by omega, by unfold maxLen at hm; omega, block_lt_of_cell hc, fun i hi => ?_⟩⟩
      rw [hlen] at hi
      have h := hfam i hi
      rw [hadd, hadd] at h
      rw [hnth i hi]
      exact ⟨h.1, by rw [Nat.add_assoc]; exact h.2⟩
theorem mgs_of {fuel : Nat} {cs : List Value} {y : DataW H × List MemPlace} (h : DataW.trod enc Tryz.prog W 0 sp held fuel 30 cs = some y) :
    ∃ (o : Option Addr) (cap : Nat) (l : List Mg), cs = [.slice o l.length cap] ∧ Mgs W (.slice o l.length cap) l := by
  rcases Deep.open_slice_pairs Tryz.underlying30 Tryz.underlying97 (by kernel_rfl) rfl rfl (by kernel_rfl) (by kernel_rfl) h with ⟨hcs, _⟩ | ⟨x, len, cap, m, n, V0, V1, D0, D1, P0, P1, hcs, _, hl, hm, hmm, hx, hall⟩
  · subst hcs
    exact ⟨none, 0, [], rfl, ⟨_, _, rfl, Nat.le_refl _, by omega, fun i h => by simp at h⟩⟩
  · subst hcs
    have hlm : len ≤ m := by rw [hmm]; split <;> omega
    have each : ∀ i, i < len → ∃ y : Mg, W.cell? (x.add (i * 2)) = some (iv y.1) ∧ W.cell? (x.add (i * 2 + 1)) = some (iv y.2) := by
      intro i hi
      obtain ⟨c0, c1, t0, t1⟩ := hall i (by omega)
      obtain ⟨s0, e0, y0, ws0⟩ := DataW.trod_int Tryz.underlying3 t0
      obtain ⟨s1, e1, y1, ws1⟩ := DataW.trod_int Tryz.underlying3 t1
      simp at e0 e1
      exact ⟨(s0, s1), by rw [c0, e0], by rw [c1, e1]⟩
    obtain ⟨f, hfam⟩ := Deep.choose_lt each
    have hlen : ((List.range len).map f).length = len := by simp
    refine ⟨some x, cap, (List.range len).map f, by rw [hlen], ⟨some x, cap, rfl, by rw [hlen]; exact hl, by unfold maxLen at hm; omega, fun i hi => ?_⟩⟩
    rw [hlen] at hi
    obtain ⟨b, off, spot⟩ := x
    have hc := (hfam 0 (by omega)).1
    have hspot : spot = none := by simpa [Addr.add] using World.cell?_spot hc
    subst hspot
    have hadd : ∀ i, (⟨b, off, none⟩ : Addr).add i = ⟨b, off + i, none⟩ := fun i => by simp [Addr.add]
    rw [hadd] at hc
    have h := hfam i hi
    rw [hadd, hadd] at h
    refine ⟨b, off, rfl, block_lt_of_cell hc, ?_, ?_⟩
    · rw [h.1]; simp
    · rw [Nat.add_assoc, h.2]; simp
theorem ints_of {fuel : Nat} {cs : List Value} {x : DataW H × List MemPlace} (h : DataW.trod enc Tryz.prog W 0 sp held fuel 32 cs = some x) :
    ∃ (o : Option Addr) (cap : Nat) (l : List Int), cs = [.slice o l.length cap] ∧ Row (In W) W iv o cap l := by
  obtain ⟨o, cap, l, h1, h2, _⟩ := row_of iv (fun _ => True) Tryz.underlying32 (by kernel_rfl) (fun n V y h => by
    obtain ⟨z, e, _, _⟩ := DataW.trod_int Tryz.underlying3 h
    simp at e
    exact ⟨z, e, trivial⟩) h
  exact ⟨o, cap, l, h1, h2⟩
theorem strs_of {fuel : Nat} {cs : List Value} {x : DataW H × List MemPlace} (h : DataW.trod enc Tryz.prog W 0 sp held fuel 31 cs = some x) :
    ∃ (o : Option Addr) (cap : Nat) (l : List ByteArray), cs = [.slice o l.length cap] ∧ Row (In W) W Value.string o cap l := by
  obtain ⟨o, cap, l, h1, h2, _⟩ := row_of Value.string (fun _ => True) Tryz.underlying31 (by kernel_rfl) (fun n V y h => by
    obtain ⟨z, e, _⟩ := DataW.trod_string Tryz.underlying9 h
    simp at e
    exact ⟨z, e, trivial⟩) h
  exact ⟨o, cap, l, h1, h2⟩
theorem pss_of {fuel : Nat} {cs : List Value} {x : DataW H × List MemPlace} (h : DataW.trod enc Tryz.prog W 0 sp held fuel 22 cs = some x) :
    ∃ (o : Option Addr) (cap : Nat) (l : List (List Ru)), cs = [.slice o l.length cap] ∧ Pss W o cap l := by
  obtain ⟨o, cap, l, h1, h2, h3⟩ := row_of (α := List Ru × Option Addr × Nat) (fun x => .slice x.2.1 x.1.length x.2.2) (fun x => Rus W (.slice x.2.1 x.1.length x.2.2) x.1) Tryz.underlying22 (by kernel_rfl) (fun n V y h => by
    obtain ⟨o, cap, l, e, hr⟩ := rus_of h
    simp at e
    exact ⟨(l, o, cap), e, hr⟩) h
  refine ⟨o, cap, l.map (·.1), by simpa using h1, by simpa using h2.fit, h2.top, fun i hi => ?_⟩
  have hi2 : i < l.length := by simpa using hi
  obtain ⟨b, off, e, hb, hc⟩ := h2.lie i hi2
  refine ⟨b, off, _, e, hb, hc, ?_⟩
  rw [nthP_eq _ i hi]
  simpa using h3 _ (List.getElem_mem hi2)
end
set_option maxRecDepth 100000 in
theorem open34 {H : Type} {enc : TypeId × Value → H} {W : World} {base : Nat} {v : Value} {d : DataW H} {q : List MemPlace} (hok : Value.okWide Tryz.prog W .any base 34 v) (h : DataW.Trod enc Tryz.prog W 0 (fun _ => true) true 34 v d q) :
    ∃ (c : Cf) (p : Cp), v = .agg (cv c p) ∧ (CfAt W c p ∧ c.t.sane) := by
  unfold Value.okWide at hok
  rw [Tryz.underlying34] at hok
  obtain ⟨cs, rfl, _⟩ := hok
  obtain ⟨fuel, hf⟩ := h
  obtain ⟨xs, n, hfu, hx, hl, hlen, hf⟩ := DataW.trod_struct Tryz.underlying34 hf
  have c34 : Tryz.prog.cellsOf 34 = 13 := by kernel_rfl
  have c22 : Tryz.prog.cellsOf 22 = 1 := by kernel_rfl
  have c29 : Tryz.prog.cellsOf 29 = 8 := by kernel_rfl
  have c30 : Tryz.prog.cellsOf 30 = 1 := by kernel_rfl
  have c31 : Tryz.prog.cellsOf 31 = 1 := by kernel_rfl
  have c32 : Tryz.prog.cellsOf 32 = 1 := by kernel_rfl
  rw [c34] at hl
  obtain ⟨cl⟩ := cs
  have hsz : cl.length = 13 := by simpa [Value.cells] using hl
  match cl, hsz with
  | [v0, v1, v2, v3, v4, v5, v6, v7, v8, v9, v10, v11, v12], _ =>
    match xs, hlen with
    | [y0, y1, y2, y3, y4, y5], _ =>
      have f0 : DataW.trod enc Tryz.prog W 0 _ _ n 22 (List.take (Tryz.prog.cellsOf 22) (List.drop 0 [v0, v1, v2, v3, v4, v5, v6, v7, v8, v9, v10, v11, v12])) = some y0 := hf 0 _ rfl
      have f1 : DataW.trod enc Tryz.prog W 0 _ _ n 29 (List.take (Tryz.prog.cellsOf 29) (List.drop 1 [v0, v1, v2, v3, v4, v5, v6, v7, v8, v9, v10, v11, v12])) = some y1 := hf 1 _ rfl
      have f2 : DataW.trod enc Tryz.prog W 0 _ _ n 30 (List.take (Tryz.prog.cellsOf 30) (List.drop 9 [v0, v1, v2, v3, v4, v5, v6, v7, v8, v9, v10, v11, v12])) = some y2 := hf 2 _ rfl
      have f3 : DataW.trod enc Tryz.prog W 0 _ _ n 31 (List.take (Tryz.prog.cellsOf 31) (List.drop 10 [v0, v1, v2, v3, v4, v5, v6, v7, v8, v9, v10, v11, v12])) = some y3 := hf 3 _ rfl
      have f4 : DataW.trod enc Tryz.prog W 0 _ _ n 32 (List.take (Tryz.prog.cellsOf 32) (List.drop 11 [v0, v1, v2, v3, v4, v5, v6, v7, v8, v9, v10, v11, v12])) = some y4 := hf 4 _ rfl
      have f5 : DataW.trod enc Tryz.prog W 0 _ _ n 32 (List.take (Tryz.prog.cellsOf 32) (List.drop 12 [v0, v1, v2, v3, v4, v5, v6, v7, v8, v9, v10, v11, v12])) = some y5 := hf 5 _ rfl
      rw [c22] at f0
      rw [c29] at f1
      rw [c30] at f2
      rw [c31] at f3
      rw [c32] at f4 f5
      obtain ⟨o0, p0, l0, e0, r0⟩ := pss_of f0
      obtain ⟨t, s, hsane, ht, e1⟩ := st.tree_of n n (Nat.le_refl _) _ _ f1
      obtain ⟨o2, p2, l2, e2, r2⟩ := mgs_of f2
      obtain ⟨o3, p3, l3, e3, r3⟩ := strs_of f3
      obtain ⟨o4, p4, l4, e4, r4⟩ := ints_of f4
      obtain ⟨o5, p5, l5, e5, r5⟩ := ints_of f5
      obtain ⟨o1, p1, _, _, _, rfl, _⟩ := ht.form
      simp at e0 e1 e2 e3 e4 e5
      obtain ⟨g1, g2, g3, g4, g5, g6, g7, g8⟩ := e1
      subst e0 e2 e3 e4 e5 g1 g2 g3 g4 g5 g6 g7 g8
      exact ⟨⟨l0, t, l2, l3, l4, l5⟩, ⟨o0, p0, o1, p1, o2, p2, o3, p3, o4, p4, o5, p5⟩, rfl, ⟨r0, ht, r2, r3, r4, r5⟩, hsane⟩
end Go.Proofs.YthmecbonjkcnmaaGreat.cf
