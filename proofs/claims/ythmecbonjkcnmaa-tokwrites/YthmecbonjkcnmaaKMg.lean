/-
  Lists of merges and of ids that came in as arguments.
-/
import Derived.Test.YthmecbonjkcnmaaKMf
import Derived.Laws.IdiomArrays
import Derived.Deep.Slices
import Derived.Deep.SlicePairs
import Derived.SizedLaws
import Derived.ChangeOld
import Derived.Below
import Derived.OpenShut
namespace Go.Proofs.Ythmecbonjkcnmaa.mg
open Go.ChangeShapes Go.WideShapes Go.ChangeAt Go.RowKit
set_option linter.unusedVariables false

section
variable {H : Type} {enc : TypeId × Value → H} {W : World}
theorem row_of {sp : Nat → Bool} {held : Bool} {α : Type} [Inhabited α] (g : α → Value) {t e : TypeId} (ht : Try.prog.underlying t = some (.slice e)) (hc : Try.prog.cellsOf e = 1)
    (dec : ∀ n V y, DataW.trod enc Try.prog W 0 sp held n e [V] = some y → ∃ x, V = g x) {fuel : Nat} {cs : List Value} {x : DataW H × List MemPlace} (h : DataW.trod enc Try.prog W 0 sp held fuel t cs = some x) :
    ∃ (o : Option Addr) (cap : Nat) (l : List α), cs = [.slice o l.length cap] ∧ Row (In W) W g o cap l := by
  rcases Deep.open_slice1 ht hc h with ⟨rfl, _⟩ | ⟨a, len, cap, m, n, V, D, Pl, rfl, hb, hl, hm, hmm, _, hV⟩
  · exact ⟨none, 0, [], rfl, Nat.le_refl _, by omega, fun i hi => by simp at hi⟩
  · have hlm : len ≤ m := by rw [hmm]; split <;> omega
    obtain ⟨f, hf⟩ := Deep.choose_lt (α := α) (p := fun i x => V i = g x) (fun i (hi : i < len) => dec n (V i) _ (hV i (by omega)).2)
    have hln : ((List.range len).map f).length = len := by simp
    unfold maxLen at hm
    refine ⟨some a, cap, (List.range len).map f, by rw [hln], by rw [hln]; exact hl, hm, fun i hi => ?_⟩
    rw [hln] at hi
    obtain ⟨b, off, spot⟩ := a
    have h1 := (hV i (by omega)).1
    have hspot : spot = none := by simpa [Addr.add] using World.cell?_spot (hV 0 (by omega)).1
    subst hspot
    have hadd : (⟨b, off, none⟩ : Addr).add i = ⟨b, off + i, none⟩ := by simp [Addr.add]
    rw [hadd] at h1
    refine ⟨b, off, rfl, block_lt_of_cell h1, ?_⟩
    rw [h1, hf i hi]
    simp
theorem open32 {base : Nat} {v : Value} {d : DataW H} {p : List MemPlace} (hok : Value.okWide Try.prog W .any base 32 v) (h0 : DataW.Trod enc Try.prog W 0 (fun _ => true) true 32 v d p) : ∃ l, IntsV W v l := by
  obtain ⟨a, len, cap, rfl⟩ := okWide_slice Try.underlying32 hok
  obtain ⟨fuel, hf⟩ := h0
  obtain ⟨o, c, l, e, h⟩ := row_of iv Try.underlying32 (by kernel_rfl) (fun n V y h => by
    obtain ⟨z, e, _, _⟩ := DataW.trod_int Try.underlying3 h
    simp at e
    exact ⟨z, e⟩) hf
  simp [Value.cells] at e
  obtain ⟨rfl, rfl, rfl⟩ := e
  exact ⟨l, _, _, rfl, h⟩
theorem open30 {base : Nat} {v : Value} {d : DataW H} {p : List MemPlace} (hok : Value.okWide Try.prog W .any base 30 v) (h0 : DataW.Trod enc Try.prog W 0 (fun _ => true) true 30 v d p) : ∃ l, Mgs W v l := by
  obtain ⟨a, len, cap, rfl⟩ := okWide_slice Try.underlying30 hok
  obtain ⟨fuel, hf⟩ := h0
  rcases Deep.open_slice_pairs Try.underlying30 Try.underlying73 (by kernel_rfl) rfl rfl (by kernel_rfl) (by kernel_rfl) hf with ⟨hcs, _⟩ | ⟨x, l, c, m, n, V0, V1, D0, D1, P0, P1, hcs, _, hl, hm, hmm, hx, hall⟩
  · simp [Value.cells] at hcs
    obtain ⟨rfl, rfl, rfl⟩ := hcs
    exact ⟨[], ⟨_, _, rfl, Nat.le_refl _, by omega, fun i h => by simp at h⟩⟩
  · simp [Value.cells] at hcs
    obtain ⟨rfl, rfl, rfl⟩ := hcs
    simp only [Prod.mk.injEq] at hx
    obtain ⟨rfl, _⟩ := hx
    have hlm : len ≤ m := by rw [hmm]; simp; omega
    have each : ∀ i, i < len → ∃ y : Mg, W.cell? (x.add (i * 2)) = some (iv y.1) ∧ W.cell? (x.add (i * 2 + 1)) = some (iv y.2) := by
      intro i hi
      obtain ⟨c0, c1, t0, t1⟩ := hall i (by omega)
      obtain ⟨s0, e0, y0, ws0⟩ := DataW.trod_int Try.underlying3 t0
      obtain ⟨s1, e1, y1, ws1⟩ := DataW.trod_int Try.underlying3 t1
      simp at e0 e1
      exact ⟨(s0, s1), by rw [c0, e0], by rw [c1, e1]⟩
    obtain ⟨f, hfam⟩ := Deep.choose_lt each
    have hlen : ((List.range len).map f).length = len := by simp
    refine ⟨(List.range len).map f, ⟨some x, cap, by rw [hlen], by rw [hlen]; exact hl, by unfold maxLen at hm; omega, fun i hi => ?_⟩⟩
    rw [hlen] at hi
    obtain ⟨b, off, spot⟩ := x
    have hc := (hfam 0 (by omega)).1
    have hspot : spot = none := by simpa [Addr.add] using World.cell?_spot hc
    subst hspot
    have hadd : ∀ i, (⟨b, off, none⟩ : Addr).add i = ⟨b, off + i, none⟩ := fun i => by simp [Addr.add]
    rw [hadd] at hc
    have h := hfam i hi
    rw [hadd, hadd] at h
    refine ⟨b, off, rfl, block_lt_of_cell hc, ?_, ?_⟩
    · rw [h.1]; simp
    · rw [Nat.add_assoc, h.2]; simp
end
end Go.Proofs.Ythmecbonjkcnmaa.mg
