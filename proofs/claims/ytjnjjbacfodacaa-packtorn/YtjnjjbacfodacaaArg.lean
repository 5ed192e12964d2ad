/-
  A list of sections that came in as an argument: what its reading says of the memory.
-/
import Derived.Test.YtjnjjbacfodacaaSecs
import Derived.Deep.SlicePairs
import Derived.SizedLaws
import Derived.ChangeOld
import Derived.Below
namespace Go.Proofs.Ytjnjjbacfodacaa.pk
open Go.ChangeShapes Go.WideShapes Go.ChangeAt Go.RowKit
set_option linter.unusedVariables false

theorem weights_all {H : Type} {P : Program} {e : TypeId} {ds : List (DataW H)} {d : DataW H} (h : d ∈ ds) {n : Nat} (hn : n ∈ d.weights P e) : n ∈ DataW.weightsAll P e ds := by
  induction ds with
  | nil => simp at h
  | cons x ds ih =>
    simp only [DataW.weightsAll, List.mem_append]
    rcases List.mem_cons.1 h with rfl | h
    · exact .inl hn
    · exact .inr (ih h)

theorem secs_of {H : Type} {enc : TypeId × Value → H} {W : World} {a : Option Addr} {len cap : Nat} {d : DataW H} {p : List MemPlace} (h0 : DataW.Trod enc Try.prog W 0 (fun _ => true) true 22 (.slice a len cap) d p)
    (hsz : (d.weights Try.prog 22).all (· ≤ reachBytes) = true) : ∃ l, Secs W (.slice a len cap) l ∧ ∀ x ∈ l, Fits x := by
  obtain ⟨fuel, hf⟩ := h0
  rcases Deep.open_slice_pairs Try.underlying22 Try.underlying40 (by kernel_rfl) rfl rfl (by kernel_rfl) (by kernel_rfl) hf with ⟨hcs, _⟩ | ⟨x, l, c, m, n, V0, V1, D0, D1, P0, P1, hcs, _, hl, hm, hmm, hx, hall⟩
  · simp [Value.cells] at hcs
    obtain ⟨rfl, rfl, rfl⟩ := hcs
    exact ⟨[], .inl ⟨rfl, _, _, rfl⟩, by simp⟩
  · simp [Value.cells] at hcs
    obtain ⟨rfl, rfl, rfl⟩ := hcs
    simp only [Prod.mk.injEq] at hx
    obtain ⟨rfl, _⟩ := hx
    have hlm : len ≤ m := by rw [hmm]; simp; omega
    have each : ∀ i, i < len → ∃ y : Sec, W.cell? (x.add (i * 2)) = some (.int .u64 y.kind) ∧ W.cell? (x.add (i * 2 + 1)) = some (.string y.body) ∧ Fits y := by
      intro i hi
      obtain ⟨c0, c1, t0, t1⟩ := hall i (by omega)
      obtain ⟨z, e0, y0, wz⟩ := DataW.trod_int Try.underlying38 t0
      obtain ⟨s, e1, y1, ws⟩ := DataW.trod_string Try.underlying9 t1
      simp at e0 e1
      have hr := num.u64_range wz
      obtain ⟨k, rfl⟩ := Int.eq_ofNat_of_zero_le hr.1
      refine ⟨⟨k, s⟩, by rw [c0, e0], by rw [c1, e1], by show k < _; omega, ?_⟩
      have hmem : DataW.agg [D0 i, D1 i] ∈ (List.range len).map fun i => DataW.agg [D0 i, D1 i] := List.mem_map.2 ⟨i, List.mem_range.2 hi, rfl⟩
      have hw : s.size ∈ (DataW.agg [D0 i, D1 i]).weights Try.prog 40 := by
        simp only [Prod.mk.injEq] at y0 y1
        rw [y0.1, y1.1]
        simp [DataW.weights, Try.underlying40, DataW.weightsEach]
      have h1 : s.size ∈ (DataW.slice ((List.range len).map fun i => DataW.agg [D0 i, D1 i]) ((List.range (m - len)).map fun j => DataW.agg [D0 (len + j), D1 (len + j)])).weights Try.prog 22 := by
        simp only [DataW.weights, Try.underlying22, List.mem_cons, List.mem_append]
        exact .inr (.inl (weights_all hmem hw))
      have := List.all_eq_true.1 hsz _ h1
      exact of_decide_eq_true this
    haveI : Inhabited Sec := ⟨⟨0, ⟨#[]⟩⟩⟩
    obtain ⟨f, hfam⟩ := Deep.choose_lt each
    by_cases h0 : len = 0
    · subst h0
      exact ⟨[], .inl ⟨rfl, _, _, rfl⟩, by simp⟩
    · obtain ⟨b, off, spot⟩ := x
      have hc := (hfam 0 (by omega)).1
      have hspot : spot = none := by simpa [Addr.add] using World.cell?_spot hc
      subst hspot
      have hadd : ∀ i, (⟨b, off, none⟩ : Addr).add i = ⟨b, off + i, none⟩ := fun i => by simp [Addr.add]
      have hlt : b < W.heap.size := by
        rw [hadd] at hc
        unfold World.cell? at hc
        by_cases hb : b < W.heap.size
        · exact hb
        · rw [Array.getElem?_eq_none (by simpa using hb)] at hc
          simp at hc
      have hlen : ((List.range len).map f).length = len := by simp
      have hnth : ∀ i, i < len → nth ((List.range len).map f) i = f i := by
        intro i hi
        unfold nth
        rw [List.getD_eq_getElem?_getD, List.getElem?_map, List.getElem?_range hi]
        rfl
      refine ⟨(List.range len).map f, .inr ⟨b, off, cap, by rw [hlen], by omega, by unfold maxLen at hm; omega, hlt, fun i hi => ?_⟩, ?_⟩
      · rw [hlen] at hi
        have h := hfam i hi
        rw [hadd, hadd] at h
        rw [hnth i hi]
        exact ⟨h.1, by rw [Nat.add_assoc]; exact h.2.1⟩
      · intro y hy
        obtain ⟨i, hi, rfl⟩ := List.mem_map.1 hy
        exact (hfam i (List.mem_range.1 hi)).2.2
end Go.Proofs.Ytjnjjbacfodacaa.pk
