/-
  A machine that came in as an argument: what its reading says of the memory.
-/
import Derived.Test.YtmmlibehihknbaaM23
import Derived.Laws.IdiomArrays
import Derived.Deep.Slices
import Derived.SizedLaws
import Derived.ChangeOld
import Derived.Below
import Derived.OpenShut
namespace Go.Proofs.Ytmmlibehihknbaa.tr
open Go.ChangeShapes Go.WideShapes Go.ChangeAt Go.RowKit
set_option linter.unusedVariables false

section
variable {H : Type} {enc : TypeId × Value → H} {W : World} {sp : Nat → Bool} {held : Bool}
theorem row_of {α : Type} [Inhabited α] (g : α → Value) (Pr : α → Prop) {t e : TypeId} (ht : Try.prog.underlying t = some (.slice e)) (hc : Try.prog.cellsOf e = 1)
    (dec : ∀ n V y, DataW.trod enc Try.prog W 0 sp held n e [V] = some y → ∃ x, V = g x ∧ Pr x) {fuel : Nat} {cs : List Value} {x : DataW H × List MemPlace} (h : DataW.trod enc Try.prog W 0 sp held fuel t cs = some x) :
    ∃ (o : Option Addr) (cap : Nat) (l : List α), cs = [.slice o l.length cap] ∧ Row (In W) W g o cap l ∧ ∀ x ∈ l, Pr x := by
  rcases Deep.open_slice1 ht hc h with ⟨rfl, _⟩ | ⟨a, len, cap, m, n, V, D, Pl, rfl, hb, hl, hm, hmm, _, hV⟩
  · exact ⟨none, 0, [], rfl, ⟨Nat.le_refl _, by omega, fun i hi => by simp at hi⟩, by simp⟩
  · have hlm : len ≤ m := by rw [hmm]; split <;> omega
    obtain ⟨f, hf⟩ := Deep.choose_lt (α := α) (p := fun i x => V i = g x ∧ Pr x) (fun i (hi : i < len) => dec n (V i) _ (hV i (by omega)).2)
    have hln : ((List.range len).map f).length = len := by simp
    unfold maxLen at hm
    refine ⟨some a, cap, (List.range len).map f, by rw [hln], ⟨by rw [hln]; exact hl, hm, fun i hi => ?_⟩, fun x hx => ?_⟩
    · rw [hln] at hi
      obtain ⟨b, off, spot⟩ := a
      have h1 := (hV i (by omega)).1
      have hspot : spot = none := by simpa [Addr.add] using World.cell?_spot (hV 0 (by omega)).1
      subst hspot
      have hadd : (⟨b, off, none⟩ : Addr).add i = ⟨b, off + i, none⟩ := by simp [Addr.add]
      rw [hadd] at h1
      refine ⟨b, off, rfl, block_lt_of_cell h1, ?_⟩
      rw [h1, (hf i hi).1]
      simp
    · obtain ⟨i, hi, rfl⟩ := List.mem_map.1 hx
      exact (hf i (List.mem_range.1 hi)).2
theorem ints_of {fuel : Nat} {cs : List Value} {x : DataW H × List MemPlace} (h : DataW.trod enc Try.prog W 0 sp held fuel 25 cs = some x) :
    ∃ (o : Option Addr) (cap : Nat) (l : List Int), cs = [.slice o l.length cap] ∧ Row (In W) W iv o cap l := by
  obtain ⟨o, cap, l, h1, h2, _⟩ := row_of iv (fun _ => True) Try.underlying25 (by kernel_rfl) (fun n V y h => by
    obtain ⟨z, e, _, _⟩ := DataW.trod_int Try.underlying3 h
    simp at e
    exact ⟨z, e, trivial⟩) h
  exact ⟨o, cap, l, h1, h2⟩
theorem strs_of {fuel : Nat} {cs : List Value} {x : DataW H × List MemPlace} (h : DataW.trod enc Try.prog W 0 sp held fuel 30 cs = some x) :
    ∃ (o : Option Addr) (cap : Nat) (l : List ByteArray), cs = [.slice o l.length cap] ∧ Row (In W) W sv o cap l := by
  obtain ⟨o, cap, l, h1, h2, _⟩ := row_of sv (fun _ => True) Try.underlying30 (by kernel_rfl) (fun n V y h => by
    obtain ⟨z, e, _⟩ := DataW.trod_string Try.underlying9 h
    simp at e
    exact ⟨z, e, trivial⟩) h
  exact ⟨o, cap, l, h1, h2⟩
theorem rows_of {fuel : Nat} {cs : List Value} {x : DataW H × List MemPlace} (h : DataW.trod enc Try.prog W 0 sp held fuel 29 cs = some x) :
    ∃ (o : Option Addr) (cap : Nat) (l : List (List Int)), cs = [.slice o l.length cap] ∧ RowRow (In W) W o cap l := by
  obtain ⟨o, cap, l, h1, h2, h3⟩ := row_of (α := List Int × Option Addr × Nat) (fun x => .slice x.2.1 x.1.length x.2.2) (fun x => Row (In W) W iv x.2.1 x.2.2 x.1) Try.underlying29 (by kernel_rfl) (fun n V y h => by
    obtain ⟨o, cap, l, e, hr⟩ := ints_of h
    simp at e
    exact ⟨(l, o, cap), e, hr⟩) h
  refine ⟨o, cap, l.map (·.1), by simpa using h1, by simpa using h2.fit, h2.top, fun i hi => ?_⟩
  have hi2 : i < l.length := by simpa using hi
  obtain ⟨b, off, e, hb, hc⟩ := h2.lie i hi2
  exact ⟨b, off, l[i].2.1, l[i].2.2, e, hb, by simpa using hc, by simpa using h3 _ (List.getElem_mem hi2)⟩
set_option maxRecDepth 100000 in
theorem open32 {base : Nat} {v : Value} {d : DataW H} {q : List MemPlace} (hok : Value.okWide Try.prog W .any base 32 v) (h : DataW.Trod enc Try.prog W 0 (fun _ => true) true 32 v d q) :
    ∃ (m : Mc) (p : Mp), v = .agg (mv m p) ∧ MAt (In W) W m p := by
  unfold Value.okWide at hok
  rw [Try.underlying32] at hok
  obtain ⟨cs, rfl, _⟩ := hok
  obtain ⟨fuel, hf⟩ := h
  obtain ⟨xs, n, hfu, hx, hl, hlen, hf⟩ := DataW.trod_struct Try.underlying32 hf
  have c26 : Try.prog.cellsOf 32 = 4 := by kernel_rfl
  have c22 : Try.prog.cellsOf 29 = 1 := by kernel_rfl
  have c23 : Try.prog.cellsOf 25 = 1 := by kernel_rfl
  have c24 : Try.prog.cellsOf 30 = 1 := by kernel_rfl
  rw [c26] at hl
  have hsz : cs.size = 4 := by simpa [Value.cells] using hl
  match xs, hlen with
  | [y0, y1, y2, y3], _ =>
    have f0 : DataW.trod enc Try.prog W 0 _ _ n 29 (List.take (Try.prog.cellsOf 29) (List.drop 0 _)) = some y0 := hf 0 _ rfl
    have f1 : DataW.trod enc Try.prog W 0 _ _ n 29 (List.take (Try.prog.cellsOf 29) (List.drop 1 _)) = some y1 := hf 1 _ rfl
    have f2 : DataW.trod enc Try.prog W 0 _ _ n 25 (List.take (Try.prog.cellsOf 25) (List.drop 2 _)) = some y2 := hf 2 _ rfl
    have f3 : DataW.trod enc Try.prog W 0 _ _ n 30 (List.take (Try.prog.cellsOf 30) (List.drop 3 _)) = some y3 := hf 3 _ rfl
    rw [c22] at f0 f1
    rw [c23] at f2
    rw [c24] at f3
    obtain ⟨o0, p0, l0, e0, r0⟩ := rows_of f0
    obtain ⟨o1, p1, l1, e1, r1⟩ := rows_of f1
    obtain ⟨o2, p2, l2, e2, r2⟩ := ints_of f2
    obtain ⟨o3, p3, l3, e3, r3⟩ := strs_of f3
    have g0 := congrArg (·[0]?) e0
    have g1 := congrArg (·[0]?) e1
    have g2 := congrArg (·[0]?) e2
    have g3 := congrArg (·[0]?) e3
    simp [Value.cells] at g0
    simp [Value.cells, List.getElem?_drop] at g1 g2 g3
    refine ⟨⟨l0, l1, l2, l3⟩, ⟨o0, p0, o1, p1, o2, p2, o3, p3⟩, ?_, r0, r1, r2, r3⟩
    congr 1
    apply Array.ext_getElem?
    intro i
    match i with
    | 0 => rw [g0]; rfl
    | 1 => rw [g1]; rfl
    | 2 => rw [g2]; rfl
    | 3 => rw [g3]; rfl
    | (k + 4) => rw [Array.getElem?_eq_none (by omega), Array.getElem?_eq_none (by simp)]
end
end Go.Proofs.Ytmmlibehihknbaa.tr
