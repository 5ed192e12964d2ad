/-
  Arrays of 256 bytes that came in as arguments.
-/
import Derived.Test.YtkdkibnjfgcppaaKDl
import Derived.Test.YtkdkibnjfgcppaaKMk
namespace Go.Proofs.Ytkdkibnjfgcppaa.mi
open Go.ChangeShapes Go.WideShapes Go.ChangeAt Go.RowKit
set_option linter.unusedVariables false

set_option maxRecDepth 100000 in
theorem open22 {H : Type} {enc : TypeId × Value → H} {W : World} {base : Nat} {v : Value} {d : DataW H} {p : List MemPlace} (hok : Value.okWide Try.prog W .any base 22 v) (h : DataW.Trod enc Try.prog W 0 (fun _ => true) true 22 v d p) :
    ∃ T : List Nat, v = .agg (ccs T) ∧ T.length = 256 ∧ ∀ x ∈ T, x < 256 := by
  unfold Value.okWide at hok
  rw [Try.underlying22] at hok
  obtain ⟨cs, rfl, _⟩ := hok
  obtain ⟨fuel, hf⟩ := h
  have c5 : Try.prog.cellsOf 5 = 1 := by kernel_rfl
  have c22 : Try.prog.cellsOf 22 = 256 := by kernel_rfl
  obtain ⟨zs, m, _, _, hl, hzl, hz⟩ := DataW.trod_array Try.underlying22 hf
  rw [c5] at hz
  rw [c22] at hl
  have hsz : cs.size = 256 := by simpa [Value.cells] using hl
  have each : ∀ i, i < 256 → ∃ k : Nat, k < 256 ∧ cs[i]? = some (.int .u8 (k : Int)) := fun i hi => by
    have h1 := hz i hi
    rw [List.getElem?_eq_getElem (by omega)] at h1
    obtain ⟨z, e, _, wz⟩ := DataW.trod_int Try.underlying5 h1
    have r := df.u8_range wz
    obtain ⟨k, rfl⟩ := Int.eq_ofNat_of_zero_le r.1
    refine ⟨k, by omega, ?_⟩
    have e' := congrArg (·[0]?) e
    simp [Value.cells, List.getElem?_drop] at e'
    exact e'
  obtain ⟨f, hf2⟩ := Deep.choose_lt (α := Nat) each
  refine ⟨(List.range 256).map f, ?_, by simp, fun x hx => ?_⟩
  · congr 1
    apply Array.ext_getElem?
    intro i
    unfold ccs
    by_cases hi : i < 256
    · rw [(hf2 i hi).2]; simp [hi]
    · rw [Array.getElem?_eq_none (by omega), Array.getElem?_eq_none (by simp; omega)]
  · obtain ⟨i, hi, rfl⟩ := List.mem_map.1 hx
    exact (hf2 i (List.mem_range.1 hi)).1
end Go.Proofs.Ytkdkibnjfgcppaa.mi
