/-
  Lists of ints that came in as arguments.
-/
import Derived.Test.YthknhbmibmndoaaMx03
namespace Go.Proofs.Ythknhbmibmndoaa.df
open Go.ChangeShapes Go.WideShapes Go.ChangeAt Go.RowKit
set_option linter.unusedVariables false
set_option maxRecDepth 100000 in
theorem openInts {H : Type} {enc : TypeId × Value → H} {W : World} {base : Nat} {v : Value} {d : DataW H} {p : List MemPlace} (hok : Value.okWide Try.prog W .any base 25 v) (h : DataW.Trod enc Try.prog W 0 (fun _ => true) true 25 v d p) :
    ∃ (o : Option Addr) (cap : Nat) (l : List Int), v = .slice o l.length cap ∧ Row (In W) W iv o cap l := by
  obtain ⟨x, len, cap, rfl⟩ := okWide_slice Try.underlying25 hok
  obtain ⟨fuel, hf⟩ := h
  obtain ⟨o, c, l, e, hr⟩ := ints_of hf
  simp [Value.cells] at e
  obtain ⟨rfl, rfl, rfl⟩ := e
  exact ⟨_, _, l, rfl, hr⟩
end Go.Proofs.Ythknhbmibmndoaa.df
