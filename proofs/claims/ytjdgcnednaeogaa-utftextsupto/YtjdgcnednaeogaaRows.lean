/-
  No cell of these rows narrows 'for every input' (looked for: loops, veiled, ifaces, maps, wideKeys, modest, calm, conditions, laid).
  DERIVED. THE GIVEN ROWS OF THIS SEAT. 6 by the template 'for every input the law returns true; each argument reads behind the call as it read before'; 0 by the template 'total and deterministic' (their statements: YtjdgcnednaeogaaTotals.lean).
  GIVEN WITH THE SEED: the statements are not yours to turn. If you find one false, say at which input.
  Laid BY PROGRAM, IN A SANDBOX (cutbox-rows.mjs): the forced cells as the released guide's own fill.sh prints them over the translation 88187b53ab5376c2… (all of the seat's roots in one cut). By AI agents, Wed Nov 11 2026. No macro, syntax, notation, axiom, sorry.
-/
import Derived.Test.YtjdgcnednaeogaaChecked
import GoSem.Claim
import GoSem.ClaimJoined
import GoSem.ClaimMapViews
import Derived.JoinedTies
import Derived.KernelRfl
namespace Go.Proofs.Ytjdgcnednaeogaa
/- THE CELL 'sum', in the pinned program and in every row, IS THE sha256 OF THE DUMP (.gsa) THAT YtjdgcnednaeogaaProg.lean LOADS. Nothing in Lean hashes anything: it is a label: what it is worth is what the hold of that sum in a sandbox is worth. -/
noncomputable def Try.pinned : Pinned := { name := "ytjdgcnednaeogaa", sum := "88187b53ab5376c29dea60bc8d8dc3575a3e7a4ac7dac0db0a69ffb75368c319", checked := Try.checked }
namespace Rows
def none {H : Type} : Left H := { results := [], args := [] }

/-- 'fretsawlaw01.UtfTakes': WHATEVER THE INPUT: true; the input reads as it did. -/
def utfTakesSpec : ChangeSpec := { name := "utfTakes", fn := fun _ => fun
  | [d1, d2] => { results := [.lit (.bool true)], args := [d1, d2] }
  | _ => none }
def utfTakesRow : OpenClaim := { program := "ytjdgcnednaeogaa", sum := "88187b53ab5376c29dea60bc8d8dc3575a3e7a4ac7dac0db0a69ffb75368c319", func := "fretsaw/fretsawlaw01.UtfTakes", spec := "utfTakes", apart := false }
def UtfTakesSaid : Prop := utfTakesRow.holds Try.pinned (OpenSpec.ofChange utfTakesSpec)

/-- ITS FALSE NEIGHBOUR: 'it returns false'. Refute it at one input. -/
def utfTakesWrong : ChangeSpec := { name := "utfTakes", fn := fun _ => fun
  | [d1, d2] => { results := [.lit (.bool false)], args := [d1, d2] }
  | _ => none }
def UtfTakesWrongFalsely : Prop := utfTakesRow.holds Try.pinned (OpenSpec.ofChange utfTakesWrong)

/-- 'fretsawlaw01.UtfTexts': WHATEVER THE INPUT: true; the input reads as it did. -/
def utfTextsSpec : ChangeSpec := { name := "utfTexts", fn := fun _ => fun
  | [d] => { results := [.lit (.bool true)], args := [d] }
  | _ => none }
def utfTextsRow : OpenClaim := { program := "ytjdgcnednaeogaa", sum := "88187b53ab5376c29dea60bc8d8dc3575a3e7a4ac7dac0db0a69ffb75368c319", func := "fretsaw/fretsawlaw01.UtfTexts", spec := "utfTexts", inPlace := ["internal/abi.NoEscape"], apart := false }
def UtfTextsSaid : Prop := utfTextsRow.holds Try.pinned (OpenSpec.ofChange utfTextsSpec)

/-- ITS FALSE NEIGHBOUR: 'it returns false'. Refute it at one input. -/
def utfTextsWrong : ChangeSpec := { name := "utfTexts", fn := fun _ => fun
  | [d] => { results := [.lit (.bool false)], args := [d] }
  | _ => none }
def UtfTextsWrongFalsely : Prop := utfTextsRow.holds Try.pinned (OpenSpec.ofChange utfTextsWrong)

/-- 'fretsawlaw01.UtfWrites': WHATEVER THE INPUT: true; the input reads as it did. -/
def utfWritesSpec : ChangeSpec := { name := "utfWrites", fn := fun _ => fun
  | [d] => { results := [.lit (.bool true)], args := [d] }
  | _ => none }
def utfWritesRow : OpenClaim := { program := "ytjdgcnednaeogaa", sum := "88187b53ab5376c29dea60bc8d8dc3575a3e7a4ac7dac0db0a69ffb75368c319", func := "fretsaw/fretsawlaw01.UtfWrites", spec := "utfWrites", apart := false }
def UtfWritesSaid : Prop := utfWritesRow.holds Try.pinned (OpenSpec.ofChange utfWritesSpec)

/-- ITS FALSE NEIGHBOUR: 'it returns false'. Refute it at one input. -/
def utfWritesWrong : ChangeSpec := { name := "utfWrites", fn := fun _ => fun
  | [d] => { results := [.lit (.bool false)], args := [d] }
  | _ => none }
def UtfWritesWrongFalsely : Prop := utfWritesRow.holds Try.pinned (OpenSpec.ofChange utfWritesWrong)

/-- 'fretsawlaw01.UtfMended': WHATEVER THE INPUT: true; the input reads as it did. -/
def utfMendedSpec : ChangeSpec := { name := "utfMended", fn := fun _ => fun
  | [d] => { results := [.lit (.bool true)], args := [d] }
  | _ => none }
def utfMendedRow : OpenClaim := { program := "ytjdgcnednaeogaa", sum := "88187b53ab5376c29dea60bc8d8dc3575a3e7a4ac7dac0db0a69ffb75368c319", func := "fretsaw/fretsawlaw01.UtfMended", spec := "utfMended", inPlace := ["internal/abi.NoEscape"], apart := false }
def UtfMendedSaid : Prop := utfMendedRow.holds Try.pinned (OpenSpec.ofChange utfMendedSpec)

/-- ITS FALSE NEIGHBOUR: 'it returns false'. Refute it at one input. -/
def utfMendedWrong : ChangeSpec := { name := "utfMended", fn := fun _ => fun
  | [d] => { results := [.lit (.bool false)], args := [d] }
  | _ => none }
def UtfMendedWrongFalsely : Prop := utfMendedRow.holds Try.pinned (OpenSpec.ofChange utfMendedWrong)

/-- 'fretsawlaw01.UtfBehind': WHATEVER THE INPUT: true; the input reads as it did. -/
def utfBehindSpec : ChangeSpec := { name := "utfBehind", fn := fun _ => fun
  | [d1, d2] => { results := [.lit (.bool true)], args := [d1, d2] }
  | _ => none }
def utfBehindRow : OpenClaim := { program := "ytjdgcnednaeogaa", sum := "88187b53ab5376c29dea60bc8d8dc3575a3e7a4ac7dac0db0a69ffb75368c319", func := "fretsaw/fretsawlaw01.UtfBehind", spec := "utfBehind", inPlace := ["internal/abi.NoEscape"], apart := false }
def UtfBehindSaid : Prop := utfBehindRow.holds Try.pinned (OpenSpec.ofChange utfBehindSpec)

/-- ITS FALSE NEIGHBOUR: 'it returns false'. Refute it at one input. -/
def utfBehindWrong : ChangeSpec := { name := "utfBehind", fn := fun _ => fun
  | [d1, d2] => { results := [.lit (.bool false)], args := [d1, d2] }
  | _ => none }
def UtfBehindWrongFalsely : Prop := utfBehindRow.holds Try.pinned (OpenSpec.ofChange utfBehindWrong)

/-- 'fretsawlaw01.UtfCounts': WHATEVER THE INPUT: true; the input reads as it did. -/
def utfCountsSpec : ChangeSpec := { name := "utfCounts", fn := fun _ => fun
  | [d1, d2] => { results := [.lit (.bool true)], args := [d1, d2] }
  | _ => none }
def utfCountsRow : OpenClaim := { program := "ytjdgcnednaeogaa", sum := "88187b53ab5376c29dea60bc8d8dc3575a3e7a4ac7dac0db0a69ffb75368c319", func := "fretsaw/fretsawlaw01.UtfCounts", spec := "utfCounts", apart := false }
def UtfCountsSaid : Prop := utfCountsRow.holds Try.pinned (OpenSpec.ofChange utfCountsSpec)

/-- ITS FALSE NEIGHBOUR: 'it returns false'. Refute it at one input. -/
def utfCountsWrong : ChangeSpec := { name := "utfCounts", fn := fun _ => fun
  | [d1, d2] => { results := [.lit (.bool false)], args := [d1, d2] }
  | _ => none }
def UtfCountsWrongFalsely : Prop := utfCountsRow.holds Try.pinned (OpenSpec.ofChange utfCountsWrong)

/- THE SECOND FORM. 'bulk': how many values and letters a reading holds, each counted each time it is reached (what is shared counts as often as it is met; a slice's spare places count too). A statement '..UptoSaid' is the law's where the arguments, and the package variables that the reading takes, are together of bulk at most 1048576: NARROWER than '..Said'. Prove '..Said' where nothing that the law and all that it calls make is longer than what came in: it says more and counts as full. Else prove '..UptoSaid'. A law counts once. -/
mutual
def uptoBulk {H : Type} : DataW H → Nat
  | .lit (.string bytes) => bytes.length + 1
  | .lit _ => 1
  | .nil => 1
  | .ptr d => uptoBulk d + 1
  | .slice elems spare => uptoBulkAll elems + uptoBulkAll spare + 1
  | .agg parts => uptoBulkAll parts + 1
  | .iface _ d => uptoBulk d + 1
  | .map entries => uptoBulkEntries entries + 1
  | .held _ => 1
def uptoBulkAll {H : Type} : List (DataW H) → Nat
  | [] => 0
  | d :: r => uptoBulk d + uptoBulkAll r
def uptoBulkEntries {H : Type} : List (Lit × DataW H) → Nat
  | [] => 0
  | x :: r => uptoBulkEntry x + uptoBulkEntries r
def uptoBulkEntry {H : Type} : Lit × DataW H → Nat
  | (.string bytes, d) => bytes.length + uptoBulk d + 1
  | (_, d) => uptoBulk d + 1
 end
def uptoSmall : (H : Type) → List (DataW H) → Bool := fun _ ds => decide (uptoBulkAll ds ≤ 1048576)
def OpenSpec.upto (s : _root_.Go.ChangeSpec) : _root_.Go.OpenSpec := { _root_.Go.OpenSpec.ofChange s with cond := some uptoSmall }

/-- 'fretsawlaw01.UtfTakes', WHERE WHAT IT READS IS OF BULK AT MOST 1048576: true; the input reads as it did. -/
def utfTakesUptoRow : OpenClaim := { program := "ytjdgcnednaeogaa", sum := "88187b53ab5376c29dea60bc8d8dc3575a3e7a4ac7dac0db0a69ffb75368c319", func := "fretsaw/fretsawlaw01.UtfTakes", spec := "utfTakes", apart := false, narrowed := true }
def UtfTakesUptoSaid : Prop := utfTakesUptoRow.holds Try.pinned (OpenSpec.upto utfTakesSpec)

/-- 'fretsawlaw01.UtfTexts', WHERE WHAT IT READS IS OF BULK AT MOST 1048576: true; the input reads as it did. -/
def utfTextsUptoRow : OpenClaim := { program := "ytjdgcnednaeogaa", sum := "88187b53ab5376c29dea60bc8d8dc3575a3e7a4ac7dac0db0a69ffb75368c319", func := "fretsaw/fretsawlaw01.UtfTexts", spec := "utfTexts", inPlace := ["internal/abi.NoEscape"], apart := false, narrowed := true }
def UtfTextsUptoSaid : Prop := utfTextsUptoRow.holds Try.pinned (OpenSpec.upto utfTextsSpec)

/-- 'fretsawlaw01.UtfWrites', WHERE WHAT IT READS IS OF BULK AT MOST 1048576: true; the input reads as it did. -/
def utfWritesUptoRow : OpenClaim := { program := "ytjdgcnednaeogaa", sum := "88187b53ab5376c29dea60bc8d8dc3575a3e7a4ac7dac0db0a69ffb75368c319", func := "fretsaw/fretsawlaw01.UtfWrites", spec := "utfWrites", apart := false, narrowed := true }
def UtfWritesUptoSaid : Prop := utfWritesUptoRow.holds Try.pinned (OpenSpec.upto utfWritesSpec)

/-- 'fretsawlaw01.UtfMended', WHERE WHAT IT READS IS OF BULK AT MOST 1048576: true; the input reads as it did. -/
def utfMendedUptoRow : OpenClaim := { program := "ytjdgcnednaeogaa", sum := "88187b53ab5376c29dea60bc8d8dc3575a3e7a4ac7dac0db0a69ffb75368c319", func := "fretsaw/fretsawlaw01.UtfMended", spec := "utfMended", inPlace := ["internal/abi.NoEscape"], apart := false, narrowed := true }
def UtfMendedUptoSaid : Prop := utfMendedUptoRow.holds Try.pinned (OpenSpec.upto utfMendedSpec)

/-- 'fretsawlaw01.UtfBehind', WHERE WHAT IT READS IS OF BULK AT MOST 1048576: true; the input reads as it did. -/
def utfBehindUptoRow : OpenClaim := { program := "ytjdgcnednaeogaa", sum := "88187b53ab5376c29dea60bc8d8dc3575a3e7a4ac7dac0db0a69ffb75368c319", func := "fretsaw/fretsawlaw01.UtfBehind", spec := "utfBehind", inPlace := ["internal/abi.NoEscape"], apart := false, narrowed := true }
def UtfBehindUptoSaid : Prop := utfBehindUptoRow.holds Try.pinned (OpenSpec.upto utfBehindSpec)

/-- 'fretsawlaw01.UtfCounts', WHERE WHAT IT READS IS OF BULK AT MOST 1048576: true; the input reads as it did. -/
def utfCountsUptoRow : OpenClaim := { program := "ytjdgcnednaeogaa", sum := "88187b53ab5376c29dea60bc8d8dc3575a3e7a4ac7dac0db0a69ffb75368c319", func := "fretsaw/fretsawlaw01.UtfCounts", spec := "utfCounts", apart := false, narrowed := true }
def UtfCountsUptoSaid : Prop := utfCountsUptoRow.holds Try.pinned (OpenSpec.upto utfCountsSpec)

end Rows
end Go.Proofs.Ytjdgcnednaeogaa
