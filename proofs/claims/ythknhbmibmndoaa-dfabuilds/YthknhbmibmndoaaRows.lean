/-
  No cell of these rows narrows 'for every input' (looked for: loops, veiled, ifaces, maps, wideKeys, modest, calm, conditions, laid).
  DERIVED. THE GIVEN ROWS OF THIS SEAT. 6 by the template 'for every input the law returns true; each argument reads behind the call as it read before'; 0 by the template 'total and deterministic' (their statements: YthknhbmibmndoaaTotals.lean).
  GIVEN WITH THE SEED: the statements are not yours to turn. If you find one false, say at which input.
  Laid BY PROGRAM, IN A SANDBOX (cutbox-rows.mjs): the forced cells as the released guide's own fill.sh prints them over the translation 430b179bc4866d9f… (all of the seat's roots in one cut). By AI agents, Wed Nov 11 2026. No macro, syntax, notation, axiom, sorry.
-/
import Derived.Test.YthknhbmibmndoaaChecked
import GoSem.Claim
import GoSem.ClaimJoined
import GoSem.ClaimMapViews
import Derived.JoinedTies
import Derived.KernelRfl
namespace Go.Proofs.Ythknhbmibmndoaa
/- THE CELL 'sum', in the pinned program and in every row, IS THE sha256 OF THE DUMP (.gsa) THAT YthknhbmibmndoaaProg.lean LOADS. Nothing in Lean hashes anything: it is a label: what it is worth is what the hold of that sum in a sandbox is worth. -/
noncomputable def Try.pinned : Pinned := { name := "ythknhbmibmndoaa", sum := "430b179bc4866d9f4356dd5291bdeacf91771aec65d120d1d7d698bea8d33dcb", checked := Try.checked }
namespace Rows
def none {H : Type} : Left H := { results := [], args := [] }

/-- 'fretsawlaw07.NfaEmpty': WHATEVER THE INPUT: true; the input reads as it did. -/
def nfaEmptySpec : ChangeSpec := { name := "nfaEmpty", fn := fun _ => fun
  | [d] => { results := [.lit (.bool true)], args := [d] }
  | _ => none }
def nfaEmptyRow : OpenClaim := { program := "ythknhbmibmndoaa", sum := "430b179bc4866d9f4356dd5291bdeacf91771aec65d120d1d7d698bea8d33dcb", func := "fretsaw/fretsawlaw07.NfaEmpty", spec := "nfaEmpty", unfollowed := true, recurses := true, plainKeys := false, apart := false }
def NfaEmptySaid : Prop := nfaEmptyRow.holds Try.pinned (OpenSpec.ofChange nfaEmptySpec)

/-- ITS FALSE NEIGHBOUR: 'it returns false'. Refute it at one input. -/
def nfaEmptyWrong : ChangeSpec := { name := "nfaEmpty", fn := fun _ => fun
  | [d] => { results := [.lit (.bool false)], args := [d] }
  | _ => none }
def NfaEmptyWrongFalsely : Prop := nfaEmptyRow.holds Try.pinned (OpenSpec.ofChange nfaEmptyWrong)

/-- 'fretsawlaw07.NfaFree': WHATEVER THE INPUT: true; the input reads as it did. -/
def nfaFreeSpec : ChangeSpec := { name := "nfaFree", fn := fun _ => fun
  | [d1, d2] => { results := [.lit (.bool true)], args := [d1, d2] }
  | _ => none }
def nfaFreeRow : OpenClaim := { program := "ythknhbmibmndoaa", sum := "430b179bc4866d9f4356dd5291bdeacf91771aec65d120d1d7d698bea8d33dcb", func := "fretsaw/fretsawlaw07.NfaFree", spec := "nfaFree", unfollowed := true, recurses := true, plainKeys := false, apart := false }
def NfaFreeSaid : Prop := nfaFreeRow.holds Try.pinned (OpenSpec.ofChange nfaFreeSpec)

/-- ITS FALSE NEIGHBOUR: 'it returns false'. Refute it at one input. -/
def nfaFreeWrong : ChangeSpec := { name := "nfaFree", fn := fun _ => fun
  | [d1, d2] => { results := [.lit (.bool false)], args := [d1, d2] }
  | _ => none }
def NfaFreeWrongFalsely : Prop := nfaFreeRow.holds Try.pinned (OpenSpec.ofChange nfaFreeWrong)

/-- 'fretsawlaw07.NfaRuns': WHATEVER THE INPUT: true; the input reads as it did. -/
def nfaRunsSpec : ChangeSpec := { name := "nfaRuns", fn := fun _ => fun
  | [d1, d2, d3] => { results := [.lit (.bool true)], args := [d1, d2, d3] }
  | _ => none }
def nfaRunsRow : OpenClaim := { program := "ythknhbmibmndoaa", sum := "430b179bc4866d9f4356dd5291bdeacf91771aec65d120d1d7d698bea8d33dcb", func := "fretsaw/fretsawlaw07.NfaRuns", spec := "nfaRuns", unfollowed := true, recurses := true, plainKeys := false, apart := false }
def NfaRunsSaid : Prop := nfaRunsRow.holds Try.pinned (OpenSpec.ofChange nfaRunsSpec)

/-- ITS FALSE NEIGHBOUR: 'it returns false'. Refute it at one input. -/
def nfaRunsWrong : ChangeSpec := { name := "nfaRuns", fn := fun _ => fun
  | [d1, d2, d3] => { results := [.lit (.bool false)], args := [d1, d2, d3] }
  | _ => none }
def NfaRunsWrongFalsely : Prop := nfaRunsRow.holds Try.pinned (OpenSpec.ofChange nfaRunsWrong)

/-- 'fretsawlaw08.DfaRuns': WHATEVER THE INPUT: true; the input reads as it did. -/
def dfaRunsSpec : ChangeSpec := { name := "dfaRuns", fn := fun _ => fun
  | [d1, d2, d3] => { results := [.lit (.bool true)], args := [d1, d2, d3] }
  | _ => none }
def dfaRunsRow : OpenClaim := { program := "ythknhbmibmndoaa", sum := "430b179bc4866d9f4356dd5291bdeacf91771aec65d120d1d7d698bea8d33dcb", func := "fretsaw/fretsawlaw08.DfaRuns", spec := "dfaRuns", unfollowed := true, recurses := true, plainKeys := false, apart := false }
def DfaRunsSaid : Prop := dfaRunsRow.holds Try.pinned (OpenSpec.ofChange dfaRunsSpec)

/-- ITS FALSE NEIGHBOUR: 'it returns false'. Refute it at one input. -/
def dfaRunsWrong : ChangeSpec := { name := "dfaRuns", fn := fun _ => fun
  | [d1, d2, d3] => { results := [.lit (.bool false)], args := [d1, d2, d3] }
  | _ => none }
def DfaRunsWrongFalsely : Prop := dfaRunsRow.holds Try.pinned (OpenSpec.ofChange dfaRunsWrong)

/-- 'fretsawlaw08.DfaTakes': WHATEVER THE INPUT: true; the input reads as it did. -/
def dfaTakesSpec : ChangeSpec := { name := "dfaTakes", fn := fun _ => fun
  | [d1, d2, d3] => { results := [.lit (.bool true)], args := [d1, d2, d3] }
  | _ => none }
def dfaTakesRow : OpenClaim := { program := "ythknhbmibmndoaa", sum := "430b179bc4866d9f4356dd5291bdeacf91771aec65d120d1d7d698bea8d33dcb", func := "fretsaw/fretsawlaw08.DfaTakes", spec := "dfaTakes", unfollowed := true, recurses := true, plainKeys := false, apart := false }
def DfaTakesSaid : Prop := dfaTakesRow.holds Try.pinned (OpenSpec.ofChange dfaTakesSpec)

/-- ITS FALSE NEIGHBOUR: 'it returns false'. Refute it at one input. -/
def dfaTakesWrong : ChangeSpec := { name := "dfaTakes", fn := fun _ => fun
  | [d1, d2, d3] => { results := [.lit (.bool false)], args := [d1, d2, d3] }
  | _ => none }
def DfaTakesWrongFalsely : Prop := dfaTakesRow.holds Try.pinned (OpenSpec.ofChange dfaTakesWrong)

/-- 'fretsawlaw08.DfaBuilds': WHATEVER THE INPUT: true; the input reads as it did. -/
def dfaBuildsSpec : ChangeSpec := { name := "dfaBuilds", fn := fun _ => fun
  | [d] => { results := [.lit (.bool true)], args := [d] }
  | _ => none }
def dfaBuildsRow : OpenClaim := { program := "ythknhbmibmndoaa", sum := "430b179bc4866d9f4356dd5291bdeacf91771aec65d120d1d7d698bea8d33dcb", func := "fretsaw/fretsawlaw08.DfaBuilds", spec := "dfaBuilds", unfollowed := true, recurses := true, plainKeys := false, apart := false }
def DfaBuildsSaid : Prop := dfaBuildsRow.holds Try.pinned (OpenSpec.ofChange dfaBuildsSpec)

/-- ITS FALSE NEIGHBOUR: 'it returns false'. Refute it at one input. -/
def dfaBuildsWrong : ChangeSpec := { name := "dfaBuilds", fn := fun _ => fun
  | [d] => { results := [.lit (.bool false)], args := [d] }
  | _ => none }
def DfaBuildsWrongFalsely : Prop := dfaBuildsRow.holds Try.pinned (OpenSpec.ofChange dfaBuildsWrong)

/- THE SECOND FORM. 'bulk': how many values and letters a reading holds, each counted each time it is reached (what is shared counts as often as it is met; a slice's spare places count too). A statement '..UptoSaid' is the law's where the arguments, and the package variables that the reading takes, are together of bulk at most 1048576: NARROWER than '..Said'. Prove '..Said' where nothing that the law and all that it calls make is longer than what came in: it says more and counts as full. Else prove '..UptoSaid'. A law counts once. -/
mutual
def uptoBulk {H : Type} : DataW H → Nat
  | .lit (.string bytes) => bytes.length + 1
  | .lit _ => 1
  | .nil => 1
  | .ptr d => uptoBulk d + 1
  | .slice elems spare => uptoBulkAll elems + uptoBulkAll spare + 1
  | .agg parts => uptoBulkAll parts + 1
  | .iface _ d => uptoBulk d + 1
  | .map entries => uptoBulkEntries entries + 1
  | .held _ => 1
def uptoBulkAll {H : Type} : List (DataW H) → Nat
  | [] => 0
  | d :: r => uptoBulk d + uptoBulkAll r
def uptoBulkEntries {H : Type} : List (Lit × DataW H) → Nat
  | [] => 0
  | x :: r => uptoBulkEntry x + uptoBulkEntries r
def uptoBulkEntry {H : Type} : Lit × DataW H → Nat
  | (.string bytes, d) => bytes.length + uptoBulk d + 1
  | (_, d) => uptoBulk d + 1
 end
def uptoSmall : (H : Type) → List (DataW H) → Bool := fun _ ds => decide (uptoBulkAll ds ≤ 1048576)
def OpenSpec.upto (s : _root_.Go.ChangeSpec) : _root_.Go.OpenSpec := { _root_.Go.OpenSpec.ofChange s with cond := some uptoSmall }

/-- 'fretsawlaw07.NfaEmpty', WHERE WHAT IT READS IS OF BULK AT MOST 1048576: true; the input reads as it did. -/
def nfaEmptyUptoRow : OpenClaim := { program := "ythknhbmibmndoaa", sum := "430b179bc4866d9f4356dd5291bdeacf91771aec65d120d1d7d698bea8d33dcb", func := "fretsaw/fretsawlaw07.NfaEmpty", spec := "nfaEmpty", unfollowed := true, recurses := true, plainKeys := false, apart := false, narrowed := true }
def NfaEmptyUptoSaid : Prop := nfaEmptyUptoRow.holds Try.pinned (OpenSpec.upto nfaEmptySpec)

/-- 'fretsawlaw07.NfaFree', WHERE WHAT IT READS IS OF BULK AT MOST 1048576: true; the input reads as it did. -/
def nfaFreeUptoRow : OpenClaim := { program := "ythknhbmibmndoaa", sum := "430b179bc4866d9f4356dd5291bdeacf91771aec65d120d1d7d698bea8d33dcb", func := "fretsaw/fretsawlaw07.NfaFree", spec := "nfaFree", unfollowed := true, recurses := true, plainKeys := false, apart := false, narrowed := true }
def NfaFreeUptoSaid : Prop := nfaFreeUptoRow.holds Try.pinned (OpenSpec.upto nfaFreeSpec)

/-- 'fretsawlaw07.NfaRuns', WHERE WHAT IT READS IS OF BULK AT MOST 1048576: true; the input reads as it did. -/
def nfaRunsUptoRow : OpenClaim := { program := "ythknhbmibmndoaa", sum := "430b179bc4866d9f4356dd5291bdeacf91771aec65d120d1d7d698bea8d33dcb", func := "fretsaw/fretsawlaw07.NfaRuns", spec := "nfaRuns", unfollowed := true, recurses := true, plainKeys := false, apart := false, narrowed := true }
def NfaRunsUptoSaid : Prop := nfaRunsUptoRow.holds Try.pinned (OpenSpec.upto nfaRunsSpec)

/-- 'fretsawlaw08.DfaRuns', WHERE WHAT IT READS IS OF BULK AT MOST 1048576: true; the input reads as it did. -/
def dfaRunsUptoRow : OpenClaim := { program := "ythknhbmibmndoaa", sum := "430b179bc4866d9f4356dd5291bdeacf91771aec65d120d1d7d698bea8d33dcb", func := "fretsaw/fretsawlaw08.DfaRuns", spec := "dfaRuns", unfollowed := true, recurses := true, plainKeys := false, apart := false, narrowed := true }
def DfaRunsUptoSaid : Prop := dfaRunsUptoRow.holds Try.pinned (OpenSpec.upto dfaRunsSpec)

/-- 'fretsawlaw08.DfaTakes', WHERE WHAT IT READS IS OF BULK AT MOST 1048576: true; the input reads as it did. -/
def dfaTakesUptoRow : OpenClaim := { program := "ythknhbmibmndoaa", sum := "430b179bc4866d9f4356dd5291bdeacf91771aec65d120d1d7d698bea8d33dcb", func := "fretsaw/fretsawlaw08.DfaTakes", spec := "dfaTakes", unfollowed := true, recurses := true, plainKeys := false, apart := false, narrowed := true }
def DfaTakesUptoSaid : Prop := dfaTakesUptoRow.holds Try.pinned (OpenSpec.upto dfaTakesSpec)

/-- 'fretsawlaw08.DfaBuilds', WHERE WHAT IT READS IS OF BULK AT MOST 1048576: true; the input reads as it did. -/
def dfaBuildsUptoRow : OpenClaim := { program := "ythknhbmibmndoaa", sum := "430b179bc4866d9f4356dd5291bdeacf91771aec65d120d1d7d698bea8d33dcb", func := "fretsaw/fretsawlaw08.DfaBuilds", spec := "dfaBuilds", unfollowed := true, recurses := true, plainKeys := false, apart := false, narrowed := true }
def DfaBuildsUptoSaid : Prop := dfaBuildsUptoRow.holds Try.pinned (OpenSpec.upto dfaBuildsSpec)

end Rows
end Go.Proofs.Ythknhbmibmndoaa
