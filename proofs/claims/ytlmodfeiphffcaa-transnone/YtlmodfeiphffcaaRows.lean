/-
  No cell of these rows narrows 'for every input' (looked for: loops, veiled, ifaces, maps, wideKeys, modest, calm, conditions, laid).
  DERIVED. THE GIVEN ROWS OF THIS SEAT. 6 by the template 'for every input the law returns true; each argument reads behind the call as it read before'; 0 by the template 'total and deterministic' (their statements: YtlmodfeiphffcaaTotals.lean).
  GIVEN WITH THE SEED: the statements are not yours to turn. If you find one false, say at which input.
  Laid BY PROGRAM, IN A SANDBOX (cutbox-rows.mjs): the forced cells as the released guide's own fill.sh prints them over the translation 4504863e3b329a64… (all of the seat's roots in one cut). By AI agents, Wed Nov 11 2026. No macro, syntax, notation, axiom, sorry.
-/
import Derived.Test.YtlmodfeiphffcaaChecked
import GoSem.Claim
import GoSem.ClaimJoined
import GoSem.ClaimMapViews
import Derived.JoinedTies
import Derived.KernelRfl
namespace Go.Proofs.Ytlmodfeiphffcaa
/- THE CELL 'sum', in the pinned program and in every row, IS THE sha256 OF THE DUMP (.gsa) THAT YtlmodfeiphffcaaProg.lean LOADS. Nothing in Lean hashes anything: it is a label: what it is worth is what the hold of that sum in a sandbox is worth. -/
noncomputable def Try.pinned : Pinned := { name := "ytlmodfeiphffcaa", sum := "4504863e3b329a6455f567d00303433e7ef83c47076879a0b3ebd5b6507d35ee", checked := Try.checked }
namespace Rows
def none {H : Type} : Left H := { results := [], args := [] }

/-- 'fretsawlaw12.TransRuns': WHATEVER THE INPUT: true; the input reads as it did. -/
def transRunsSpec : ChangeSpec := { name := "transRuns", fn := fun _ => fun
  | [d1, d2] => { results := [.lit (.bool true)], args := [d1, d2] }
  | _ => none }
def transRunsRow : OpenClaim := { program := "ytlmodfeiphffcaa", sum := "4504863e3b329a6455f567d00303433e7ef83c47076879a0b3ebd5b6507d35ee", func := "fretsaw/fretsawlaw12.TransRuns", spec := "transRuns", unfollowed := true, recurses := true, plainKeys := false, apart := false }
def TransRunsSaid : Prop := transRunsRow.holds Try.pinned (OpenSpec.ofChange transRunsSpec)

/-- ITS FALSE NEIGHBOUR: 'it returns false'. Refute it at one input. -/
def transRunsWrong : ChangeSpec := { name := "transRuns", fn := fun _ => fun
  | [d1, d2] => { results := [.lit (.bool false)], args := [d1, d2] }
  | _ => none }
def TransRunsWrongFalsely : Prop := transRunsRow.holds Try.pinned (OpenSpec.ofChange transRunsWrong)

/-- 'fretsawlaw12.TransRules': WHATEVER THE INPUT: true; the input reads as it did. -/
def transRulesSpec : ChangeSpec := { name := "transRules", fn := fun _ => fun
  | [d1, d2] => { results := [.lit (.bool true)], args := [d1, d2] }
  | _ => none }
def transRulesRow : OpenClaim := { program := "ytlmodfeiphffcaa", sum := "4504863e3b329a6455f567d00303433e7ef83c47076879a0b3ebd5b6507d35ee", func := "fretsaw/fretsawlaw12.TransRules", spec := "transRules", inPlace := ["internal/abi.NoEscape"], unfollowed := true, recurses := true, plainKeys := false, apart := false }
def TransRulesSaid : Prop := transRulesRow.holds Try.pinned (OpenSpec.ofChange transRulesSpec)

/-- ITS FALSE NEIGHBOUR: 'it returns false'. Refute it at one input. -/
def transRulesWrong : ChangeSpec := { name := "transRules", fn := fun _ => fun
  | [d1, d2] => { results := [.lit (.bool false)], args := [d1, d2] }
  | _ => none }
def TransRulesWrongFalsely : Prop := transRulesRow.holds Try.pinned (OpenSpec.ofChange transRulesWrong)

/-- 'fretsawlaw12.TransThen': WHATEVER THE INPUT: true; the input reads as it did. -/
def transThenSpec : ChangeSpec := { name := "transThen", fn := fun _ => fun
  | [d1, d2, d3] => { results := [.lit (.bool true)], args := [d1, d2, d3] }
  | _ => none }
def transThenRow : OpenClaim := { program := "ytlmodfeiphffcaa", sum := "4504863e3b329a6455f567d00303433e7ef83c47076879a0b3ebd5b6507d35ee", func := "fretsaw/fretsawlaw12.TransThen", spec := "transThen", unfollowed := true, recurses := true, plainKeys := false, apart := false }
def TransThenSaid : Prop := transThenRow.holds Try.pinned (OpenSpec.ofChange transThenSpec)

/-- ITS FALSE NEIGHBOUR: 'it returns false'. Refute it at one input. -/
def transThenWrong : ChangeSpec := { name := "transThen", fn := fun _ => fun
  | [d1, d2, d3] => { results := [.lit (.bool false)], args := [d1, d2, d3] }
  | _ => none }
def TransThenWrongFalsely : Prop := transThenRow.holds Try.pinned (OpenSpec.ofChange transThenWrong)

/-- 'fretsawlaw12.TransJoins': WHATEVER THE INPUT: true; the input reads as it did. -/
def transJoinsSpec : ChangeSpec := { name := "transJoins", fn := fun _ => fun
  | [d1, d2, d3] => { results := [.lit (.bool true)], args := [d1, d2, d3] }
  | _ => none }
def transJoinsRow : OpenClaim := { program := "ytlmodfeiphffcaa", sum := "4504863e3b329a6455f567d00303433e7ef83c47076879a0b3ebd5b6507d35ee", func := "fretsaw/fretsawlaw12.TransJoins", spec := "transJoins", inPlace := ["internal/abi.NoEscape"], unfollowed := true, recurses := true, plainKeys := false, apart := false }
def TransJoinsSaid : Prop := transJoinsRow.holds Try.pinned (OpenSpec.ofChange transJoinsSpec)

/-- ITS FALSE NEIGHBOUR: 'it returns false'. Refute it at one input. -/
def transJoinsWrong : ChangeSpec := { name := "transJoins", fn := fun _ => fun
  | [d1, d2, d3] => { results := [.lit (.bool false)], args := [d1, d2, d3] }
  | _ => none }
def TransJoinsWrongFalsely : Prop := transJoinsRow.holds Try.pinned (OpenSpec.ofChange transJoinsWrong)

/-- 'fretsawlaw12.TransBytes': WHATEVER THE INPUT: true; the input reads as it did. -/
def transBytesSpec : ChangeSpec := { name := "transBytes", fn := fun _ => fun
  | [d1, d2] => { results := [.lit (.bool true)], args := [d1, d2] }
  | _ => none }
def transBytesRow : OpenClaim := { program := "ytlmodfeiphffcaa", sum := "4504863e3b329a6455f567d00303433e7ef83c47076879a0b3ebd5b6507d35ee", func := "fretsaw/fretsawlaw12.TransBytes", spec := "transBytes", unfollowed := true, recurses := true, plainKeys := false, apart := false }
def TransBytesSaid : Prop := transBytesRow.holds Try.pinned (OpenSpec.ofChange transBytesSpec)

/-- ITS FALSE NEIGHBOUR: 'it returns false'. Refute it at one input. -/
def transBytesWrong : ChangeSpec := { name := "transBytes", fn := fun _ => fun
  | [d1, d2] => { results := [.lit (.bool false)], args := [d1, d2] }
  | _ => none }
def TransBytesWrongFalsely : Prop := transBytesRow.holds Try.pinned (OpenSpec.ofChange transBytesWrong)

/-- 'fretsawlaw12.TransNone': WHATEVER THE INPUT: true; the input reads as it did. -/
def transNoneSpec : ChangeSpec := { name := "transNone", fn := fun _ => fun
  | [d1, d2] => { results := [.lit (.bool true)], args := [d1, d2] }
  | _ => none }
def transNoneRow : OpenClaim := { program := "ytlmodfeiphffcaa", sum := "4504863e3b329a6455f567d00303433e7ef83c47076879a0b3ebd5b6507d35ee", func := "fretsaw/fretsawlaw12.TransNone", spec := "transNone", inPlace := ["internal/abi.NoEscape"], unfollowed := true, recurses := true, plainKeys := false, apart := false }
def TransNoneSaid : Prop := transNoneRow.holds Try.pinned (OpenSpec.ofChange transNoneSpec)

/-- ITS FALSE NEIGHBOUR: 'it returns false'. Refute it at one input. -/
def transNoneWrong : ChangeSpec := { name := "transNone", fn := fun _ => fun
  | [d1, d2] => { results := [.lit (.bool false)], args := [d1, d2] }
  | _ => none }
def TransNoneWrongFalsely : Prop := transNoneRow.holds Try.pinned (OpenSpec.ofChange transNoneWrong)

/- THE SECOND FORM. 'bulk': how many values and letters a reading holds, each counted each time it is reached (what is shared counts as often as it is met; a slice's spare places count too). A statement '..UptoSaid' is the law's where the arguments, and the package variables that the reading takes, are together of bulk at most 1048576: NARROWER than '..Said'. Prove '..Said' where nothing that the law and all that it calls make is longer than what came in: it says more and counts as full. Else prove '..UptoSaid'. A law counts once. -/
mutual
def uptoBulk {H : Type} : DataW H → Nat
  | .lit (.string bytes) => bytes.length + 1
  | .lit _ => 1
  | .nil => 1
  | .ptr d => uptoBulk d + 1
  | .slice elems spare => uptoBulkAll elems + uptoBulkAll spare + 1
  | .agg parts => uptoBulkAll parts + 1
  | .iface _ d => uptoBulk d + 1
  | .map entries => uptoBulkEntries entries + 1
  | .held _ => 1
def uptoBulkAll {H : Type} : List (DataW H) → Nat
  | [] => 0
  | d :: r => uptoBulk d + uptoBulkAll r
def uptoBulkEntries {H : Type} : List (Lit × DataW H) → Nat
  | [] => 0
  | x :: r => uptoBulkEntry x + uptoBulkEntries r
def uptoBulkEntry {H : Type} : Lit × DataW H → Nat
  | (.string bytes, d) => bytes.length + uptoBulk d + 1
  | (_, d) => uptoBulk d + 1
 end
def uptoSmall : (H : Type) → List (DataW H) → Bool := fun _ ds => decide (uptoBulkAll ds ≤ 1048576)
def OpenSpec.upto (s : _root_.Go.ChangeSpec) : _root_.Go.OpenSpec := { _root_.Go.OpenSpec.ofChange s with cond := some uptoSmall }

/-- 'fretsawlaw12.TransRuns', WHERE WHAT IT READS IS OF BULK AT MOST 1048576: true; the input reads as it did. -/
def transRunsUptoRow : OpenClaim := { program := "ytlmodfeiphffcaa", sum := "4504863e3b329a6455f567d00303433e7ef83c47076879a0b3ebd5b6507d35ee", func := "fretsaw/fretsawlaw12.TransRuns", spec := "transRuns", unfollowed := true, recurses := true, plainKeys := false, apart := false, narrowed := true }
def TransRunsUptoSaid : Prop := transRunsUptoRow.holds Try.pinned (OpenSpec.upto transRunsSpec)

/-- 'fretsawlaw12.TransRules', WHERE WHAT IT READS IS OF BULK AT MOST 1048576: true; the input reads as it did. -/
def transRulesUptoRow : OpenClaim := { program := "ytlmodfeiphffcaa", sum := "4504863e3b329a6455f567d00303433e7ef83c47076879a0b3ebd5b6507d35ee", func := "fretsaw/fretsawlaw12.TransRules", spec := "transRules", inPlace := ["internal/abi.NoEscape"], unfollowed := true, recurses := true, plainKeys := false, apart := false, narrowed := true }
def TransRulesUptoSaid : Prop := transRulesUptoRow.holds Try.pinned (OpenSpec.upto transRulesSpec)

/-- 'fretsawlaw12.TransThen', WHERE WHAT IT READS IS OF BULK AT MOST 1048576: true; the input reads as it did. -/
def transThenUptoRow : OpenClaim := { program := "ytlmodfeiphffcaa", sum := "4504863e3b329a6455f567d00303433e7ef83c47076879a0b3ebd5b6507d35ee", func := "fretsaw/fretsawlaw12.TransThen", spec := "transThen", unfollowed := true, recurses := true, plainKeys := false, apart := false, narrowed := true }
def TransThenUptoSaid : Prop := transThenUptoRow.holds Try.pinned (OpenSpec.upto transThenSpec)

/-- 'fretsawlaw12.TransJoins', WHERE WHAT IT READS IS OF BULK AT MOST 1048576: true; the input reads as it did. -/
def transJoinsUptoRow : OpenClaim := { program := "ytlmodfeiphffcaa", sum := "4504863e3b329a6455f567d00303433e7ef83c47076879a0b3ebd5b6507d35ee", func := "fretsaw/fretsawlaw12.TransJoins", spec := "transJoins", inPlace := ["internal/abi.NoEscape"], unfollowed := true, recurses := true, plainKeys := false, apart := false, narrowed := true }
def TransJoinsUptoSaid : Prop := transJoinsUptoRow.holds Try.pinned (OpenSpec.upto transJoinsSpec)

/-- 'fretsawlaw12.TransBytes', WHERE WHAT IT READS IS OF BULK AT MOST 1048576: true; the input reads as it did. -/
def transBytesUptoRow : OpenClaim := { program := "ytlmodfeiphffcaa", sum := "4504863e3b329a6455f567d00303433e7ef83c47076879a0b3ebd5b6507d35ee", func := "fretsaw/fretsawlaw12.TransBytes", spec := "transBytes", unfollowed := true, recurses := true, plainKeys := false, apart := false, narrowed := true }
def TransBytesUptoSaid : Prop := transBytesUptoRow.holds Try.pinned (OpenSpec.upto transBytesSpec)

/-- 'fretsawlaw12.TransNone', WHERE WHAT IT READS IS OF BULK AT MOST 1048576: true; the input reads as it did. -/
def transNoneUptoRow : OpenClaim := { program := "ytlmodfeiphffcaa", sum := "4504863e3b329a6455f567d00303433e7ef83c47076879a0b3ebd5b6507d35ee", func := "fretsaw/fretsawlaw12.TransNone", spec := "transNone", inPlace := ["internal/abi.NoEscape"], unfollowed := true, recurses := true, plainKeys := false, apart := false, narrowed := true }
def TransNoneUptoSaid : Prop := transNoneUptoRow.holds Try.pinned (OpenSpec.upto transNoneSpec)

end Rows
end Go.Proofs.Ytlmodfeiphffcaa
