/-
  No cell of these rows narrows 'for every input' (looked for: loops, veiled, ifaces, maps, wideKeys, modest, calm, conditions, laid).
  DERIVED. THE GIVEN ROWS OF THIS SEAT. 4 by the template 'for every input the law returns true; each argument reads behind the call as it read before'; 0 by the template 'total and deterministic' (their statements: YtiphhgihdpeanaaTotals.lean).
  GIVEN WITH THE SEED: the statements are not yours to turn. If you find one false, say at which input.
  Laid BY PROGRAM, IN A SANDBOX (cutbox-rows.mjs): the forced cells as the released guide's own fill.sh prints them over the translation 46686da8e02b5695… (all of the seat's roots in one cut). By AI agents, Wed Nov 11 2026. No macro, syntax, notation, axiom, sorry.
-/
import Derived.Test.YtiphhgihdpeanaaChecked
import GoSem.Claim
import GoSem.ClaimJoined
import GoSem.ClaimMapViews
import Derived.JoinedTies
import Derived.KernelRfl
namespace Go.Proofs.Ytiphhgihdpeanaa
/- THE CELL 'sum', in the pinned program and in every row, IS THE sha256 OF THE DUMP (.gsa) THAT YtiphhgihdpeanaaProg.lean LOADS. Nothing in Lean hashes anything: it is a label: what it is worth is what the hold of that sum in a sandbox is worth. -/
noncomputable def Try.pinned : Pinned := { name := "ytiphhgihdpeanaa", sum := "46686da8e02b5695c86fe06349a8244b3ae58579419f391e47b2c8367931d08a", checked := Try.checked }
namespace Rows
def none {H : Type} : Left H := { results := [], args := [] }

/-- 'fretsawlaw11.RuleRewrites': WHATEVER THE INPUT: true; the input reads as it did. -/
def ruleRewritesSpec : ChangeSpec := { name := "ruleRewrites", fn := fun _ => fun
  | [d1, d2] => { results := [.lit (.bool true)], args := [d1, d2] }
  | _ => none }
def ruleRewritesRow : OpenClaim := { program := "ytiphhgihdpeanaa", sum := "46686da8e02b5695c86fe06349a8244b3ae58579419f391e47b2c8367931d08a", func := "fretsaw/fretsawlaw11.RuleRewrites", spec := "ruleRewrites", inPlace := ["internal/abi.NoEscape"], unfollowed := true, recurses := true, apart := false }
def RuleRewritesSaid : Prop := ruleRewritesRow.holds Try.pinned (OpenSpec.ofChange ruleRewritesSpec)

/-- ITS FALSE NEIGHBOUR: 'it returns false'. Refute it at one input. -/
def ruleRewritesWrong : ChangeSpec := { name := "ruleRewrites", fn := fun _ => fun
  | [d1, d2] => { results := [.lit (.bool false)], args := [d1, d2] }
  | _ => none }
def RuleRewritesWrongFalsely : Prop := ruleRewritesRow.holds Try.pinned (OpenSpec.ofChange ruleRewritesWrong)

/-- 'fretsawlaw11.RuleGrows': WHATEVER THE INPUT: true; the input reads as it did. -/
def ruleGrowsSpec : ChangeSpec := { name := "ruleGrows", fn := fun _ => fun
  | [d1, d2] => { results := [.lit (.bool true)], args := [d1, d2] }
  | _ => none }
def ruleGrowsRow : OpenClaim := { program := "ytiphhgihdpeanaa", sum := "46686da8e02b5695c86fe06349a8244b3ae58579419f391e47b2c8367931d08a", func := "fretsaw/fretsawlaw11.RuleGrows", spec := "ruleGrows", inPlace := ["internal/abi.NoEscape"], unfollowed := true, recurses := true, apart := false }
def RuleGrowsSaid : Prop := ruleGrowsRow.holds Try.pinned (OpenSpec.ofChange ruleGrowsSpec)

/-- ITS FALSE NEIGHBOUR: 'it returns false'. Refute it at one input. -/
def ruleGrowsWrong : ChangeSpec := { name := "ruleGrows", fn := fun _ => fun
  | [d1, d2] => { results := [.lit (.bool false)], args := [d1, d2] }
  | _ => none }
def RuleGrowsWrongFalsely : Prop := ruleGrowsRow.holds Try.pinned (OpenSpec.ofChange ruleGrowsWrong)

/-- 'fretsawlaw11.RuleOrder': WHATEVER THE INPUT: true; the input reads as it did. -/
def ruleOrderSpec : ChangeSpec := { name := "ruleOrder", fn := fun _ => fun
  | [d1, d2, d3, d4] => { results := [.lit (.bool true)], args := [d1, d2, d3, d4] }
  | _ => none }
def ruleOrderRow : OpenClaim := { program := "ytiphhgihdpeanaa", sum := "46686da8e02b5695c86fe06349a8244b3ae58579419f391e47b2c8367931d08a", func := "fretsaw/fretsawlaw11.RuleOrder", spec := "ruleOrder", inPlace := ["internal/abi.NoEscape", "internal/bytealg.IndexByteString", "internal/bytealg.IndexString"], unfollowed := true, recurses := true, named := ["internal/bytealg.MaxLen"], apart := false }
def RuleOrderSaid : Prop := ruleOrderRow.holds Try.pinned (OpenSpec.ofChange ruleOrderSpec)

/-- ITS FALSE NEIGHBOUR: 'it returns false'. Refute it at one input. -/
def ruleOrderWrong : ChangeSpec := { name := "ruleOrder", fn := fun _ => fun
  | [d1, d2, d3, d4] => { results := [.lit (.bool false)], args := [d1, d2, d3, d4] }
  | _ => none }
def RuleOrderWrongFalsely : Prop := ruleOrderRow.holds Try.pinned (OpenSpec.ofChange ruleOrderWrong)

/-- 'fretsawlaw11.RuleBehind': WHATEVER THE INPUT: true; the input reads as it did. -/
def ruleBehindSpec : ChangeSpec := { name := "ruleBehind", fn := fun _ => fun
  | [d1, d2, d3] => { results := [.lit (.bool true)], args := [d1, d2, d3] }
  | _ => none }
def ruleBehindRow : OpenClaim := { program := "ytiphhgihdpeanaa", sum := "46686da8e02b5695c86fe06349a8244b3ae58579419f391e47b2c8367931d08a", func := "fretsaw/fretsawlaw11.RuleBehind", spec := "ruleBehind", inPlace := ["internal/abi.NoEscape"], unfollowed := true, recurses := true, apart := false }
def RuleBehindSaid : Prop := ruleBehindRow.holds Try.pinned (OpenSpec.ofChange ruleBehindSpec)

/-- ITS FALSE NEIGHBOUR: 'it returns false'. Refute it at one input. -/
def ruleBehindWrong : ChangeSpec := { name := "ruleBehind", fn := fun _ => fun
  | [d1, d2, d3] => { results := [.lit (.bool false)], args := [d1, d2, d3] }
  | _ => none }
def RuleBehindWrongFalsely : Prop := ruleBehindRow.holds Try.pinned (OpenSpec.ofChange ruleBehindWrong)

/- THE SECOND FORM. 'bulk': how many values and letters a reading holds, each counted each time it is reached (what is shared counts as often as it is met; a slice's spare places count too). A statement '..UptoSaid' is the law's where the arguments, and the package variables that the reading takes, are together of bulk at most 1048576: NARROWER than '..Said'. Prove '..Said' where nothing that the law and all that it calls make is longer than what came in: it says more and counts as full. Else prove '..UptoSaid'. A law counts once. -/
mutual
def uptoBulk {H : Type} : DataW H → Nat
  | .lit (.string bytes) => bytes.length + 1
  | .lit _ => 1
  | .nil => 1
  | .ptr d => uptoBulk d + 1
  | .slice elems spare => uptoBulkAll elems + uptoBulkAll spare + 1
  | .agg parts => uptoBulkAll parts + 1
  | .iface _ d => uptoBulk d + 1
  | .map entries => uptoBulkEntries entries + 1
  | .held _ => 1
def uptoBulkAll {H : Type} : List (DataW H) → Nat
  | [] => 0
  | d :: r => uptoBulk d + uptoBulkAll r
def uptoBulkEntries {H : Type} : List (Lit × DataW H) → Nat
  | [] => 0
  | x :: r => uptoBulkEntry x + uptoBulkEntries r
def uptoBulkEntry {H : Type} : Lit × DataW H → Nat
  | (.string bytes, d) => bytes.length + uptoBulk d + 1
  | (_, d) => uptoBulk d + 1
 end
def uptoSmall : (H : Type) → List (DataW H) → Bool := fun _ ds => decide (uptoBulkAll ds ≤ 1048576)
def OpenSpec.upto (s : _root_.Go.ChangeSpec) : _root_.Go.OpenSpec := { _root_.Go.OpenSpec.ofChange s with cond := some uptoSmall }

/-- 'fretsawlaw11.RuleRewrites', WHERE WHAT IT READS IS OF BULK AT MOST 1048576: true; the input reads as it did. -/
def ruleRewritesUptoRow : OpenClaim := { program := "ytiphhgihdpeanaa", sum := "46686da8e02b5695c86fe06349a8244b3ae58579419f391e47b2c8367931d08a", func := "fretsaw/fretsawlaw11.RuleRewrites", spec := "ruleRewrites", inPlace := ["internal/abi.NoEscape"], unfollowed := true, recurses := true, apart := false, narrowed := true }
def RuleRewritesUptoSaid : Prop := ruleRewritesUptoRow.holds Try.pinned (OpenSpec.upto ruleRewritesSpec)

/-- 'fretsawlaw11.RuleGrows', WHERE WHAT IT READS IS OF BULK AT MOST 1048576: true; the input reads as it did. -/
def ruleGrowsUptoRow : OpenClaim := { program := "ytiphhgihdpeanaa", sum := "46686da8e02b5695c86fe06349a8244b3ae58579419f391e47b2c8367931d08a", func := "fretsaw/fretsawlaw11.RuleGrows", spec := "ruleGrows", inPlace := ["internal/abi.NoEscape"], unfollowed := true, recurses := true, apart := false, narrowed := true }
def RuleGrowsUptoSaid : Prop := ruleGrowsUptoRow.holds Try.pinned (OpenSpec.upto ruleGrowsSpec)

/-- 'fretsawlaw11.RuleOrder', WHERE WHAT IT READS IS OF BULK AT MOST 1048576: true; the input reads as it did. -/
def ruleOrderUptoRow : OpenClaim := { program := "ytiphhgihdpeanaa", sum := "46686da8e02b5695c86fe06349a8244b3ae58579419f391e47b2c8367931d08a", func := "fretsaw/fretsawlaw11.RuleOrder", spec := "ruleOrder", inPlace := ["internal/abi.NoEscape", "internal/bytealg.IndexByteString", "internal/bytealg.IndexString"], unfollowed := true, recurses := true, named := ["internal/bytealg.MaxLen"], apart := false, narrowed := true }
def RuleOrderUptoSaid : Prop := ruleOrderUptoRow.holds Try.pinned (OpenSpec.upto ruleOrderSpec)

/-- 'fretsawlaw11.RuleBehind', WHERE WHAT IT READS IS OF BULK AT MOST 1048576: true; the input reads as it did. -/
def ruleBehindUptoRow : OpenClaim := { program := "ytiphhgihdpeanaa", sum := "46686da8e02b5695c86fe06349a8244b3ae58579419f391e47b2c8367931d08a", func := "fretsaw/fretsawlaw11.RuleBehind", spec := "ruleBehind", inPlace := ["internal/abi.NoEscape"], unfollowed := true, recurses := true, apart := false, narrowed := true }
def RuleBehindUptoSaid : Prop := ruleBehindUptoRow.holds Try.pinned (OpenSpec.upto ruleBehindSpec)

end Rows
end Go.Proofs.Ytiphhgihdpeanaa
