/-
  No cell of these rows narrows 'for every input' (looked for: loops, veiled, ifaces, maps, wideKeys, modest, calm, conditions, laid).
  DERIVED. THE GIVEN ROWS OF THIS SEAT. 3 by the template 'for every input the law returns true; each argument reads behind the call as it read before'; 0 by the template 'total and deterministic' (their statements: YtmmlibehihknbaaTotals.lean).
  GIVEN WITH THE SEED: the statements are not yours to turn. If you find one false, say at which input.
  Laid BY PROGRAM, IN A SANDBOX (cutbox-rows.mjs): the forced cells as the released guide's own fill.sh prints them over the translation a8925bdf0f1e2059… (all of the seat's roots in one cut). By AI agents, Wed Nov 11 2026. No macro, syntax, notation, axiom, sorry.
-/
import Derived.Test.YtmmlibehihknbaaChecked
import GoSem.Claim
import GoSem.ClaimJoined
import GoSem.ClaimMapViews
import Derived.JoinedTies
import Derived.KernelRfl
namespace Go.Proofs.Ytmmlibehihknbaa
/- THE CELL 'sum', in the pinned program and in every row, IS THE sha256 OF THE DUMP (.gsa) THAT YtmmlibehihknbaaProg.lean LOADS. Nothing in Lean hashes anything: it is a label: what it is worth is what the hold of that sum in a sandbox is worth. -/
noncomputable def Try.pinned : Pinned := { name := "ytmmlibehihknbaa", sum := "a8925bdf0f1e2059dc51b9ac8689b966e1ac7a46b6a38aff2eb7950ae2c963df", checked := Try.checked }
namespace Rows
def none {H : Type} : Left H := { results := [], args := [] }

/-- 'fretsawlaw19.IrTells': WHATEVER THE INPUT: true; the input reads as it did. -/
def irTellsSpec : ChangeSpec := { name := "irTells", fn := fun _ => fun
  | [d1, d2] => { results := [.lit (.bool true)], args := [d1, d2] }
  | _ => none }
def irTellsRow : OpenClaim := { program := "ytmmlibehihknbaa", sum := "a8925bdf0f1e2059dc51b9ac8689b966e1ac7a46b6a38aff2eb7950ae2c963df", func := "fretsaw/fretsawlaw19.IrTells", spec := "irTells", unfollowed := true, recurses := true, plainKeys := false, apart := false }
def IrTellsSaid : Prop := irTellsRow.holds Try.pinned (OpenSpec.ofChange irTellsSpec)

/-- ITS FALSE NEIGHBOUR: 'it returns false'. Refute it at one input. -/
def irTellsWrong : ChangeSpec := { name := "irTells", fn := fun _ => fun
  | [d1, d2] => { results := [.lit (.bool false)], args := [d1, d2] }
  | _ => none }
def IrTellsWrongFalsely : Prop := irTellsRow.holds Try.pinned (OpenSpec.ofChange irTellsWrong)

/-- 'fretsawlaw20.OptLive': WHATEVER THE INPUT: true; the input reads as it did. -/
def optLiveSpec : ChangeSpec := { name := "optLive", fn := fun _ => fun
  | [d] => { results := [.lit (.bool true)], args := [d] }
  | _ => none }
def optLiveRow : OpenClaim := { program := "ytmmlibehihknbaa", sum := "a8925bdf0f1e2059dc51b9ac8689b966e1ac7a46b6a38aff2eb7950ae2c963df", func := "fretsaw/fretsawlaw20.OptLive", spec := "optLive", unfollowed := true, recurses := true, plainKeys := false, apart := false }
def OptLiveSaid : Prop := optLiveRow.holds Try.pinned (OpenSpec.ofChange optLiveSpec)

/-- ITS FALSE NEIGHBOUR: 'it returns false'. Refute it at one input. -/
def optLiveWrong : ChangeSpec := { name := "optLive", fn := fun _ => fun
  | [d] => { results := [.lit (.bool false)], args := [d] }
  | _ => none }
def OptLiveWrongFalsely : Prop := optLiveRow.holds Try.pinned (OpenSpec.ofChange optLiveWrong)

/-- 'fretsawlaw20.OptDead': WHATEVER THE INPUT: true; the input reads as it did. -/
def optDeadSpec : ChangeSpec := { name := "optDead", fn := fun _ => fun
  | [d1, d2] => { results := [.lit (.bool true)], args := [d1, d2] }
  | _ => none }
def optDeadRow : OpenClaim := { program := "ytmmlibehihknbaa", sum := "a8925bdf0f1e2059dc51b9ac8689b966e1ac7a46b6a38aff2eb7950ae2c963df", func := "fretsaw/fretsawlaw20.OptDead", spec := "optDead", unfollowed := true, recurses := true, plainKeys := false, apart := false }
def OptDeadSaid : Prop := optDeadRow.holds Try.pinned (OpenSpec.ofChange optDeadSpec)

/-- ITS FALSE NEIGHBOUR: 'it returns false'. Refute it at one input. -/
def optDeadWrong : ChangeSpec := { name := "optDead", fn := fun _ => fun
  | [d1, d2] => { results := [.lit (.bool false)], args := [d1, d2] }
  | _ => none }
def OptDeadWrongFalsely : Prop := optDeadRow.holds Try.pinned (OpenSpec.ofChange optDeadWrong)

/- THE SECOND FORM. 'bulk': how many values and letters a reading holds, each counted each time it is reached (what is shared counts as often as it is met; a slice's spare places count too). A statement '..UptoSaid' is the law's where the arguments, and the package variables that the reading takes, are together of bulk at most 1048576: NARROWER than '..Said'. Prove '..Said' where nothing that the law and all that it calls make is longer than what came in: it says more and counts as full. Else prove '..UptoSaid'. A law counts once. -/
mutual
def uptoBulk {H : Type} : DataW H → Nat
  | .lit (.string bytes) => bytes.length + 1
  | .lit _ => 1
  | .nil => 1
  | .ptr d => uptoBulk d + 1
  | .slice elems spare => uptoBulkAll elems + uptoBulkAll spare + 1
  | .agg parts => uptoBulkAll parts + 1
  | .iface _ d => uptoBulk d + 1
  | .map entries => uptoBulkEntries entries + 1
  | .held _ => 1
def uptoBulkAll {H : Type} : List (DataW H) → Nat
  | [] => 0
  | d :: r => uptoBulk d + uptoBulkAll r
def uptoBulkEntries {H : Type} : List (Lit × DataW H) → Nat
  | [] => 0
  | x :: r => uptoBulkEntry x + uptoBulkEntries r
def uptoBulkEntry {H : Type} : Lit × DataW H → Nat
  | (.string bytes, d) => bytes.length + uptoBulk d + 1
  | (_, d) => uptoBulk d + 1
 end
def uptoSmall : (H : Type) → List (DataW H) → Bool := fun _ ds => decide (uptoBulkAll ds ≤ 1048576)
def OpenSpec.upto (s : _root_.Go.ChangeSpec) : _root_.Go.OpenSpec := { _root_.Go.OpenSpec.ofChange s with cond := some uptoSmall }

/-- 'fretsawlaw19.IrTells', WHERE WHAT IT READS IS OF BULK AT MOST 1048576: true; the input reads as it did. -/
def irTellsUptoRow : OpenClaim := { program := "ytmmlibehihknbaa", sum := "a8925bdf0f1e2059dc51b9ac8689b966e1ac7a46b6a38aff2eb7950ae2c963df", func := "fretsaw/fretsawlaw19.IrTells", spec := "irTells", unfollowed := true, recurses := true, plainKeys := false, apart := false, narrowed := true }
def IrTellsUptoSaid : Prop := irTellsUptoRow.holds Try.pinned (OpenSpec.upto irTellsSpec)

/-- 'fretsawlaw20.OptLive', WHERE WHAT IT READS IS OF BULK AT MOST 1048576: true; the input reads as it did. -/
def optLiveUptoRow : OpenClaim := { program := "ytmmlibehihknbaa", sum := "a8925bdf0f1e2059dc51b9ac8689b966e1ac7a46b6a38aff2eb7950ae2c963df", func := "fretsaw/fretsawlaw20.OptLive", spec := "optLive", unfollowed := true, recurses := true, plainKeys := false, apart := false, narrowed := true }
def OptLiveUptoSaid : Prop := optLiveUptoRow.holds Try.pinned (OpenSpec.upto optLiveSpec)

/-- 'fretsawlaw20.OptDead', WHERE WHAT IT READS IS OF BULK AT MOST 1048576: true; the input reads as it did. -/
def optDeadUptoRow : OpenClaim := { program := "ytmmlibehihknbaa", sum := "a8925bdf0f1e2059dc51b9ac8689b966e1ac7a46b6a38aff2eb7950ae2c963df", func := "fretsaw/fretsawlaw20.OptDead", spec := "optDead", unfollowed := true, recurses := true, plainKeys := false, apart := false, narrowed := true }
def OptDeadUptoSaid : Prop := optDeadUptoRow.holds Try.pinned (OpenSpec.upto optDeadSpec)

end Rows
end Go.Proofs.Ytmmlibehihknbaa
