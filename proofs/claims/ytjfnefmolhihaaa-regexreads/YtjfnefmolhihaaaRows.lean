/-
  NARROWER THAN 'FOR EVERY INPUT', by the rows' own cells (each row's printed sentence says how): RegexRights: loops.
  DERIVED. THE GIVEN ROWS OF THIS SEAT. 3 by the template 'for every input the law returns true; each argument reads behind the call as it read before'; 0 by the template 'total and deterministic' (their statements: YtjfnefmolhihaaaTotals.lean).
  GIVEN WITH THE SEED: the statements are not yours to turn. If you find one false, say at which input.
  Laid BY PROGRAM, IN A SANDBOX (cutbox-rows.mjs): the forced cells as the released guide's own fill.sh prints them over the translation aac125d2249252cb… (all of the seat's roots in one cut). By AI agents, Wed Nov 11 2026. No macro, syntax, notation, axiom, sorry.
-/
import Derived.Test.YtjfnefmolhihaaaChecked
import GoSem.Claim
import GoSem.ClaimJoined
import GoSem.ClaimMapViews
import Derived.JoinedTies
import Derived.KernelRfl
namespace Go.Proofs.Ytjfnefmolhihaaa
/- THE CELL 'sum', in the pinned program and in every row, IS THE sha256 OF THE DUMP (.gsa) THAT YtjfnefmolhihaaaProg.lean LOADS. Nothing in Lean hashes anything: it is a label: what it is worth is what the hold of that sum in a sandbox is worth. -/
noncomputable def Try.pinned : Pinned := { name := "ytjfnefmolhihaaa", sum := "aac125d2249252cb11bc140419e4364cc2c6b5855aa77d5b452dd7047c6b6e56", checked := Try.checked }
namespace Rows
def none {H : Type} : Left H := { results := [], args := [] }

/-- 'fretsawlaw06.RegexReads': WHATEVER THE INPUT: true; the input reads as it did. -/
def regexReadsSpec : ChangeSpec := { name := "regexReads", fn := fun _ => fun
  | [d] => { results := [.lit (.bool true)], args := [d] }
  | _ => none }
def regexReadsRow : OpenClaim := { program := "ytjfnefmolhihaaa", sum := "aac125d2249252cb11bc140419e4364cc2c6b5855aa77d5b452dd7047c6b6e56", func := "fretsaw/fretsawlaw06.RegexReads", spec := "regexReads", inPlace := ["internal/bytealg.IndexByteString"], unfollowed := true, recurses := true, apart := false }
def RegexReadsSaid : Prop := regexReadsRow.holds Try.pinned (OpenSpec.ofChange regexReadsSpec)

/-- ITS FALSE NEIGHBOUR: 'it returns false'. Refute it at one input. -/
def regexReadsWrong : ChangeSpec := { name := "regexReads", fn := fun _ => fun
  | [d] => { results := [.lit (.bool false)], args := [d] }
  | _ => none }
def RegexReadsWrongFalsely : Prop := regexReadsRow.holds Try.pinned (OpenSpec.ofChange regexReadsWrong)

/-- 'fretsawlaw06.RegexRights': WHATEVER THE INPUT: true; the input reads as it did. -/
def regexRightsSpec : ChangeSpec := { name := "regexRights", fn := fun _ => fun
  | [d] => { results := [.lit (.bool true)], args := [d] }
  | _ => none }
def regexRightsRow : OpenClaim := { program := "ytjfnefmolhihaaa", sum := "aac125d2249252cb11bc140419e4364cc2c6b5855aa77d5b452dd7047c6b6e56", func := "fretsaw/fretsawlaw06.RegexRights", spec := "regexRights", recurses := true, loops := true, apart := false }
def RegexRightsSaid : Prop := regexRightsRow.holds Try.pinned (OpenSpec.ofChange regexRightsSpec)

/-- ITS FALSE NEIGHBOUR: 'it returns false'. Refute it at one input. -/
def regexRightsWrong : ChangeSpec := { name := "regexRights", fn := fun _ => fun
  | [d] => { results := [.lit (.bool false)], args := [d] }
  | _ => none }
def RegexRightsWrongFalsely : Prop := regexRightsRow.holds Try.pinned (OpenSpec.ofChange regexRightsWrong)

/-- 'fretsawlaw06.RegexPlaces': WHATEVER THE INPUT: true; the input reads as it did. -/
def regexPlacesSpec : ChangeSpec := { name := "regexPlaces", fn := fun _ => fun
  | [d1, d2] => { results := [.lit (.bool true)], args := [d1, d2] }
  | _ => none }
def regexPlacesRow : OpenClaim := { program := "ytjfnefmolhihaaa", sum := "aac125d2249252cb11bc140419e4364cc2c6b5855aa77d5b452dd7047c6b6e56", func := "fretsaw/fretsawlaw06.RegexPlaces", spec := "regexPlaces", inPlace := ["internal/bytealg.IndexByteString"], unfollowed := true, recurses := true, apart := false }
def RegexPlacesSaid : Prop := regexPlacesRow.holds Try.pinned (OpenSpec.ofChange regexPlacesSpec)

/-- ITS FALSE NEIGHBOUR: 'it returns false'. Refute it at one input. -/
def regexPlacesWrong : ChangeSpec := { name := "regexPlaces", fn := fun _ => fun
  | [d1, d2] => { results := [.lit (.bool false)], args := [d1, d2] }
  | _ => none }
def RegexPlacesWrongFalsely : Prop := regexPlacesRow.holds Try.pinned (OpenSpec.ofChange regexPlacesWrong)

/- THE SECOND FORM. 'bulk': how many values and letters a reading holds, each counted each time it is reached (what is shared counts as often as it is met; a slice's spare places count too). A statement '..UptoSaid' is the law's where the arguments, and the package variables that the reading takes, are together of bulk at most 1048576: NARROWER than '..Said'. Prove '..Said' where nothing that the law and all that it calls make is longer than what came in: it says more and counts as full. Else prove '..UptoSaid'. A law counts once. -/
mutual
def uptoBulk {H : Type} : DataW H → Nat
  | .lit (.string bytes) => bytes.length + 1
  | .lit _ => 1
  | .nil => 1
  | .ptr d => uptoBulk d + 1
  | .slice elems spare => uptoBulkAll elems + uptoBulkAll spare + 1
  | .agg parts => uptoBulkAll parts + 1
  | .iface _ d => uptoBulk d + 1
  | .map entries => uptoBulkEntries entries + 1
  | .held _ => 1
def uptoBulkAll {H : Type} : List (DataW H) → Nat
  | [] => 0
  | d :: r => uptoBulk d + uptoBulkAll r
def uptoBulkEntries {H : Type} : List (Lit × DataW H) → Nat
  | [] => 0
  | x :: r => uptoBulkEntry x + uptoBulkEntries r
def uptoBulkEntry {H : Type} : Lit × DataW H → Nat
  | (.string bytes, d) => bytes.length + uptoBulk d + 1
  | (_, d) => uptoBulk d + 1
 end
def uptoSmall : (H : Type) → List (DataW H) → Bool := fun _ ds => decide (uptoBulkAll ds ≤ 1048576)
def OpenSpec.upto (s : _root_.Go.ChangeSpec) : _root_.Go.OpenSpec := { _root_.Go.OpenSpec.ofChange s with cond := some uptoSmall }

/-- 'fretsawlaw06.RegexReads', WHERE WHAT IT READS IS OF BULK AT MOST 1048576: true; the input reads as it did. -/
def regexReadsUptoRow : OpenClaim := { program := "ytjfnefmolhihaaa", sum := "aac125d2249252cb11bc140419e4364cc2c6b5855aa77d5b452dd7047c6b6e56", func := "fretsaw/fretsawlaw06.RegexReads", spec := "regexReads", inPlace := ["internal/bytealg.IndexByteString"], unfollowed := true, recurses := true, apart := false, narrowed := true }
def RegexReadsUptoSaid : Prop := regexReadsUptoRow.holds Try.pinned (OpenSpec.upto regexReadsSpec)

/-- 'fretsawlaw06.RegexRights', WHERE WHAT IT READS IS OF BULK AT MOST 1048576: true; the input reads as it did. -/
def regexRightsUptoRow : OpenClaim := { program := "ytjfnefmolhihaaa", sum := "aac125d2249252cb11bc140419e4364cc2c6b5855aa77d5b452dd7047c6b6e56", func := "fretsaw/fretsawlaw06.RegexRights", spec := "regexRights", recurses := true, loops := true, apart := false, narrowed := true }
def RegexRightsUptoSaid : Prop := regexRightsUptoRow.holds Try.pinned (OpenSpec.upto regexRightsSpec)

/-- 'fretsawlaw06.RegexPlaces', WHERE WHAT IT READS IS OF BULK AT MOST 1048576: true; the input reads as it did. -/
def regexPlacesUptoRow : OpenClaim := { program := "ytjfnefmolhihaaa", sum := "aac125d2249252cb11bc140419e4364cc2c6b5855aa77d5b452dd7047c6b6e56", func := "fretsaw/fretsawlaw06.RegexPlaces", spec := "regexPlaces", inPlace := ["internal/bytealg.IndexByteString"], unfollowed := true, recurses := true, apart := false, narrowed := true }
def RegexPlacesUptoSaid : Prop := regexPlacesUptoRow.holds Try.pinned (OpenSpec.upto regexPlacesSpec)

end Rows
end Go.Proofs.Ytjfnefmolhihaaa
