/-
  NARROWER THAN 'FOR EVERY INPUT', by the rows' own cells (each row's printed sentence says how): NfaTakes: loops · NfaJoins: loops · DfaAgrees: loops · PieceWords: loops.
  DERIVED. THE GIVEN ROWS OF THIS SEAT. 4 by the template 'for every input the law returns true; each argument reads behind the call as it read before'; 0 by the template 'total and deterministic' (their statements: YtfilndgbgdnpiaaTotals.lean).
  GIVEN WITH THE SEED: the statements are not yours to turn. If you find one false, say at which input.
  Laid BY PROGRAM, IN A SANDBOX (cutbox-rows.mjs): the forced cells as the released guide's own fill.sh prints them over the translation cabc68d776a19ac8… (all of the seat's roots in one cut). By AI agents, Wed Nov 11 2026. No macro, syntax, notation, axiom, sorry.
-/
import Derived.Test.YtfilndgbgdnpiaaChecked
import GoSem.Claim
import GoSem.ClaimJoined
import GoSem.ClaimMapViews
import Derived.JoinedTies
import Derived.KernelRfl
namespace Go.Proofs.Ytfilndgbgdnpiaa
/- THE CELL 'sum', in the pinned program and in every row, IS THE sha256 OF THE DUMP (.gsa) THAT YtfilndgbgdnpiaaProg.lean LOADS. Nothing in Lean hashes anything: it is a label: what it is worth is what the hold of that sum in a sandbox is worth. -/
noncomputable def Try.pinned : Pinned := { name := "ytfilndgbgdnpiaa", sum := "cabc68d776a19ac88aa288104b6efee4954b2cd1e91706017d714fb0bf21426c", checked := Try.checked }
namespace Rows
def none {H : Type} : Left H := { results := [], args := [] }

/-- 'fretsawlaw07.NfaTakes': WHATEVER THE INPUT: true; the input reads as it did. -/
def nfaTakesSpec : ChangeSpec := { name := "nfaTakes", fn := fun _ => fun
  | [d1, d2, d3] => { results := [.lit (.bool true)], args := [d1, d2, d3] }
  | _ => none }
def nfaTakesRow : OpenClaim := { program := "ytfilndgbgdnpiaa", sum := "cabc68d776a19ac88aa288104b6efee4954b2cd1e91706017d714fb0bf21426c", func := "fretsaw/fretsawlaw07.NfaTakes", spec := "nfaTakes", unfollowed := true, recurses := true, loops := true, plainKeys := false, apart := false }
def NfaTakesSaid : Prop := nfaTakesRow.holds Try.pinned (OpenSpec.ofChange nfaTakesSpec)

/-- ITS FALSE NEIGHBOUR: 'it returns false'. Refute it at one input. -/
def nfaTakesWrong : ChangeSpec := { name := "nfaTakes", fn := fun _ => fun
  | [d1, d2, d3] => { results := [.lit (.bool false)], args := [d1, d2, d3] }
  | _ => none }
def NfaTakesWrongFalsely : Prop := nfaTakesRow.holds Try.pinned (OpenSpec.ofChange nfaTakesWrong)

/-- 'fretsawlaw07.NfaJoins': WHATEVER THE INPUT: true; the input reads as it did. -/
def nfaJoinsSpec : ChangeSpec := { name := "nfaJoins", fn := fun _ => fun
  | [d1, d2, d3] => { results := [.lit (.bool true)], args := [d1, d2, d3] }
  | _ => none }
def nfaJoinsRow : OpenClaim := { program := "ytfilndgbgdnpiaa", sum := "cabc68d776a19ac88aa288104b6efee4954b2cd1e91706017d714fb0bf21426c", func := "fretsaw/fretsawlaw07.NfaJoins", spec := "nfaJoins", unfollowed := true, recurses := true, loops := true, plainKeys := false, apart := false }
def NfaJoinsSaid : Prop := nfaJoinsRow.holds Try.pinned (OpenSpec.ofChange nfaJoinsSpec)

/-- ITS FALSE NEIGHBOUR: 'it returns false'. Refute it at one input. -/
def nfaJoinsWrong : ChangeSpec := { name := "nfaJoins", fn := fun _ => fun
  | [d1, d2, d3] => { results := [.lit (.bool false)], args := [d1, d2, d3] }
  | _ => none }
def NfaJoinsWrongFalsely : Prop := nfaJoinsRow.holds Try.pinned (OpenSpec.ofChange nfaJoinsWrong)

/-- 'fretsawlaw08.DfaAgrees': WHATEVER THE INPUT: true; the input reads as it did. -/
def dfaAgreesSpec : ChangeSpec := { name := "dfaAgrees", fn := fun _ => fun
  | [d1, d2, d3] => { results := [.lit (.bool true)], args := [d1, d2, d3] }
  | _ => none }
def dfaAgreesRow : OpenClaim := { program := "ytfilndgbgdnpiaa", sum := "cabc68d776a19ac88aa288104b6efee4954b2cd1e91706017d714fb0bf21426c", func := "fretsaw/fretsawlaw08.DfaAgrees", spec := "dfaAgrees", unfollowed := true, recurses := true, loops := true, plainKeys := false, apart := false }
def DfaAgreesSaid : Prop := dfaAgreesRow.holds Try.pinned (OpenSpec.ofChange dfaAgreesSpec)

/-- ITS FALSE NEIGHBOUR: 'it returns false'. Refute it at one input. -/
def dfaAgreesWrong : ChangeSpec := { name := "dfaAgrees", fn := fun _ => fun
  | [d1, d2, d3] => { results := [.lit (.bool false)], args := [d1, d2, d3] }
  | _ => none }
def DfaAgreesWrongFalsely : Prop := dfaAgreesRow.holds Try.pinned (OpenSpec.ofChange dfaAgreesWrong)

/-- 'fretsawlaw10.PieceWords': WHATEVER THE INPUT: true; the input reads as it did. -/
def pieceWordsSpec : ChangeSpec := { name := "pieceWords", fn := fun _ => fun
  | [d1, d2] => { results := [.lit (.bool true)], args := [d1, d2] }
  | _ => none }
def pieceWordsRow : OpenClaim := { program := "ytfilndgbgdnpiaa", sum := "cabc68d776a19ac88aa288104b6efee4954b2cd1e91706017d714fb0bf21426c", func := "fretsaw/fretsawlaw10.PieceWords", spec := "pieceWords", unfollowed := true, recurses := true, loops := true, plainKeys := false, apart := false }
def PieceWordsSaid : Prop := pieceWordsRow.holds Try.pinned (OpenSpec.ofChange pieceWordsSpec)

/-- ITS FALSE NEIGHBOUR: 'it returns false'. Refute it at one input. -/
def pieceWordsWrong : ChangeSpec := { name := "pieceWords", fn := fun _ => fun
  | [d1, d2] => { results := [.lit (.bool false)], args := [d1, d2] }
  | _ => none }
def PieceWordsWrongFalsely : Prop := pieceWordsRow.holds Try.pinned (OpenSpec.ofChange pieceWordsWrong)

/- THE SECOND FORM. 'bulk': how many values and letters a reading holds, each counted each time it is reached (what is shared counts as often as it is met; a slice's spare places count too). A statement '..UptoSaid' is the law's where the arguments, and the package variables that the reading takes, are together of bulk at most 1048576: NARROWER than '..Said'. Prove '..Said' where nothing that the law and all that it calls make is longer than what came in: it says more and counts as full. Else prove '..UptoSaid'. A law counts once. -/
mutual
def uptoBulk {H : Type} : DataW H → Nat
  | .lit (.string bytes) => bytes.length + 1
  | .lit _ => 1
  | .nil => 1
  | .ptr d => uptoBulk d + 1
  | .slice elems spare => uptoBulkAll elems + uptoBulkAll spare + 1
  | .agg parts => uptoBulkAll parts + 1
  | .iface _ d => uptoBulk d + 1
  | .map entries => uptoBulkEntries entries + 1
  | .held _ => 1
def uptoBulkAll {H : Type} : List (DataW H) → Nat
  | [] => 0
  | d :: r => uptoBulk d + uptoBulkAll r
def uptoBulkEntries {H : Type} : List (Lit × DataW H) → Nat
  | [] => 0
  | x :: r => uptoBulkEntry x + uptoBulkEntries r
def uptoBulkEntry {H : Type} : Lit × DataW H → Nat
  | (.string bytes, d) => bytes.length + uptoBulk d + 1
  | (_, d) => uptoBulk d + 1
 end
def uptoSmall : (H : Type) → List (DataW H) → Bool := fun _ ds => decide (uptoBulkAll ds ≤ 1048576)
def OpenSpec.upto (s : _root_.Go.ChangeSpec) : _root_.Go.OpenSpec := { _root_.Go.OpenSpec.ofChange s with cond := some uptoSmall }

/-- 'fretsawlaw07.NfaTakes', WHERE WHAT IT READS IS OF BULK AT MOST 1048576: true; the input reads as it did. -/
def nfaTakesUptoRow : OpenClaim := { program := "ytfilndgbgdnpiaa", sum := "cabc68d776a19ac88aa288104b6efee4954b2cd1e91706017d714fb0bf21426c", func := "fretsaw/fretsawlaw07.NfaTakes", spec := "nfaTakes", unfollowed := true, recurses := true, loops := true, plainKeys := false, apart := false, narrowed := true }
def NfaTakesUptoSaid : Prop := nfaTakesUptoRow.holds Try.pinned (OpenSpec.upto nfaTakesSpec)

/-- 'fretsawlaw07.NfaJoins', WHERE WHAT IT READS IS OF BULK AT MOST 1048576: true; the input reads as it did. -/
def nfaJoinsUptoRow : OpenClaim := { program := "ytfilndgbgdnpiaa", sum := "cabc68d776a19ac88aa288104b6efee4954b2cd1e91706017d714fb0bf21426c", func := "fretsaw/fretsawlaw07.NfaJoins", spec := "nfaJoins", unfollowed := true, recurses := true, loops := true, plainKeys := false, apart := false, narrowed := true }
def NfaJoinsUptoSaid : Prop := nfaJoinsUptoRow.holds Try.pinned (OpenSpec.upto nfaJoinsSpec)

/-- 'fretsawlaw08.DfaAgrees', WHERE WHAT IT READS IS OF BULK AT MOST 1048576: true; the input reads as it did. -/
def dfaAgreesUptoRow : OpenClaim := { program := "ytfilndgbgdnpiaa", sum := "cabc68d776a19ac88aa288104b6efee4954b2cd1e91706017d714fb0bf21426c", func := "fretsaw/fretsawlaw08.DfaAgrees", spec := "dfaAgrees", unfollowed := true, recurses := true, loops := true, plainKeys := false, apart := false, narrowed := true }
def DfaAgreesUptoSaid : Prop := dfaAgreesUptoRow.holds Try.pinned (OpenSpec.upto dfaAgreesSpec)

/-- 'fretsawlaw10.PieceWords', WHERE WHAT IT READS IS OF BULK AT MOST 1048576: true; the input reads as it did. -/
def pieceWordsUptoRow : OpenClaim := { program := "ytfilndgbgdnpiaa", sum := "cabc68d776a19ac88aa288104b6efee4954b2cd1e91706017d714fb0bf21426c", func := "fretsaw/fretsawlaw10.PieceWords", spec := "pieceWords", unfollowed := true, recurses := true, loops := true, plainKeys := false, apart := false, narrowed := true }
def PieceWordsUptoSaid : Prop := pieceWordsUptoRow.holds Try.pinned (OpenSpec.upto pieceWordsSpec)

end Rows
end Go.Proofs.Ytfilndgbgdnpiaa
