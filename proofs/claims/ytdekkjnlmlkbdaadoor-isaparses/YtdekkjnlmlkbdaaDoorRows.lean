/-
  NARROWER THAN 'FOR EVERY INPUT', by the rows' own cells (each row's printed sentence says how): IsaRights: laid · IsaPuts: laid · IsaGets: laid · IsaParses: laid · IsaBack: laid · IsaOnce: laid.
  DERIVED. THE GIVEN ROWS OF THIS SEAT. 6 by the template 'for every input the law returns true; each argument reads behind the call as it read before'; 0 by the template 'total and deterministic' (their statements: YtdekkjnlmlkbdaaDoorTotals.lean).
  GIVEN WITH THE SEED: the statements are not yours to turn. If you find one false, say at which input.
  Laid BY PROGRAM, IN A SANDBOX (cutbox-rows.mjs): the forced cells as the released guide's own fill.sh prints them over the translation 066a3fa3bd3082d7… (all of the seat's roots in one cut). By AI agents, Wed Nov 11 2026. No macro, syntax, notation, axiom, sorry.
-/
import Derived.Test.YtdekkjnlmlkbdaaDoorChecked
import GoSem.Claim
import GoSem.ClaimJoined
import GoSem.ClaimMapViews
import Derived.JoinedTies
import Derived.KernelRfl
namespace Go.Proofs.YtdekkjnlmlkbdaaDoor
/- THE CELL 'sum', in the pinned program and in every row, IS THE sha256 OF THE DUMP (.gsa) THAT YtdekkjnlmlkbdaaDoorProg.lean LOADS. Nothing in Lean hashes anything: it is a label: what it is worth is what the hold of that sum in a sandbox is worth. -/
noncomputable def Tryd.pinned : Pinned := { name := "ytdekkjnlmlkbdaadoor", sum := "066a3fa3bd3082d775ed1f6074e6feb8db7dd0d4aff67cd6907351f628eaddc0", checked := Tryd.checked }
namespace Rows
def none {H : Type} : Left H := { results := [], args := [] }

/- WHAT THE LISTED PACKAGE-LEVEL VARIABLES READ AS WHEN THE CALL BEGINS. Each datum BY PROGRAM (the guide's laid-datum.mjs) off the statement by which the dump's own 'gosem.cut.vars' lays the variable. In a bare row this is a premise. The card (YtdekkjnlmlkbdaaDoorCards.lean) ties it to the program's text. -/
def laid_fretsaw_isa_kinds {H : Type} : DataW H := .agg [.agg [.lit (.string []), .lit (.int .i64 0)], .agg [.lit (.string [114]), .lit (.int .i64 7)], .agg [.lit (.string [109]), .lit (.int .i64 1)], .agg [.lit (.string [116]), .lit (.int .i64 15)], .agg [.lit (.string [64]), .lit (.int .i64 4095)], .agg [.lit (.string []), .lit (.int .i64 1073741824)]]
def laid_fretsaw_isa_forms {H : Type} : DataW H := .agg [.agg [.lit (.string []), .agg [.lit (.int .i64 0), .lit (.int .i64 0), .lit (.int .i64 0), .lit (.int .i64 0)]], .agg [.lit (.string [104, 97, 108, 116]), .agg [.lit (.int .i64 0), .lit (.int .i64 0), .lit (.int .i64 0), .lit (.int .i64 0)]], .agg [.lit (.string [108, 111, 97, 100]), .agg [.lit (.int .i64 1), .lit (.int .i64 5), .lit (.int .i64 0), .lit (.int .i64 0)]], .agg [.lit (.string [109, 111, 118, 101]), .agg [.lit (.int .i64 1), .lit (.int .i64 1), .lit (.int .i64 0), .lit (.int .i64 0)]], .agg [.lit (.string [106, 117, 109, 112]), .agg [.lit (.int .i64 0), .lit (.int .i64 0), .lit (.int .i64 4), .lit (.int .i64 0)]], .agg [.lit (.string [115, 97, 109, 101]), .agg [.lit (.int .i64 1), .lit (.int .i64 5), .lit (.int .i64 4), .lit (.int .i64 0)]], .agg [.lit (.string [108, 101, 115, 115]), .agg [.lit (.int .i64 1), .lit (.int .i64 5), .lit (.int .i64 4), .lit (.int .i64 0)]], .agg [.lit (.string [110, 101, 120, 116]), .agg [.lit (.int .i64 1), .lit (.int .i64 0), .lit (.int .i64 4), .lit (.int .i64 0)]], .agg [.lit (.string [108, 111, 111, 107]), .agg [.lit (.int .i64 1), .lit (.int .i64 1), .lit (.int .i64 0), .lit (.int .i64 3)]], .agg [.lit (.string [109, 97, 114, 107]), .agg [.lit (.int .i64 2), .lit (.int .i64 0), .lit (.int .i64 0), .lit (.int .i64 0)]], .agg [.lit (.string [98, 97, 99, 107]), .agg [.lit (.int .i64 2), .lit (.int .i64 0), .lit (.int .i64 0), .lit (.int .i64 0)]], .agg [.lit (.string [104, 101, 114, 101]), .agg [.lit (.int .i64 2), .lit (.int .i64 0), .lit (.int .i64 4), .lit (.int .i64 0)]], .agg [.lit (.string [99, 111, 112, 121]), .agg [.lit (.int .i64 1), .lit (.int .i64 0), .lit (.int .i64 0), .lit (.int .i64 0)]], .agg [.lit (.string [116, 101, 120, 116]), .agg [.lit (.int .i64 1), .lit (.int .i64 1), .lit (.int .i64 0), .lit (.int .i64 0)]], .agg [.lit (.string [116, 117, 114, 110]), .agg [.lit (.int .i64 0), .lit (.int .i64 0), .lit (.int .i64 0), .lit (.int .i64 0)]], .agg [.lit (.string [115, 105, 103, 110]), .agg [.lit (.int .i64 1), .lit (.int .i64 0), .lit (.int .i64 0), .lit (.int .i64 0)]], .agg [.lit (.string [106, 111, 105, 110]), .agg [.lit (.int .i64 0), .lit (.int .i64 0), .lit (.int .i64 0), .lit (.int .i64 0)]], .agg [.lit (.string [101, 109, 105, 116]), .agg [.lit (.int .i64 1), .lit (.int .i64 0), .lit (.int .i64 0), .lit (.int .i64 0)]]]
def laid_math_bits_deBruijn32tab {H : Type} : DataW H := .agg [.lit (.int .u8 0), .lit (.int .u8 1), .lit (.int .u8 28), .lit (.int .u8 2), .lit (.int .u8 29), .lit (.int .u8 14), .lit (.int .u8 24), .lit (.int .u8 3), .lit (.int .u8 30), .lit (.int .u8 22), .lit (.int .u8 20), .lit (.int .u8 15), .lit (.int .u8 25), .lit (.int .u8 17), .lit (.int .u8 4), .lit (.int .u8 8), .lit (.int .u8 31), .lit (.int .u8 27), .lit (.int .u8 13), .lit (.int .u8 23), .lit (.int .u8 21), .lit (.int .u8 19), .lit (.int .u8 16), .lit (.int .u8 7), .lit (.int .u8 26), .lit (.int .u8 12), .lit (.int .u8 18), .lit (.int .u8 6), .lit (.int .u8 11), .lit (.int .u8 5), .lit (.int .u8 10), .lit (.int .u8 9)]
def laid_math_bits_deBruijn64tab {H : Type} : DataW H := .agg [.lit (.int .u8 0), .lit (.int .u8 1), .lit (.int .u8 56), .lit (.int .u8 2), .lit (.int .u8 57), .lit (.int .u8 49), .lit (.int .u8 28), .lit (.int .u8 3), .lit (.int .u8 61), .lit (.int .u8 58), .lit (.int .u8 42), .lit (.int .u8 50), .lit (.int .u8 38), .lit (.int .u8 29), .lit (.int .u8 17), .lit (.int .u8 4), .lit (.int .u8 62), .lit (.int .u8 47), .lit (.int .u8 59), .lit (.int .u8 36), .lit (.int .u8 45), .lit (.int .u8 43), .lit (.int .u8 51), .lit (.int .u8 22), .lit (.int .u8 53), .lit (.int .u8 39), .lit (.int .u8 33), .lit (.int .u8 30), .lit (.int .u8 24), .lit (.int .u8 18), .lit (.int .u8 12), .lit (.int .u8 5), .lit (.int .u8 63), .lit (.int .u8 55), .lit (.int .u8 48), .lit (.int .u8 27), .lit (.int .u8 60), .lit (.int .u8 41), .lit (.int .u8 37), .lit (.int .u8 16), .lit (.int .u8 46), .lit (.int .u8 35), .lit (.int .u8 44), .lit (.int .u8 21), .lit (.int .u8 52), .lit (.int .u8 32), .lit (.int .u8 23), .lit (.int .u8 11), .lit (.int .u8 54), .lit (.int .u8 26), .lit (.int .u8 40), .lit (.int .u8 15), .lit (.int .u8 34), .lit (.int .u8 20), .lit (.int .u8 31), .lit (.int .u8 10), .lit (.int .u8 25), .lit (.int .u8 14), .lit (.int .u8 19), .lit (.int .u8 9), .lit (.int .u8 13), .lit (.int .u8 8), .lit (.int .u8 7), .lit (.int .u8 6)]
def laid_internal_strconv_uint64pow10 {H : Type} : DataW H := .agg [.lit (.int .u64 1), .lit (.int .u64 10), .lit (.int .u64 100), .lit (.int .u64 1000), .lit (.int .u64 10000), .lit (.int .u64 100000), .lit (.int .u64 1000000), .lit (.int .u64 10000000), .lit (.int .u64 100000000), .lit (.int .u64 1000000000), .lit (.int .u64 10000000000), .lit (.int .u64 100000000000), .lit (.int .u64 1000000000000), .lit (.int .u64 10000000000000), .lit (.int .u64 100000000000000), .lit (.int .u64 1000000000000000), .lit (.int .u64 10000000000000000), .lit (.int .u64 100000000000000000), .lit (.int .u64 1000000000000000000), .lit (.int .u64 10000000000000000000)]

/-- 'fretsawlaw21.IsaRights': WHATEVER THE INPUT: true; the input reads as it did. -/
def isaRightsSpec : ChangeSpec := { name := "isaRights", fn := fun _ => fun
  | [d] => { results := [.lit (.bool true)], args := [d] }
  | _ => none }
def isaRightsRow : OpenClaim := { program := "ytdekkjnlmlkbdaadoor", sum := "066a3fa3bd3082d775ed1f6074e6feb8db7dd0d4aff67cd6907351f628eaddc0", func := "fretsaw/fretsawlaw21.IsaRights", spec := "isaRights", named := ["fretsaw/isa.forms", "fretsaw/isa.kinds"], apart := false, laid := [("fretsaw/isa.kinds", laid_fretsaw_isa_kinds), ("fretsaw/isa.forms", laid_fretsaw_isa_forms)] }
def IsaRightsSaid : Prop := isaRightsRow.holds Tryd.pinned (OpenSpec.ofChange isaRightsSpec)

/-- ITS FALSE NEIGHBOUR: 'it returns false'. Refute it at one input. -/
def isaRightsWrong : ChangeSpec := { name := "isaRights", fn := fun _ => fun
  | [d] => { results := [.lit (.bool false)], args := [d] }
  | _ => none }
def IsaRightsWrongFalsely : Prop := isaRightsRow.holds Tryd.pinned (OpenSpec.ofChange isaRightsWrong)

/-- 'fretsawlaw21.IsaPuts': WHATEVER THE INPUT: true; the input reads as it did. -/
def isaPutsSpec : ChangeSpec := { name := "isaPuts", fn := fun _ => fun
  | [d] => { results := [.lit (.bool true)], args := [d] }
  | _ => none }
def isaPutsRow : OpenClaim := { program := "ytdekkjnlmlkbdaadoor", sum := "066a3fa3bd3082d775ed1f6074e6feb8db7dd0d4aff67cd6907351f628eaddc0", func := "fretsaw/fretsawlaw21.IsaPuts", spec := "isaPuts", inPlace := ["internal/abi.NoEscape"], named := ["fretsaw/isa.forms", "fretsaw/isa.kinds", "internal/strconv.uint64pow10", "math/bits.deBruijn32tab", "math/bits.deBruijn64tab"], apart := false, laid := [("math/bits.deBruijn32tab", laid_math_bits_deBruijn32tab), ("math/bits.deBruijn64tab", laid_math_bits_deBruijn64tab), ("internal/strconv.uint64pow10", laid_internal_strconv_uint64pow10), ("fretsaw/isa.kinds", laid_fretsaw_isa_kinds), ("fretsaw/isa.forms", laid_fretsaw_isa_forms)] }
def IsaPutsSaid : Prop := isaPutsRow.holds Tryd.pinned (OpenSpec.ofChange isaPutsSpec)

/-- ITS FALSE NEIGHBOUR: 'it returns false'. Refute it at one input. -/
def isaPutsWrong : ChangeSpec := { name := "isaPuts", fn := fun _ => fun
  | [d] => { results := [.lit (.bool false)], args := [d] }
  | _ => none }
def IsaPutsWrongFalsely : Prop := isaPutsRow.holds Tryd.pinned (OpenSpec.ofChange isaPutsWrong)

/-- 'fretsawlaw21.IsaGets': WHATEVER THE INPUT: true; the input reads as it did. -/
def isaGetsSpec : ChangeSpec := { name := "isaGets", fn := fun _ => fun
  | [d] => { results := [.lit (.bool true)], args := [d] }
  | _ => none }
def isaGetsRow : OpenClaim := { program := "ytdekkjnlmlkbdaadoor", sum := "066a3fa3bd3082d775ed1f6074e6feb8db7dd0d4aff67cd6907351f628eaddc0", func := "fretsaw/fretsawlaw21.IsaGets", spec := "isaGets", named := ["fretsaw/isa.forms", "fretsaw/isa.kinds"], apart := false, laid := [("fretsaw/isa.kinds", laid_fretsaw_isa_kinds), ("fretsaw/isa.forms", laid_fretsaw_isa_forms)] }
def IsaGetsSaid : Prop := isaGetsRow.holds Tryd.pinned (OpenSpec.ofChange isaGetsSpec)

/-- ITS FALSE NEIGHBOUR: 'it returns false'. Refute it at one input. -/
def isaGetsWrong : ChangeSpec := { name := "isaGets", fn := fun _ => fun
  | [d] => { results := [.lit (.bool false)], args := [d] }
  | _ => none }
def IsaGetsWrongFalsely : Prop := isaGetsRow.holds Tryd.pinned (OpenSpec.ofChange isaGetsWrong)

/-- 'fretsawlaw21.IsaParses': WHATEVER THE INPUT: true; the input reads as it did. -/
def isaParsesSpec : ChangeSpec := { name := "isaParses", fn := fun _ => fun
  | [d] => { results := [.lit (.bool true)], args := [d] }
  | _ => none }
def isaParsesRow : OpenClaim := { program := "ytdekkjnlmlkbdaadoor", sum := "066a3fa3bd3082d775ed1f6074e6feb8db7dd0d4aff67cd6907351f628eaddc0", func := "fretsaw/fretsawlaw21.IsaParses", spec := "isaParses", named := ["fretsaw/isa.forms", "fretsaw/isa.kinds"], apart := false, laid := [("fretsaw/isa.kinds", laid_fretsaw_isa_kinds), ("fretsaw/isa.forms", laid_fretsaw_isa_forms)] }
def IsaParsesSaid : Prop := isaParsesRow.holds Tryd.pinned (OpenSpec.ofChange isaParsesSpec)

/-- ITS FALSE NEIGHBOUR: 'it returns false'. Refute it at one input. -/
def isaParsesWrong : ChangeSpec := { name := "isaParses", fn := fun _ => fun
  | [d] => { results := [.lit (.bool false)], args := [d] }
  | _ => none }
def IsaParsesWrongFalsely : Prop := isaParsesRow.holds Tryd.pinned (OpenSpec.ofChange isaParsesWrong)

/-- 'fretsawlaw21.IsaBack': WHATEVER THE INPUT: true; the input reads as it did. -/
def isaBackSpec : ChangeSpec := { name := "isaBack", fn := fun _ => fun
  | [d] => { results := [.lit (.bool true)], args := [d] }
  | _ => none }
def isaBackRow : OpenClaim := { program := "ytdekkjnlmlkbdaadoor", sum := "066a3fa3bd3082d775ed1f6074e6feb8db7dd0d4aff67cd6907351f628eaddc0", func := "fretsaw/fretsawlaw21.IsaBack", spec := "isaBack", inPlace := ["internal/abi.NoEscape"], named := ["fretsaw/isa.forms", "fretsaw/isa.kinds", "internal/strconv.uint64pow10", "math/bits.deBruijn32tab", "math/bits.deBruijn64tab"], apart := false, laid := [("math/bits.deBruijn32tab", laid_math_bits_deBruijn32tab), ("math/bits.deBruijn64tab", laid_math_bits_deBruijn64tab), ("internal/strconv.uint64pow10", laid_internal_strconv_uint64pow10), ("fretsaw/isa.kinds", laid_fretsaw_isa_kinds), ("fretsaw/isa.forms", laid_fretsaw_isa_forms)] }
def IsaBackSaid : Prop := isaBackRow.holds Tryd.pinned (OpenSpec.ofChange isaBackSpec)

/-- ITS FALSE NEIGHBOUR: 'it returns false'. Refute it at one input. -/
def isaBackWrong : ChangeSpec := { name := "isaBack", fn := fun _ => fun
  | [d] => { results := [.lit (.bool false)], args := [d] }
  | _ => none }
def IsaBackWrongFalsely : Prop := isaBackRow.holds Tryd.pinned (OpenSpec.ofChange isaBackWrong)

/-- 'fretsawlaw21.IsaOnce': WHATEVER THE INPUT: true; the input reads as it did. -/
def isaOnceSpec : ChangeSpec := { name := "isaOnce", fn := fun _ => fun
  | [d] => { results := [.lit (.bool true)], args := [d] }
  | _ => none }
def isaOnceRow : OpenClaim := { program := "ytdekkjnlmlkbdaadoor", sum := "066a3fa3bd3082d775ed1f6074e6feb8db7dd0d4aff67cd6907351f628eaddc0", func := "fretsaw/fretsawlaw21.IsaOnce", spec := "isaOnce", inPlace := ["internal/abi.NoEscape"], named := ["fretsaw/isa.forms", "fretsaw/isa.kinds", "internal/strconv.uint64pow10", "math/bits.deBruijn32tab", "math/bits.deBruijn64tab"], apart := false, laid := [("math/bits.deBruijn32tab", laid_math_bits_deBruijn32tab), ("math/bits.deBruijn64tab", laid_math_bits_deBruijn64tab), ("internal/strconv.uint64pow10", laid_internal_strconv_uint64pow10), ("fretsaw/isa.kinds", laid_fretsaw_isa_kinds), ("fretsaw/isa.forms", laid_fretsaw_isa_forms)] }
def IsaOnceSaid : Prop := isaOnceRow.holds Tryd.pinned (OpenSpec.ofChange isaOnceSpec)

/-- ITS FALSE NEIGHBOUR: 'it returns false'. Refute it at one input. -/
def isaOnceWrong : ChangeSpec := { name := "isaOnce", fn := fun _ => fun
  | [d] => { results := [.lit (.bool false)], args := [d] }
  | _ => none }
def IsaOnceWrongFalsely : Prop := isaOnceRow.holds Tryd.pinned (OpenSpec.ofChange isaOnceWrong)

/- THE SECOND FORM. 'bulk': how many values and letters a reading holds, each counted each time it is reached (what is shared counts as often as it is met; a slice's spare places count too). A statement '..UptoSaid' is the law's where the arguments, and the package variables that the reading takes, are together of bulk at most 1048576: NARROWER than '..Said'. Prove '..Said' where nothing that the law and all that it calls make is longer than what came in: it says more and counts as full. Else prove '..UptoSaid'. A law counts once. -/
mutual
def uptoBulk {H : Type} : DataW H → Nat
  | .lit (.string bytes) => bytes.length + 1
  | .lit _ => 1
  | .nil => 1
  | .ptr d => uptoBulk d + 1
  | .slice elems spare => uptoBulkAll elems + uptoBulkAll spare + 1
  | .agg parts => uptoBulkAll parts + 1
  | .iface _ d => uptoBulk d + 1
  | .map entries => uptoBulkEntries entries + 1
  | .held _ => 1
def uptoBulkAll {H : Type} : List (DataW H) → Nat
  | [] => 0
  | d :: r => uptoBulk d + uptoBulkAll r
def uptoBulkEntries {H : Type} : List (Lit × DataW H) → Nat
  | [] => 0
  | x :: r => uptoBulkEntry x + uptoBulkEntries r
def uptoBulkEntry {H : Type} : Lit × DataW H → Nat
  | (.string bytes, d) => bytes.length + uptoBulk d + 1
  | (_, d) => uptoBulk d + 1
 end
def uptoSmall : (H : Type) → List (DataW H) → Bool := fun _ ds => decide (uptoBulkAll ds ≤ 1048576)
def OpenSpec.upto (s : _root_.Go.ChangeSpec) : _root_.Go.OpenSpec := { _root_.Go.OpenSpec.ofChange s with cond := some uptoSmall }

/-- 'fretsawlaw21.IsaRights', WHERE WHAT IT READS IS OF BULK AT MOST 1048576: true; the input reads as it did. -/
def isaRightsUptoRow : OpenClaim := { program := "ytdekkjnlmlkbdaadoor", sum := "066a3fa3bd3082d775ed1f6074e6feb8db7dd0d4aff67cd6907351f628eaddc0", func := "fretsaw/fretsawlaw21.IsaRights", spec := "isaRights", named := ["fretsaw/isa.forms", "fretsaw/isa.kinds"], apart := false, laid := [("fretsaw/isa.kinds", laid_fretsaw_isa_kinds), ("fretsaw/isa.forms", laid_fretsaw_isa_forms)], narrowed := true }
def IsaRightsUptoSaid : Prop := isaRightsUptoRow.holds Tryd.pinned (OpenSpec.upto isaRightsSpec)

/-- 'fretsawlaw21.IsaPuts', WHERE WHAT IT READS IS OF BULK AT MOST 1048576: true; the input reads as it did. -/
def isaPutsUptoRow : OpenClaim := { program := "ytdekkjnlmlkbdaadoor", sum := "066a3fa3bd3082d775ed1f6074e6feb8db7dd0d4aff67cd6907351f628eaddc0", func := "fretsaw/fretsawlaw21.IsaPuts", spec := "isaPuts", inPlace := ["internal/abi.NoEscape"], named := ["fretsaw/isa.forms", "fretsaw/isa.kinds", "internal/strconv.uint64pow10", "math/bits.deBruijn32tab", "math/bits.deBruijn64tab"], apart := false, laid := [("math/bits.deBruijn32tab", laid_math_bits_deBruijn32tab), ("math/bits.deBruijn64tab", laid_math_bits_deBruijn64tab), ("internal/strconv.uint64pow10", laid_internal_strconv_uint64pow10), ("fretsaw/isa.kinds", laid_fretsaw_isa_kinds), ("fretsaw/isa.forms", laid_fretsaw_isa_forms)], narrowed := true }
def IsaPutsUptoSaid : Prop := isaPutsUptoRow.holds Tryd.pinned (OpenSpec.upto isaPutsSpec)

/-- 'fretsawlaw21.IsaGets', WHERE WHAT IT READS IS OF BULK AT MOST 1048576: true; the input reads as it did. -/
def isaGetsUptoRow : OpenClaim := { program := "ytdekkjnlmlkbdaadoor", sum := "066a3fa3bd3082d775ed1f6074e6feb8db7dd0d4aff67cd6907351f628eaddc0", func := "fretsaw/fretsawlaw21.IsaGets", spec := "isaGets", named := ["fretsaw/isa.forms", "fretsaw/isa.kinds"], apart := false, laid := [("fretsaw/isa.kinds", laid_fretsaw_isa_kinds), ("fretsaw/isa.forms", laid_fretsaw_isa_forms)], narrowed := true }
def IsaGetsUptoSaid : Prop := isaGetsUptoRow.holds Tryd.pinned (OpenSpec.upto isaGetsSpec)

/-- 'fretsawlaw21.IsaParses', WHERE WHAT IT READS IS OF BULK AT MOST 1048576: true; the input reads as it did. -/
def isaParsesUptoRow : OpenClaim := { program := "ytdekkjnlmlkbdaadoor", sum := "066a3fa3bd3082d775ed1f6074e6feb8db7dd0d4aff67cd6907351f628eaddc0", func := "fretsaw/fretsawlaw21.IsaParses", spec := "isaParses", named := ["fretsaw/isa.forms", "fretsaw/isa.kinds"], apart := false, laid := [("fretsaw/isa.kinds", laid_fretsaw_isa_kinds), ("fretsaw/isa.forms", laid_fretsaw_isa_forms)], narrowed := true }
def IsaParsesUptoSaid : Prop := isaParsesUptoRow.holds Tryd.pinned (OpenSpec.upto isaParsesSpec)

/-- 'fretsawlaw21.IsaBack', WHERE WHAT IT READS IS OF BULK AT MOST 1048576: true; the input reads as it did. -/
def isaBackUptoRow : OpenClaim := { program := "ytdekkjnlmlkbdaadoor", sum := "066a3fa3bd3082d775ed1f6074e6feb8db7dd0d4aff67cd6907351f628eaddc0", func := "fretsaw/fretsawlaw21.IsaBack", spec := "isaBack", inPlace := ["internal/abi.NoEscape"], named := ["fretsaw/isa.forms", "fretsaw/isa.kinds", "internal/strconv.uint64pow10", "math/bits.deBruijn32tab", "math/bits.deBruijn64tab"], apart := false, laid := [("math/bits.deBruijn32tab", laid_math_bits_deBruijn32tab), ("math/bits.deBruijn64tab", laid_math_bits_deBruijn64tab), ("internal/strconv.uint64pow10", laid_internal_strconv_uint64pow10), ("fretsaw/isa.kinds", laid_fretsaw_isa_kinds), ("fretsaw/isa.forms", laid_fretsaw_isa_forms)], narrowed := true }
def IsaBackUptoSaid : Prop := isaBackUptoRow.holds Tryd.pinned (OpenSpec.upto isaBackSpec)

/-- 'fretsawlaw21.IsaOnce', WHERE WHAT IT READS IS OF BULK AT MOST 1048576: true; the input reads as it did. -/
def isaOnceUptoRow : OpenClaim := { program := "ytdekkjnlmlkbdaadoor", sum := "066a3fa3bd3082d775ed1f6074e6feb8db7dd0d4aff67cd6907351f628eaddc0", func := "fretsaw/fretsawlaw21.IsaOnce", spec := "isaOnce", inPlace := ["internal/abi.NoEscape"], named := ["fretsaw/isa.forms", "fretsaw/isa.kinds", "internal/strconv.uint64pow10", "math/bits.deBruijn32tab", "math/bits.deBruijn64tab"], apart := false, laid := [("math/bits.deBruijn32tab", laid_math_bits_deBruijn32tab), ("math/bits.deBruijn64tab", laid_math_bits_deBruijn64tab), ("internal/strconv.uint64pow10", laid_internal_strconv_uint64pow10), ("fretsaw/isa.kinds", laid_fretsaw_isa_kinds), ("fretsaw/isa.forms", laid_fretsaw_isa_forms)], narrowed := true }
def IsaOnceUptoSaid : Prop := isaOnceUptoRow.holds Tryd.pinned (OpenSpec.upto isaOnceSpec)

end Rows
end Go.Proofs.YtdekkjnlmlkbdaaDoor
