/-
  No cell of these rows narrows 'for every input' (looked for: loops, veiled, ifaces, maps, wideKeys, modest, calm, conditions, laid).
  DERIVED. THE GIVEN ROWS OF THIS SEAT. 5 by the template 'for every input the law returns true; each argument reads behind the call as it read before'; 0 by the template 'total and deterministic' (their statements: YtfpkjgalokbkcaaTotals.lean).
  GIVEN WITH THE SEED: the statements are not yours to turn. If you find one false, say at which input.
  Laid BY PROGRAM, IN A SANDBOX (cutbox-rows.mjs): the forced cells as the released guide's own fill.sh prints them over the translation 1c52ff2ca37d3162… (all of the seat's roots in one cut). By AI agents, Wed Nov 11 2026. No macro, syntax, notation, axiom, sorry.
-/
import Derived.Test.YtfpkjgalokbkcaaChecked
import GoSem.Claim
import GoSem.ClaimJoined
import GoSem.ClaimMapViews
import Derived.JoinedTies
import Derived.KernelRfl
namespace Go.Proofs.Ytfpkjgalokbkcaa
/- THE CELL 'sum', in the pinned program and in every row, IS THE sha256 OF THE DUMP (.gsa) THAT YtfpkjgalokbkcaaProg.lean LOADS. Nothing in Lean hashes anything: it is a label: what it is worth is what the hold of that sum in a sandbox is worth. -/
noncomputable def Try.pinned : Pinned := { name := "ytfpkjgalokbkcaa", sum := "1c52ff2ca37d31623255369581ca18a7b60ed719c6d1813bb2b9589903db77ba", checked := Try.checked }
namespace Rows
def none {H : Type} : Left H := { results := [], args := [] }

/-- 'fretsawlaw15.HashGets': WHATEVER THE INPUT: true; the input reads as it did. -/
def hashGetsSpec : ChangeSpec := { name := "hashGets", fn := fun _ => fun
  | [d1, d2, d3] => { results := [.lit (.bool true)], args := [d1, d2, d3] }
  | _ => none }
def hashGetsRow : OpenClaim := { program := "ytfpkjgalokbkcaa", sum := "1c52ff2ca37d31623255369581ca18a7b60ed719c6d1813bb2b9589903db77ba", func := "fretsaw/fretsawlaw15.HashGets", spec := "hashGets", apart := false }
def HashGetsSaid : Prop := hashGetsRow.holds Try.pinned (OpenSpec.ofChange hashGetsSpec)

/-- ITS FALSE NEIGHBOUR: 'it returns false'. Refute it at one input. -/
def hashGetsWrong : ChangeSpec := { name := "hashGets", fn := fun _ => fun
  | [d1, d2, d3] => { results := [.lit (.bool false)], args := [d1, d2, d3] }
  | _ => none }
def HashGetsWrongFalsely : Prop := hashGetsRow.holds Try.pinned (OpenSpec.ofChange hashGetsWrong)

/-- 'fretsawlaw15.HashBuilds': WHATEVER THE INPUT: true; the input reads as it did. -/
def hashBuildsSpec : ChangeSpec := { name := "hashBuilds", fn := fun _ => fun
  | [d1, d2, d3] => { results := [.lit (.bool true)], args := [d1, d2, d3] }
  | _ => none }
def hashBuildsRow : OpenClaim := { program := "ytfpkjgalokbkcaa", sum := "1c52ff2ca37d31623255369581ca18a7b60ed719c6d1813bb2b9589903db77ba", func := "fretsaw/fretsawlaw15.HashBuilds", spec := "hashBuilds", inPlace := ["(*sync.WaitGroup).Add", "internal/race.ReleaseMerge", "internal/race.Disable", "internal/race.Enable", "internal/synctest.IsInBubble", "internal/synctest.Associate[sync.WaitGroup]", "sync.fatal", "sync/atomic.OrUint64", "sync/atomic.AddUint64", "internal/race.Read", "sync/atomic.LoadUint64", "sync/atomic.StoreUint64", "internal/synctest.Disassociate[sync.WaitGroup]", "sync.runtime_Semrelease", "(*sync.WaitGroup).Done", "(*sync.WaitGroup).Wait", "internal/race.Acquire", "internal/synctest.IsAssociated[sync.WaitGroup]", "sync/atomic.CompareAndSwapUint64", "internal/race.Write", "sync.runtime_SemacquireWaitGroup"], unfollowed := true, recurses := true, leaving := true, apart := false }
def HashBuildsSaid : Prop := hashBuildsRow.holds Try.pinned (OpenSpec.ofChange hashBuildsSpec)

/-- ITS FALSE NEIGHBOUR: 'it returns false'. Refute it at one input. -/
def hashBuildsWrong : ChangeSpec := { name := "hashBuilds", fn := fun _ => fun
  | [d1, d2, d3] => { results := [.lit (.bool false)], args := [d1, d2, d3] }
  | _ => none }
def HashBuildsWrongFalsely : Prop := hashBuildsRow.holds Try.pinned (OpenSpec.ofChange hashBuildsWrong)

/-- 'fretsawlaw15.HashOrder': WHATEVER THE INPUT: true; the input reads as it did. -/
def hashOrderSpec : ChangeSpec := { name := "hashOrder", fn := fun _ => fun
  | [d1, d2, d3] => { results := [.lit (.bool true)], args := [d1, d2, d3] }
  | _ => none }
def hashOrderRow : OpenClaim := { program := "ytfpkjgalokbkcaa", sum := "1c52ff2ca37d31623255369581ca18a7b60ed719c6d1813bb2b9589903db77ba", func := "fretsaw/fretsawlaw15.HashOrder", spec := "hashOrder", inPlace := ["(*sync.WaitGroup).Add", "internal/race.ReleaseMerge", "internal/race.Disable", "internal/race.Enable", "internal/synctest.IsInBubble", "internal/synctest.Associate[sync.WaitGroup]", "sync.fatal", "sync/atomic.OrUint64", "sync/atomic.AddUint64", "internal/race.Read", "sync/atomic.LoadUint64", "sync/atomic.StoreUint64", "internal/synctest.Disassociate[sync.WaitGroup]", "sync.runtime_Semrelease", "(*sync.WaitGroup).Done", "(*sync.WaitGroup).Wait", "internal/race.Acquire", "internal/synctest.IsAssociated[sync.WaitGroup]", "sync/atomic.CompareAndSwapUint64", "internal/race.Write", "sync.runtime_SemacquireWaitGroup"], unfollowed := true, recurses := true, leaving := true, apart := false }
def HashOrderSaid : Prop := hashOrderRow.holds Try.pinned (OpenSpec.ofChange hashOrderSpec)

/-- ITS FALSE NEIGHBOUR: 'it returns false'. Refute it at one input. -/
def hashOrderWrong : ChangeSpec := { name := "hashOrder", fn := fun _ => fun
  | [d1, d2, d3] => { results := [.lit (.bool false)], args := [d1, d2, d3] }
  | _ => none }
def HashOrderWrongFalsely : Prop := hashOrderRow.holds Try.pinned (OpenSpec.ofChange hashOrderWrong)

/-- 'fretsawlaw15.HashSafe': WHATEVER THE INPUT: true; the input reads as it did. -/
def hashSafeSpec : ChangeSpec := { name := "hashSafe", fn := fun _ => fun
  | [d1, d2] => { results := [.lit (.bool true)], args := [d1, d2] }
  | _ => none }
def hashSafeRow : OpenClaim := { program := "ytfpkjgalokbkcaa", sum := "1c52ff2ca37d31623255369581ca18a7b60ed719c6d1813bb2b9589903db77ba", func := "fretsaw/fretsawlaw15.HashSafe", spec := "hashSafe", apart := false }
def HashSafeSaid : Prop := hashSafeRow.holds Try.pinned (OpenSpec.ofChange hashSafeSpec)

/-- ITS FALSE NEIGHBOUR: 'it returns false'. Refute it at one input. -/
def hashSafeWrong : ChangeSpec := { name := "hashSafe", fn := fun _ => fun
  | [d1, d2] => { results := [.lit (.bool false)], args := [d1, d2] }
  | _ => none }
def HashSafeWrongFalsely : Prop := hashSafeRow.holds Try.pinned (OpenSpec.ofChange hashSafeWrong)

/-- 'fretsawlaw15.HashHalves': WHATEVER THE INPUT: true; the input reads as it did. -/
def hashHalvesSpec : ChangeSpec := { name := "hashHalves", fn := fun _ => fun
  | [d1, d2] => { results := [.lit (.bool true)], args := [d1, d2] }
  | _ => none }
def hashHalvesRow : OpenClaim := { program := "ytfpkjgalokbkcaa", sum := "1c52ff2ca37d31623255369581ca18a7b60ed719c6d1813bb2b9589903db77ba", func := "fretsaw/fretsawlaw15.HashHalves", spec := "hashHalves", apart := false }
def HashHalvesSaid : Prop := hashHalvesRow.holds Try.pinned (OpenSpec.ofChange hashHalvesSpec)

/-- ITS FALSE NEIGHBOUR: 'it returns false'. Refute it at one input. -/
def hashHalvesWrong : ChangeSpec := { name := "hashHalves", fn := fun _ => fun
  | [d1, d2] => { results := [.lit (.bool false)], args := [d1, d2] }
  | _ => none }
def HashHalvesWrongFalsely : Prop := hashHalvesRow.holds Try.pinned (OpenSpec.ofChange hashHalvesWrong)

/- THE SECOND FORM. 'bulk': how many values and letters a reading holds, each counted each time it is reached (what is shared counts as often as it is met; a slice's spare places count too). A statement '..UptoSaid' is the law's where the arguments, and the package variables that the reading takes, are together of bulk at most 1048576: NARROWER than '..Said'. Prove '..Said' where nothing that the law and all that it calls make is longer than what came in: it says more and counts as full. Else prove '..UptoSaid'. A law counts once. -/
mutual
def uptoBulk {H : Type} : DataW H → Nat
  | .lit (.string bytes) => bytes.length + 1
  | .lit _ => 1
  | .nil => 1
  | .ptr d => uptoBulk d + 1
  | .slice elems spare => uptoBulkAll elems + uptoBulkAll spare + 1
  | .agg parts => uptoBulkAll parts + 1
  | .iface _ d => uptoBulk d + 1
  | .map entries => uptoBulkEntries entries + 1
  | .held _ => 1
def uptoBulkAll {H : Type} : List (DataW H) → Nat
  | [] => 0
  | d :: r => uptoBulk d + uptoBulkAll r
def uptoBulkEntries {H : Type} : List (Lit × DataW H) → Nat
  | [] => 0
  | x :: r => uptoBulkEntry x + uptoBulkEntries r
def uptoBulkEntry {H : Type} : Lit × DataW H → Nat
  | (.string bytes, d) => bytes.length + uptoBulk d + 1
  | (_, d) => uptoBulk d + 1
 end
def uptoSmall : (H : Type) → List (DataW H) → Bool := fun _ ds => decide (uptoBulkAll ds ≤ 1048576)
def OpenSpec.upto (s : _root_.Go.ChangeSpec) : _root_.Go.OpenSpec := { _root_.Go.OpenSpec.ofChange s with cond := some uptoSmall }

/-- 'fretsawlaw15.HashGets', WHERE WHAT IT READS IS OF BULK AT MOST 1048576: true; the input reads as it did. -/
def hashGetsUptoRow : OpenClaim := { program := "ytfpkjgalokbkcaa", sum := "1c52ff2ca37d31623255369581ca18a7b60ed719c6d1813bb2b9589903db77ba", func := "fretsaw/fretsawlaw15.HashGets", spec := "hashGets", apart := false, narrowed := true }
def HashGetsUptoSaid : Prop := hashGetsUptoRow.holds Try.pinned (OpenSpec.upto hashGetsSpec)

/-- 'fretsawlaw15.HashBuilds', WHERE WHAT IT READS IS OF BULK AT MOST 1048576: true; the input reads as it did. -/
def hashBuildsUptoRow : OpenClaim := { program := "ytfpkjgalokbkcaa", sum := "1c52ff2ca37d31623255369581ca18a7b60ed719c6d1813bb2b9589903db77ba", func := "fretsaw/fretsawlaw15.HashBuilds", spec := "hashBuilds", inPlace := ["(*sync.WaitGroup).Add", "internal/race.ReleaseMerge", "internal/race.Disable", "internal/race.Enable", "internal/synctest.IsInBubble", "internal/synctest.Associate[sync.WaitGroup]", "sync.fatal", "sync/atomic.OrUint64", "sync/atomic.AddUint64", "internal/race.Read", "sync/atomic.LoadUint64", "sync/atomic.StoreUint64", "internal/synctest.Disassociate[sync.WaitGroup]", "sync.runtime_Semrelease", "(*sync.WaitGroup).Done", "(*sync.WaitGroup).Wait", "internal/race.Acquire", "internal/synctest.IsAssociated[sync.WaitGroup]", "sync/atomic.CompareAndSwapUint64", "internal/race.Write", "sync.runtime_SemacquireWaitGroup"], unfollowed := true, recurses := true, leaving := true, apart := false, narrowed := true }
def HashBuildsUptoSaid : Prop := hashBuildsUptoRow.holds Try.pinned (OpenSpec.upto hashBuildsSpec)

/-- 'fretsawlaw15.HashOrder', WHERE WHAT IT READS IS OF BULK AT MOST 1048576: true; the input reads as it did. -/
def hashOrderUptoRow : OpenClaim := { program := "ytfpkjgalokbkcaa", sum := "1c52ff2ca37d31623255369581ca18a7b60ed719c6d1813bb2b9589903db77ba", func := "fretsaw/fretsawlaw15.HashOrder", spec := "hashOrder", inPlace := ["(*sync.WaitGroup).Add", "internal/race.ReleaseMerge", "internal/race.Disable", "internal/race.Enable", "internal/synctest.IsInBubble", "internal/synctest.Associate[sync.WaitGroup]", "sync.fatal", "sync/atomic.OrUint64", "sync/atomic.AddUint64", "internal/race.Read", "sync/atomic.LoadUint64", "sync/atomic.StoreUint64", "internal/synctest.Disassociate[sync.WaitGroup]", "sync.runtime_Semrelease", "(*sync.WaitGroup).Done", "(*sync.WaitGroup).Wait", "internal/race.Acquire", "internal/synctest.IsAssociated[sync.WaitGroup]", "sync/atomic.CompareAndSwapUint64", "internal/race.Write", "sync.runtime_SemacquireWaitGroup"], unfollowed := true, recurses := true, leaving := true, apart := false, narrowed := true }
def HashOrderUptoSaid : Prop := hashOrderUptoRow.holds Try.pinned (OpenSpec.upto hashOrderSpec)

/-- 'fretsawlaw15.HashSafe', WHERE WHAT IT READS IS OF BULK AT MOST 1048576: true; the input reads as it did. -/
def hashSafeUptoRow : OpenClaim := { program := "ytfpkjgalokbkcaa", sum := "1c52ff2ca37d31623255369581ca18a7b60ed719c6d1813bb2b9589903db77ba", func := "fretsaw/fretsawlaw15.HashSafe", spec := "hashSafe", apart := false, narrowed := true }
def HashSafeUptoSaid : Prop := hashSafeUptoRow.holds Try.pinned (OpenSpec.upto hashSafeSpec)

/-- 'fretsawlaw15.HashHalves', WHERE WHAT IT READS IS OF BULK AT MOST 1048576: true; the input reads as it did. -/
def hashHalvesUptoRow : OpenClaim := { program := "ytfpkjgalokbkcaa", sum := "1c52ff2ca37d31623255369581ca18a7b60ed719c6d1813bb2b9589903db77ba", func := "fretsaw/fretsawlaw15.HashHalves", spec := "hashHalves", apart := false, narrowed := true }
def HashHalvesUptoSaid : Prop := hashHalvesUptoRow.holds Try.pinned (OpenSpec.upto hashHalvesSpec)

end Rows
end Go.Proofs.Ytfpkjgalokbkcaa
