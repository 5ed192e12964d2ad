/-
  NARROWER THAN 'FOR EVERY INPUT', by the rows' own cells (each row's printed sentence says how): TokTells: loops · TokLoses: loops · TokPasses: loops · TokFrames: loops.
  DERIVED. THE GIVEN ROWS OF THIS SEAT. 4 by the template 'for every input the law returns true; each argument reads behind the call as it read before'; 0 by the template 'total and deterministic' (their statements: YthmecbonjkcnmaaGreatTotals.lean).
  GIVEN WITH THE SEED: the statements are not yours to turn. If you find one false, say at which input.
  Laid BY PROGRAM, IN A SANDBOX (cutbox-rows.mjs): the forced cells as the released guide's own fill.sh prints them over the translation d6a9cd781af8c903… (all of the seat's roots in one cut). By AI agents, Wed Nov 11 2026. No macro, syntax, notation, axiom, sorry.
-/
import Derived.Test.YthmecbonjkcnmaaGreatChecked
import GoSem.Claim
import GoSem.ClaimJoined
import GoSem.ClaimMapViews
import Derived.JoinedTies
import Derived.KernelRfl
namespace Go.Proofs.YthmecbonjkcnmaaGreat
/- THE CELL 'sum', in the pinned program and in every row, IS THE sha256 OF THE DUMP (.gsa) THAT YthmecbonjkcnmaaGreatProg.lean LOADS. Nothing in Lean hashes anything: it is a label: what it is worth is what the hold of that sum in a sandbox is worth. -/
noncomputable def Tryz.pinned : Pinned := { name := "ythmecbonjkcnmaagreat", sum := "d6a9cd781af8c90393f6e86fae4512536895213aec1c74d1ab648314b767728a", checked := Tryz.checked }
namespace Rows
def none {H : Type} : Left H := { results := [], args := [] }

/-- 'fretsawlaw18.TokTells': WHATEVER THE INPUT: true; the input reads as it did. -/
def tokTellsSpec : ChangeSpec := { name := "tokTells", fn := fun _ => fun
  | [d1, d2] => { results := [.lit (.bool true)], args := [d1, d2] }
  | _ => none }
def tokTellsRow : OpenClaim := { program := "ythmecbonjkcnmaagreat", sum := "d6a9cd781af8c90393f6e86fae4512536895213aec1c74d1ab648314b767728a", func := "fretsaw/fretsawlaw18.TokTells", spec := "tokTells", inPlace := ["internal/abi.NoEscape", "(*internal/sync.Mutex).Lock", "internal/race.Disable", "sync/atomic.CompareAndSwapInt32", "internal/race.Enable", "internal/race.Acquire", "(*internal/sync.Mutex).lockSlow", "internal/sync.runtime_canSpin", "internal/sync.runtime_doSpin", "internal/sync.throw", "internal/sync.runtime_nanotime", "internal/sync.runtime_SemacquireMutex", "sync/atomic.AddInt32", "(*internal/sync.Mutex).Unlock", "internal/race.ReleaseMerge", "(*internal/sync.Mutex).unlockSlow", "internal/sync.fatal", "internal/sync.runtime_Semrelease"], unfollowed := true, recurses := true, loops := true, plainKeys := false, apart := false }
def TokTellsSaid : Prop := tokTellsRow.holds Tryz.pinned (OpenSpec.ofChange tokTellsSpec)

/-- ITS FALSE NEIGHBOUR: 'it returns false'. Refute it at one input. -/
def tokTellsWrong : ChangeSpec := { name := "tokTells", fn := fun _ => fun
  | [d1, d2] => { results := [.lit (.bool false)], args := [d1, d2] }
  | _ => none }
def TokTellsWrongFalsely : Prop := tokTellsRow.holds Tryz.pinned (OpenSpec.ofChange tokTellsWrong)

/-- 'fretsawlaw18.TokLoses': WHATEVER THE INPUT: true; the input reads as it did. -/
def tokLosesSpec : ChangeSpec := { name := "tokLoses", fn := fun _ => fun
  | [d1, d2] => { results := [.lit (.bool true)], args := [d1, d2] }
  | _ => none }
def tokLosesRow : OpenClaim := { program := "ythmecbonjkcnmaagreat", sum := "d6a9cd781af8c90393f6e86fae4512536895213aec1c74d1ab648314b767728a", func := "fretsaw/fretsawlaw18.TokLoses", spec := "tokLoses", inPlace := ["internal/abi.NoEscape", "(*internal/sync.Mutex).Lock", "internal/race.Disable", "sync/atomic.CompareAndSwapInt32", "internal/race.Enable", "internal/race.Acquire", "(*internal/sync.Mutex).lockSlow", "internal/sync.runtime_canSpin", "internal/sync.runtime_doSpin", "internal/sync.throw", "internal/sync.runtime_nanotime", "internal/sync.runtime_SemacquireMutex", "sync/atomic.AddInt32", "(*internal/sync.Mutex).Unlock", "internal/race.ReleaseMerge", "(*internal/sync.Mutex).unlockSlow", "internal/sync.fatal", "internal/sync.runtime_Semrelease"], unfollowed := true, recurses := true, loops := true, plainKeys := false, apart := false }
def TokLosesSaid : Prop := tokLosesRow.holds Tryz.pinned (OpenSpec.ofChange tokLosesSpec)

/-- ITS FALSE NEIGHBOUR: 'it returns false'. Refute it at one input. -/
def tokLosesWrong : ChangeSpec := { name := "tokLoses", fn := fun _ => fun
  | [d1, d2] => { results := [.lit (.bool false)], args := [d1, d2] }
  | _ => none }
def TokLosesWrongFalsely : Prop := tokLosesRow.holds Tryz.pinned (OpenSpec.ofChange tokLosesWrong)

/-- 'fretsawlaw18.TokPasses': WHATEVER THE INPUT: true; the input reads as it did. -/
def tokPassesSpec : ChangeSpec := { name := "tokPasses", fn := fun _ => fun
  | [d1, d2] => { results := [.lit (.bool true)], args := [d1, d2] }
  | _ => none }
def tokPassesRow : OpenClaim := { program := "ythmecbonjkcnmaagreat", sum := "d6a9cd781af8c90393f6e86fae4512536895213aec1c74d1ab648314b767728a", func := "fretsaw/fretsawlaw18.TokPasses", spec := "tokPasses", inPlace := ["internal/abi.NoEscape", "(*internal/sync.Mutex).Lock", "internal/race.Disable", "sync/atomic.CompareAndSwapInt32", "internal/race.Enable", "internal/race.Acquire", "(*internal/sync.Mutex).lockSlow", "internal/sync.runtime_canSpin", "internal/sync.runtime_doSpin", "internal/sync.throw", "internal/sync.runtime_nanotime", "internal/sync.runtime_SemacquireMutex", "sync/atomic.AddInt32", "(*internal/sync.Mutex).Unlock", "internal/race.ReleaseMerge", "(*internal/sync.Mutex).unlockSlow", "internal/sync.fatal", "internal/sync.runtime_Semrelease"], unfollowed := true, recurses := true, loops := true, plainKeys := false, apart := false }
def TokPassesSaid : Prop := tokPassesRow.holds Tryz.pinned (OpenSpec.ofChange tokPassesSpec)

/-- ITS FALSE NEIGHBOUR: 'it returns false'. Refute it at one input. -/
def tokPassesWrong : ChangeSpec := { name := "tokPasses", fn := fun _ => fun
  | [d1, d2] => { results := [.lit (.bool false)], args := [d1, d2] }
  | _ => none }
def TokPassesWrongFalsely : Prop := tokPassesRow.holds Tryz.pinned (OpenSpec.ofChange tokPassesWrong)

/-- 'fretsawlaw18.TokFrames': WHATEVER THE INPUT: true; the input reads as it did. -/
def tokFramesSpec : ChangeSpec := { name := "tokFrames", fn := fun _ => fun
  | [d1, d2] => { results := [.lit (.bool true)], args := [d1, d2] }
  | _ => none }
def tokFramesRow : OpenClaim := { program := "ythmecbonjkcnmaagreat", sum := "d6a9cd781af8c90393f6e86fae4512536895213aec1c74d1ab648314b767728a", func := "fretsaw/fretsawlaw18.TokFrames", spec := "tokFrames", inPlace := ["internal/abi.NoEscape", "(*internal/sync.Mutex).Lock", "internal/race.Disable", "sync/atomic.CompareAndSwapInt32", "internal/race.Enable", "internal/race.Acquire", "(*internal/sync.Mutex).lockSlow", "internal/sync.runtime_canSpin", "internal/sync.runtime_doSpin", "internal/sync.throw", "internal/sync.runtime_nanotime", "internal/sync.runtime_SemacquireMutex", "sync/atomic.AddInt32", "(*internal/sync.Mutex).Unlock", "internal/race.ReleaseMerge", "(*internal/sync.Mutex).unlockSlow", "internal/sync.fatal", "internal/sync.runtime_Semrelease"], unfollowed := true, recurses := true, loops := true, plainKeys := false, apart := false }
def TokFramesSaid : Prop := tokFramesRow.holds Tryz.pinned (OpenSpec.ofChange tokFramesSpec)

/-- ITS FALSE NEIGHBOUR: 'it returns false'. Refute it at one input. -/
def tokFramesWrong : ChangeSpec := { name := "tokFrames", fn := fun _ => fun
  | [d1, d2] => { results := [.lit (.bool false)], args := [d1, d2] }
  | _ => none }
def TokFramesWrongFalsely : Prop := tokFramesRow.holds Tryz.pinned (OpenSpec.ofChange tokFramesWrong)

/- THE SECOND FORM. 'bulk': how many values and letters a reading holds, each counted each time it is reached (what is shared counts as often as it is met; a slice's spare places count too). A statement '..UptoSaid' is the law's where the arguments, and the package variables that the reading takes, are together of bulk at most 1048576: NARROWER than '..Said'. Prove '..Said' where nothing that the law and all that it calls make is longer than what came in: it says more and counts as full. Else prove '..UptoSaid'. A law counts once. -/
mutual
def uptoBulk {H : Type} : DataW H → Nat
  | .lit (.string bytes) => bytes.length + 1
  | .lit _ => 1
  | .nil => 1
  | .ptr d => uptoBulk d + 1
  | .slice elems spare => uptoBulkAll elems + uptoBulkAll spare + 1
  | .agg parts => uptoBulkAll parts + 1
  | .iface _ d => uptoBulk d + 1
  | .map entries => uptoBulkEntries entries + 1
  | .held _ => 1
def uptoBulkAll {H : Type} : List (DataW H) → Nat
  | [] => 0
  | d :: r => uptoBulk d + uptoBulkAll r
def uptoBulkEntries {H : Type} : List (Lit × DataW H) → Nat
  | [] => 0
  | x :: r => uptoBulkEntry x + uptoBulkEntries r
def uptoBulkEntry {H : Type} : Lit × DataW H → Nat
  | (.string bytes, d) => bytes.length + uptoBulk d + 1
  | (_, d) => uptoBulk d + 1
 end
def uptoSmall : (H : Type) → List (DataW H) → Bool := fun _ ds => decide (uptoBulkAll ds ≤ 1048576)
def OpenSpec.upto (s : _root_.Go.ChangeSpec) : _root_.Go.OpenSpec := { _root_.Go.OpenSpec.ofChange s with cond := some uptoSmall }

/-- 'fretsawlaw18.TokTells', WHERE WHAT IT READS IS OF BULK AT MOST 1048576: true; the input reads as it did. -/
def tokTellsUptoRow : OpenClaim := { program := "ythmecbonjkcnmaagreat", sum := "d6a9cd781af8c90393f6e86fae4512536895213aec1c74d1ab648314b767728a", func := "fretsaw/fretsawlaw18.TokTells", spec := "tokTells", inPlace := ["internal/abi.NoEscape", "(*internal/sync.Mutex).Lock", "internal/race.Disable", "sync/atomic.CompareAndSwapInt32", "internal/race.Enable", "internal/race.Acquire", "(*internal/sync.Mutex).lockSlow", "internal/sync.runtime_canSpin", "internal/sync.runtime_doSpin", "internal/sync.throw", "internal/sync.runtime_nanotime", "internal/sync.runtime_SemacquireMutex", "sync/atomic.AddInt32", "(*internal/sync.Mutex).Unlock", "internal/race.ReleaseMerge", "(*internal/sync.Mutex).unlockSlow", "internal/sync.fatal", "internal/sync.runtime_Semrelease"], unfollowed := true, recurses := true, loops := true, plainKeys := false, apart := false, narrowed := true }
def TokTellsUptoSaid : Prop := tokTellsUptoRow.holds Tryz.pinned (OpenSpec.upto tokTellsSpec)

/-- 'fretsawlaw18.TokLoses', WHERE WHAT IT READS IS OF BULK AT MOST 1048576: true; the input reads as it did. -/
def tokLosesUptoRow : OpenClaim := { program := "ythmecbonjkcnmaagreat", sum := "d6a9cd781af8c90393f6e86fae4512536895213aec1c74d1ab648314b767728a", func := "fretsaw/fretsawlaw18.TokLoses", spec := "tokLoses", inPlace := ["internal/abi.NoEscape", "(*internal/sync.Mutex).Lock", "internal/race.Disable", "sync/atomic.CompareAndSwapInt32", "internal/race.Enable", "internal/race.Acquire", "(*internal/sync.Mutex).lockSlow", "internal/sync.runtime_canSpin", "internal/sync.runtime_doSpin", "internal/sync.throw", "internal/sync.runtime_nanotime", "internal/sync.runtime_SemacquireMutex", "sync/atomic.AddInt32", "(*internal/sync.Mutex).Unlock", "internal/race.ReleaseMerge", "(*internal/sync.Mutex).unlockSlow", "internal/sync.fatal", "internal/sync.runtime_Semrelease"], unfollowed := true, recurses := true, loops := true, plainKeys := false, apart := false, narrowed := true }
def TokLosesUptoSaid : Prop := tokLosesUptoRow.holds Tryz.pinned (OpenSpec.upto tokLosesSpec)

/-- 'fretsawlaw18.TokPasses', WHERE WHAT IT READS IS OF BULK AT MOST 1048576: true; the input reads as it did. -/
def tokPassesUptoRow : OpenClaim := { program := "ythmecbonjkcnmaagreat", sum := "d6a9cd781af8c90393f6e86fae4512536895213aec1c74d1ab648314b767728a", func := "fretsaw/fretsawlaw18.TokPasses", spec := "tokPasses", inPlace := ["internal/abi.NoEscape", "(*internal/sync.Mutex).Lock", "internal/race.Disable", "sync/atomic.CompareAndSwapInt32", "internal/race.Enable", "internal/race.Acquire", "(*internal/sync.Mutex).lockSlow", "internal/sync.runtime_canSpin", "internal/sync.runtime_doSpin", "internal/sync.throw", "internal/sync.runtime_nanotime", "internal/sync.runtime_SemacquireMutex", "sync/atomic.AddInt32", "(*internal/sync.Mutex).Unlock", "internal/race.ReleaseMerge", "(*internal/sync.Mutex).unlockSlow", "internal/sync.fatal", "internal/sync.runtime_Semrelease"], unfollowed := true, recurses := true, loops := true, plainKeys := false, apart := false, narrowed := true }
def TokPassesUptoSaid : Prop := tokPassesUptoRow.holds Tryz.pinned (OpenSpec.upto tokPassesSpec)

/-- 'fretsawlaw18.TokFrames', WHERE WHAT IT READS IS OF BULK AT MOST 1048576: true; the input reads as it did. -/
def tokFramesUptoRow : OpenClaim := { program := "ythmecbonjkcnmaagreat", sum := "d6a9cd781af8c90393f6e86fae4512536895213aec1c74d1ab648314b767728a", func := "fretsaw/fretsawlaw18.TokFrames", spec := "tokFrames", inPlace := ["internal/abi.NoEscape", "(*internal/sync.Mutex).Lock", "internal/race.Disable", "sync/atomic.CompareAndSwapInt32", "internal/race.Enable", "internal/race.Acquire", "(*internal/sync.Mutex).lockSlow", "internal/sync.runtime_canSpin", "internal/sync.runtime_doSpin", "internal/sync.throw", "internal/sync.runtime_nanotime", "internal/sync.runtime_SemacquireMutex", "sync/atomic.AddInt32", "(*internal/sync.Mutex).Unlock", "internal/race.ReleaseMerge", "(*internal/sync.Mutex).unlockSlow", "internal/sync.fatal", "internal/sync.runtime_Semrelease"], unfollowed := true, recurses := true, loops := true, plainKeys := false, apart := false, narrowed := true }
def TokFramesUptoSaid : Prop := tokFramesUptoRow.holds Tryz.pinned (OpenSpec.upto tokFramesSpec)

end Rows
end Go.Proofs.YthmecbonjkcnmaaGreat
