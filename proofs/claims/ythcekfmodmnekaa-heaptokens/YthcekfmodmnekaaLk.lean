/-
  The numbers under which this program holds the functions and types of sync.Mutex, and that it holds them.
-/
import Derived.Test.YthcekfmodmnekaaRows
import Derived.Conc.MuLone
import Derived.KernelRfl
namespace Go.Proofs.Ythcekfmodmnekaa.hp
abbrev muLink : Go.Conc.Locks.MuLink := { lock := 36, unlock := 37, ilock := 47, iunlock := 48, lockSlow := 60, unlockSlow := 63, disable := 56, enable := 58, acquire := 59, relMerge := 61, cas32 := 57, add32 := 62, tMutex := 57, tIMutex := 55, tPMutex := 96, tPIMutex := 106, tPI32 := 108, tUP := 110, tNoCopy := 52, tU32 := 53 }
theorem muLib : Go.Conc.Locks.MuLib Try.prog muLink :=
  ⟨Try.func36, Try.func37, Try.func47, Try.func48, Try.func56, Try.func58, Try.func59, Try.func61, Try.func57, Try.func62, Try.underlying55, Try.runUnderlying55, Try.sizeOf55, Try.isAgg55, Try.zeroValue55, Try.underlying57, Try.runUnderlying57, Try.sizeOf57, Try.isAgg57, Try.zeroValue57, Try.underlying96, Try.runUnderlying96, Try.sizeOf96, Try.isAgg96, Try.zeroValue96, Try.underlying106, Try.runUnderlying106, Try.sizeOf106, Try.isAgg106, Try.zeroValue106, Try.underlying108, Try.runUnderlying108, Try.sizeOf108, Try.isAgg108, Try.zeroValue108, Try.underlying110, Try.runUnderlying110, Try.sizeOf110, Try.isAgg110, Try.zeroValue110, Try.underlying52, Try.runUnderlying52, Try.sizeOf52, Try.isAgg52, Try.zeroValue52, Try.underlying21, Try.runUnderlying21, Try.sizeOf21, Try.isAgg21, Try.zeroValue21, (by kernel_rfl)⟩
end Go.Proofs.Ythcekfmodmnekaa.hp
