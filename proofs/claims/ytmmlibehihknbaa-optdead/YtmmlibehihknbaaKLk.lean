/-
  The numbers under which this program holds the functions and types of sync.Mutex, and that it holds them.
-/
import Derived.Test.YtmmlibehihknbaaRows
import Derived.Conc.MuLone
import Derived.KernelRfl
namespace Go.Proofs.Ytmmlibehihknbaa.hp
abbrev muLink : Go.Conc.Locks.MuLink := { lock := 96, unlock := 97, ilock := 104, iunlock := 105, lockSlow := 112, unlockSlow := 115, disable := 108, enable := 110, acquire := 111, relMerge := 113, cas32 := 109, add32 := 114, tMutex := 147, tIMutex := 145, tPMutex := 169, tPIMutex := 173, tPI32 := 175, tUP := 177, tNoCopy := 143, tU32 := 105 }
theorem muLib : Go.Conc.Locks.MuLib Try.prog muLink :=
  ⟨Try.func96, Try.func97, Try.func104, Try.func105, Try.func108, Try.func110, Try.func111, Try.func113, Try.func109, Try.func114, Try.underlying145, Try.runUnderlying145, Try.sizeOf145, Try.isAgg145, Try.zeroValue145, Try.underlying147, Try.runUnderlying147, Try.sizeOf147, Try.isAgg147, Try.zeroValue147, Try.underlying169, Try.runUnderlying169, Try.sizeOf169, Try.isAgg169, Try.zeroValue169, Try.underlying173, Try.runUnderlying173, Try.sizeOf173, Try.isAgg173, Try.zeroValue173, Try.underlying175, Try.runUnderlying175, Try.sizeOf175, Try.isAgg175, Try.zeroValue175, Try.underlying177, Try.runUnderlying177, Try.sizeOf177, Try.isAgg177, Try.zeroValue177, Try.underlying143, Try.runUnderlying143, Try.sizeOf143, Try.isAgg143, Try.zeroValue143, Try.underlying21, Try.runUnderlying21, Try.sizeOf21, Try.isAgg21, Try.zeroValue21, (by kernel_rfl)⟩
end Go.Proofs.Ytmmlibehihknbaa.hp
