/-
  The numbers under which this program holds the functions and types of sync.Mutex, and that it holds them.
-/
import Derived.Test.YthmecbonjkcnmaaGreatRows
import Derived.Conc.MuLone
import Derived.KernelRfl
namespace Go.Proofs.YthmecbonjkcnmaaGreat.hp
abbrev muLink : Go.Conc.Locks.MuLink := { lock := 98, unlock := 99, ilock := 115, iunlock := 116, lockSlow := 136, unlockSlow := 139, disable := 132, enable := 134, acquire := 135, relMerge := 137, cas32 := 133, add32 := 138, tMutex := 123, tIMutex := 121, tPMutex := 180, tPIMutex := 194, tPI32 := 196, tUP := 147, tNoCopy := 118, tU32 := 119 }
theorem muLib : Go.Conc.Locks.MuLib Tryz.prog muLink :=
  ⟨Tryz.func98, Tryz.func99, Tryz.func115, Tryz.func116, Tryz.func132, Tryz.func134, Tryz.func135, Tryz.func137, Tryz.func133, Tryz.func138, Tryz.underlying121, Tryz.runUnderlying121, Tryz.sizeOf121, Tryz.isAgg121, Tryz.zeroValue121, Tryz.underlying123, Tryz.runUnderlying123, Tryz.sizeOf123, Tryz.isAgg123, Tryz.zeroValue123, Tryz.underlying180, Tryz.runUnderlying180, Tryz.sizeOf180, Tryz.isAgg180, Tryz.zeroValue180, Tryz.underlying194, Tryz.runUnderlying194, Tryz.sizeOf194, Tryz.isAgg194, Tryz.zeroValue194, Tryz.underlying196, Tryz.runUnderlying196, Tryz.sizeOf196, Tryz.isAgg196, Tryz.zeroValue196, Tryz.underlying147, Tryz.runUnderlying147, Tryz.sizeOf147, Tryz.isAgg147, Tryz.zeroValue147, Tryz.underlying118, Tryz.runUnderlying118, Tryz.sizeOf118, Tryz.isAgg118, Tryz.zeroValue118, Tryz.underlying21, Tryz.runUnderlying21, Tryz.sizeOf21, Tryz.isAgg21, Tryz.zeroValue21, (by kernel_rfl)⟩
end Go.Proofs.YthmecbonjkcnmaaGreat.hp
