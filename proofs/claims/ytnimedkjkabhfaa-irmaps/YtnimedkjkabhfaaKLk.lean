/-
  The numbers under which this program holds the functions and types of sync.Mutex, and that it holds them.
-/
import Derived.Test.YtnimedkjkabhfaaRows
import Derived.Conc.MuLone
import Derived.KernelRfl
namespace Go.Proofs.Ytnimedkjkabhfaa.hp
abbrev muLink : Go.Conc.Locks.MuLink := { lock := 82, unlock := 83, ilock := 90, iunlock := 91, lockSlow := 98, unlockSlow := 101, disable := 94, enable := 96, acquire := 97, relMerge := 99, cas32 := 95, add32 := 100, tMutex := 131, tIMutex := 129, tPMutex := 154, tPIMutex := 158, tPI32 := 160, tUP := 162, tNoCopy := 127, tU32 := 88 }
theorem muLib : Go.Conc.Locks.MuLib Try.prog muLink :=
  ⟨Try.func82, Try.func83, Try.func90, Try.func91, Try.func94, Try.func96, Try.func97, Try.func99, Try.func95, Try.func100, Try.underlying129, Try.runUnderlying129, Try.sizeOf129, Try.isAgg129, Try.zeroValue129, Try.underlying131, Try.runUnderlying131, Try.sizeOf131, Try.isAgg131, Try.zeroValue131, Try.underlying154, Try.runUnderlying154, Try.sizeOf154, Try.isAgg154, Try.zeroValue154, Try.underlying158, Try.runUnderlying158, Try.sizeOf158, Try.isAgg158, Try.zeroValue158, Try.underlying160, Try.runUnderlying160, Try.sizeOf160, Try.isAgg160, Try.zeroValue160, Try.underlying162, Try.runUnderlying162, Try.sizeOf162, Try.isAgg162, Try.zeroValue162, Try.underlying127, Try.runUnderlying127, Try.sizeOf127, Try.isAgg127, Try.zeroValue127, Try.underlying21, Try.runUnderlying21, Try.sizeOf21, Try.isAgg21, Try.zeroValue21, (by kernel_rfl)⟩
end Go.Proofs.Ytnimedkjkabhfaa.hp
