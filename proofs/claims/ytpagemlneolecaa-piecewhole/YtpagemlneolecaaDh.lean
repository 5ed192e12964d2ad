/-
  Over this program: the iterator that hands on the places of Ends goes on (dfa.taken's closure).
-/
import Derived.Test.YtpagemlneolecaaDg
import Derived.Test.YtpagemlneolecaaDf
import Derived.RangeFuncNested
import Derived.RangeFuncBound
import Derived.RangeFuncCalls
import Derived.RangeFuncLeaves
import Derived.RangeFuncBox
import Derived.Shelf.Abstract
import Derived.Shelf.RegionOpen
import Derived.OwnWalkIn
import Derived.TacticsInMore
import Derived.LoopNIn
import Derived.LoopIn
import Derived.Sort.QuietIn
namespace Go.Proofs.Ytpagemlneolecaa.df
open Go.RowKit Go.Shelf
set_option linter.unusedVariables false
attribute [local go_sem] Oper.semAt_some

theorem ends_end (d : Dfa) (s : ByteArray) (q t : Nat) (h : t = s.size) : ends d s (s.size - t) (q : Int) t = here d q t := by
  rw [h, Nat.sub_self, ends_zero]
theorem ends_more (d : Dfa) (s : ByteArray) (q t : Nat) (h : t < s.size) : ends d s (s.size - t) (q : Int) t = here d q t ++ ends d s (s.size - (t + 1)) (nxt d q (d.cls s[t].toNat)) (t + 1) := by
  have e : s.size - t = (s.size - (t + 1)) + 1 := by omega
  rw [e, ends_succ, byte_eq s t h]
theorem here_yes (d : Dfa) (q t : Nat) (h : acpt d q = true) : here d q t = [(t : Int)] := by unfold here; rw [h]; rfl
theorem here_no (d : Dfa) (q t : Nat) (h : acpt d q = false) : here d q t = [] := by unfold here; rw [h]; rfl
end Go.Proofs.Ytpagemlneolecaa.df
