/-
  Contracts over this program: dfa.taken, slices.AppendSeq and slices.Collect over it, dfa.Ends, dfa.Longest.
-/
import Derived.Test.YtpagemlneolecaaDh
import Derived.RangeFuncNested
import Derived.RangeFuncBound
import Derived.RangeFuncCalls
import Derived.RangeFuncLeaves
import Derived.RangeFuncBox
import Derived.Shelf.Abstract
import Derived.Shelf.RegionOpen
import Derived.OwnWalkIn
import Derived.TacticsInMore
import Derived.LoopNIn
import Derived.LoopIn
import Derived.Sort.QuietIn
import Derived.Maps.AppendAt
import Derived.Laws.OwnMore
namespace Go.Proofs.Ytpagemlneolecaa.df
open Go.RowKit Go.Shelf
set_option linter.unusedVariables false
attribute [local go_sem] Oper.semAt_some

def endsOf (d : Dfa) (s : ByteArray) (at' : Int) : List Int := if right d = true ∧ 0 ≤ at' ∧ at' ≤ (s.size : Int) then ends d s (s.size - at'.toNat) 0 at'.toNat else []
theorem endsOf_len (d : Dfa) (s : ByteArray) (at' : Int) : (endsOf d s at').length ≤ s.size + 1 := by
  unfold endsOf
  split
  · exact Nat.le_trans (ends_len _ _ _ _ _) (by omega)
  · simp

/-- a slice of ints, as a value -/
def IntsV (w : World) (v : Value) (l : List Int) : Prop := ∃ o cap, v = .slice o l.length cap ∧ Row (In w) w iv o cap l
theorem IntsV.later {w w' : World} {v : Value} {l : List Int} (h : IntsV w v l) (b : Below w.heap.size w w') : IntsV w' v l := by
  obtain ⟨o, cap, e, hr⟩ := h
  exact ⟨o, cap, e, hr.carry (fun k hk => b.block k hk) (fun k hk => Nat.lt_of_lt_of_le hk b.size)⟩
theorem ints_of_owns {w : World} {base : Nat} {v : Value} {l : List Int} (h : w.ownsRow base 3 1 v l.length (l.map (Value.int .i64))) : IntsV w v l := by
  have h0 := h
  rcases h.2 with ⟨rfl, hl⟩ | ⟨g, cap, cur, rfl, hb, hg, hn, hc, hs, ht⟩
  · have : l = [] := List.length_eq_zero_iff.1 hl
    subst this
    exact ⟨none, 0, rfl, Nat.le_refl _, by omega, fun i hi => by simp at hi⟩
  · unfold maxLen at hc
    refine ⟨some ⟨g, 0, none⟩, cap, rfl, hn, hc, fun i hi => ⟨g, 0, rfl, (Array.getElem?_eq_some_iff.1 hg).1, ?_⟩⟩
    have := World.ownsRow.cellAt h0 i (by omega)
    rw [Nat.zero_add, this, List.getElem?_map, List.getElem?_eq_getElem hi]
    rfl

theorem info3 : (Try.prog.info? 3).map (fun i => (i.zero, i.size, i.bytes)) = some (some (.int .i64 0), 1, 8) := by kernel_rfl

def EdIs (f : Nat) (d : Dfa) (s : ByteArray) (at' : Int) : Prop := ∀ cs o cap ao acap w, DAt (In w) w d cs o cap ao acap → Calls Try.prog f #[.agg cs, .string s, .int .i64 at'] w fun e w' => ∃ v, e = .returned v ∧ IntsV w' v (endsOf d s at') ∧ Below w.heap.size w w'
theorem taken_mem (Q : Nat → Prop) {d : Dfa} {cs : Array Value} {o ao : Option Addr} {cap acap : Nat} {w1 : World} (s : ByteArray) (at' : Int) (D1 : DAt (fun b => In w1 b ∧ Q b) w1 d cs o cap ao acap) :
    Mem (fun b => (b < w1.heap.size ∧ Q b) ∨ (w1.heap.size ≤ b ∧ b < w1.heap.size + 1 + 1 + 1)) (((w1.alloc (.cells cs 26)).alloc (.cells #[.string s] 9)).alloc (.cells #[.int .i64 at'] 3)) d cs s w1.heap.size (w1.heap.size + 1) o cap ao acap ∧
    Boxed (((w1.alloc (.cells cs 26)).alloc (.cells #[.string s] 9)).alloc (.cells #[.int .i64 at'] 3)) (w1.heap.size + 1 + 1) 3 (.int .i64 at') ∧
    Below w1.heap.size w1 (((w1.alloc (.cells cs 26)).alloc (.cells #[.string s] 9)).alloc (.cells #[.int .i64 at'] 3)) := by
  have X1 := dbox_new w1 cs
  have Y1 := Boxed.new (w1.alloc (.cells cs 26)) 9 (.string s)
  have Z1 := Boxed.new ((w1.alloc (.cells cs 26)).alloc (.cells #[.string s] 9)) 3 (.int .i64 at')
  have HB3 : Below w1.heap.size w1 (((w1.alloc (.cells cs 26)).alloc (.cells #[.string s] 9)).alloc (.cells #[.int .i64 at'] 3)) := (((Below.refl _ w1).alloc (Nat.le_refl _) _).alloc (by simp) _).alloc (by simp; omega) _
  simp only [World.size_alloc] at Y1 Z1
  refine ⟨⟨D1.carry (fun b hb => HB3.block b hb.1) (fun b hb => .inl hb), (Below.heap_alloc _ _ _ (by simp; omega)).trans ((Below.heap_alloc _ _ _ (by simp)).trans X1), (Below.heap_alloc _ _ _ (by simp)).trans Y1, .inr (by omega), .inr (by omega), fun b hb => ?_⟩, Z1, HB3⟩
  simp only [World.size_alloc]
  rcases hb with h | h <;> omega
theorem last_snoc (pre : List Int) (x : Int) : (pre ++ [x]).getLast?.getD (-1) = x := by simp
def LgIs (f : Nat) (d : Dfa) (s : ByteArray) (at' : Int) (r : Int) : Prop := ∀ cs o cap ao acap w, DAt (In w) w d cs o cap ao acap → Calls Try.prog f #[.agg cs, .string s, .int .i64 at'] w fun e w' => e = .returned (.int .i64 r) ∧ Below w.heap.size w w'
end Go.Proofs.Ytpagemlneolecaa.df
