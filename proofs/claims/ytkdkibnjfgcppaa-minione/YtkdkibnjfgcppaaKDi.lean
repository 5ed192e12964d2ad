/-
  Contracts over this program: dfa.taken, slices.AppendSeq and slices.Collect over it, dfa.Ends, dfa.Longest.
-/
import Derived.Test.YtkdkibnjfgcppaaKDh
import Derived.RangeFuncNested
import Derived.RangeFuncBound
import Derived.RangeFuncCalls
import Derived.RangeFuncLeaves
import Derived.RangeFuncBox
import Derived.Shelf.Abstract
import Derived.Shelf.RegionOpen
import Derived.OwnWalkIn
import Derived.TacticsInMore
import Derived.LoopNIn
import Derived.LoopIn
import Derived.Sort.QuietIn
import Derived.Maps.AppendAt
import Derived.Laws.OwnMore
namespace Go.Proofs.Ytkdkibnjfgcppaa.df
open Go.RowKit Go.Shelf
set_option linter.unusedVariables false
attribute [local go_sem] Oper.semAt_some

def endsOf (d : Dfa) (s : ByteArray) (at' : Int) : List Int := if right d = true ∧ 0 ≤ at' ∧ at' ≤ (s.size : Int) then ends d s (s.size - at'.toNat) 0 at'.toNat else []
theorem endsOf_len (d : Dfa) (s : ByteArray) (at' : Int) : (endsOf d s at').length ≤ s.size + 1 := by
  unfold endsOf
  split
  · exact Nat.le_trans (ends_len _ _ _ _ _) (by omega)
  · simp

/-- a slice of ints, as a value -/
def IntsV (w : World) (v : Value) (l : List Int) : Prop := ∃ o cap, v = .slice o l.length cap ∧ Row (In w) w iv o cap l
theorem IntsV.later {w w' : World} {v : Value} {l : List Int} (h : IntsV w v l) (b : Below w.heap.size w w') : IntsV w' v l := by
  obtain ⟨o, cap, e, hr⟩ := h
  exact ⟨o, cap, e, hr.carry (fun k hk => b.block k hk) (fun k hk => Nat.lt_of_lt_of_le hk b.size)⟩
theorem ints_of_owns {w : World} {base : Nat} {v : Value} {l : List Int} (h : w.ownsRow base 3 1 v l.length (l.map (Value.int .i64))) : IntsV w v l := by
  have h0 := h
  rcases h.2 with ⟨rfl, hl⟩ | ⟨g, cap, cur, rfl, hb, hg, hn, hc, hs, ht⟩
  · have : l = [] := List.length_eq_zero_iff.1 hl
    subst this
    exact ⟨none, 0, rfl, Nat.le_refl _, by omega, fun i hi => by simp at hi⟩
  · unfold maxLen at hc
    refine ⟨some ⟨g, 0, none⟩, cap, rfl, hn, hc, fun i hi => ⟨g, 0, rfl, (Array.getElem?_eq_some_iff.1 hg).1, ?_⟩⟩
    have := World.ownsRow.cellAt h0 i (by omega)
    rw [Nat.zero_add, this, List.getElem?_map, List.getElem?_eq_getElem hi]
    rfl

set_option maxHeartbeats 1000000 in
theorem taken_in (cs : Array Value) (s : ByteArray) (at' : Int) (w : World) :
    Calls Try.prog 28 #[.agg cs, .string s, .int .i64 at'] w fun e w' => e = .returned (.func (.func 44) #[] #[.pointer (some ⟨w.heap.size, 0, none⟩), .pointer (some ⟨w.heap.size + 1 + 1, 0, none⟩), .pointer (some ⟨w.heap.size + 1, 0, none⟩)]) ∧
      w' = ((w.alloc (.cells cs 26)).alloc (.cells #[.string s] 9)).alloc (.cells #[.int .i64 at'] 3) := by
  go_enter Try.func28, Try.ntmps28
  go_wp2
  go_ret
  exact ⟨rfl, rfl⟩

theorem taken_stops (P : Nat → Prop) (gd gs ga : Nat) (d : Dfa) (cs : Array Value) (s : ByteArray) (at' : Int) (o ao : Option Addr) (cap acap : Nat) (hs : s.size ≤ 1000000000000)
    (w : World) (hM : Mem P w d cs s gd gs o cap ao acap) (hA : Boxed w ga 3 (.int .i64 at')) :
    SeqStopsK Fence.wide 5 Try.prog 44 #[.pointer (some ⟨gd, 0, none⟩), .pointer (some ⟨ga, 0, none⟩), .pointer (some ⟨gs, 0, none⟩)] (fun x : Int => #[Value.int .i64 x]) (Kp P) (fun ys => ys = endsOf d s at') (fun pre => pre <+: endsOf d s at') (s.size + 1) w := fun l J Jx W hW hJ hJx hY h0 => by
  have hM2 := hM.carry (Kp.below hW hW.size hM.lt)
  have hA2 : Boxed W ga 3 (.int .i64 at') := (hW.block ga hA.lt).trans hA
  unfold endsOf
  by_cases h : right d = true ∧ 0 ≤ at' ∧ at' ≤ (s.size : Int)
  · obtain ⟨h1, h2, h3⟩ := h
    obtain ⟨t, rfl⟩ : ∃ t : Nat, at' = (t : Int) := ⟨at'.toNat, by omega⟩
    rw [if_pos ⟨h1, h2, h3⟩]
    exact taken1_yes P l gd gs ga d cs s t o ao cap acap J Jx h1 (by omega) hs hY W hM2 hA2 hJ h0
  · rw [if_neg h]
    refine taken1_no P l gd gs ga d cs s at' o ao cap acap J Jx ?_ hs W hM2 hA2 hJ h0
    cases hr : right d with
    | false => exact .inl rfl
    | true =>
      rw [hr] at h
      by_cases h2 : at' < 0
      · exact .inr (.inl h2)
      · exact .inr (.inr (by by_cases h3 : at' ≤ (s.size : Int)
                             · exact absurd ⟨rfl, by omega, h3⟩ h
                             · omega))

theorem info3 : (Try.prog.info? 3).map (fun i => (i.zero, i.size, i.bytes)) = some (some (.int .i64 0), 1, 8) := by kernel_rfl

set_option maxRecDepth 100000 in
set_option maxHeartbeats 2000000 in
theorem appendSeq_in (lb : Array Value) (P : Nat → Prop) (full : List Int) (N : Nat) (hN : N ≤ 1000000000001) (w : World) (hP : ∀ b, P b → b < w.heap.size)
    (hseq : SeqStopsK Fence.wide 5 Try.prog 44 lb (fun x : Int => #[Value.int .i64 x]) (Kp P) (fun ys => ys = full) (fun pre => pre <+: full) N w) :
    CallsIn Fence.wide 6 Try.prog 43 #[.slice none 0 0, .func (.func 44) #[] lb] w fun e W' => ∃ v, e = .returned v ∧ W'.ownsRow w.heap.size 3 1 v full.length (full.map (Value.int .i64)) ∧ Below w.heap.size w W' := by
  obtain ⟨i0, hi, hz0, hz1, hz2⟩ := info_parts info3
  refine callsIn_of_wp_marks Try.func43 rfl trivial ?_ rfl
  simp only [Try.ntmps43, List.size_toArray, List.length_cons, List.length_nil, Nat.reduceAdd, Nat.reduceSub, Array.replicate_succ, Array.replicate_zero, List.push_toArray, List.append_toArray, List.nil_append, List.cons_append]
  gi_wp2
  have bO := Boxed.new w 39 (.slice none 0 0)
  have hB0 : Below w.heap.size w (w.alloc (.cells #[.slice none 0 0] 39)) := (Below.refl _ w).alloc (Nat.le_refl _) _
  refine wpIn_rangeFunc_ownG rfl (by omega) (gf := 44) (lb := lb) rfl trivial (enters_of Try.func44 (by kernel_rfl) rfl)
    hseq (fun h k => h.trans k) (Kp.book (fun b hb => by have := hP b hb; simp; omega)) hB0 (fun _ => rfl)
    (fun pre W => (∃ v, Boxed W w.heap.size 39 v ∧ W.ownsRow w.heap.size 3 1 v pre.length (pre.map (Value.int .i64)) ∧ True) ∧ Below w.heap.size w W)
    (fun _ _ _ => False)
    (OwnFrom.and (Own.from (holdsRow_own w.heap.size w.heap.size 39 3 1 (fun pre : List Int => pre.length) (fun pre : List Int => pre.map (Value.int .i64)) (fun _ _ => True)) _) (ownFrom_below (Nat.le_refl _) (by simp)))
    (fun _ _ _ _ _ hs _ _ => hs)
    ⟨⟨_, bO, World.ownsRow_nil _ _ _ _, trivial⟩, hB0⟩
    (fun x => { tmps := #[.slice none 0 0, .func (.func 44) #[] lb, .pointer (some ⟨w.heap.size, 0, none⟩), undef, .slice none 0 0, .int .i64 x, .func (.func 44) #[] lb, .int .i64 x, undef, undef, undef, undef, undef], defers := [] }) ?assign ?body ?done ?stop
  case assign =>
    intro l x W K hK
    gi_wp2
    exact hK
  case body =>
    rintro l pre x W ⟨⟨v, hv, hrow, _⟩, hB⟩ hlt
    have hc := hv.cell
    gi_wp2_with (gi_at_builtin; refine wpListIn_append_own _ rfl _ _ 39 rfl w.heap.size 3 i0 (.int .i64 0) 1 8 Try.underlying39 hi hz0 hz1 hz2 rfl (by decide) _ _ _ rfl (hrow.alloc _) ⟨W.heap.size, 0, none⟩ 1 1 [.int .i64 x] rfl rfl (cell_one_new _ _ _) (by simp [Value.oneCell']) (by unfold maxLen; omega) (by omega) (by have := hB.size; simp; omega) ?_; intro v' w1 hown' hgrow _; obtain ⟨g', cap', rfl⟩ := ownsRow_succ hown'; obtain ⟨hv1, hv2, hr2, hk2, hb2⟩ := hv.appended (by decide) hrow hB.size (Nat.le_refl _) hown' hgrow; have hc1 := hv1.cell; have hf1 := hv1.frozen)
    exact ⟨hk2.from _, ⟨by have := hb2.size; exact this, fun b hb => hb2.block b (hP b hb)⟩, ⟨_, hv2, by simpa using hr2, trivial⟩, hB.trans hb2⟩
  case done =>
    rintro D ys W hD rfl ⟨⟨v, hv, hrow, _⟩, hB⟩ hK
    have hc := hv.cell
    gi_wp2
    refine ⟨by simp, .inl ⟨_, _, rfl, run_takeDeferred hK, ?_⟩⟩
    exact ⟨_, results_tmp rfl _ _ _, v, rfl, ownsRow_putObj hrow _ hK rfl, hB.trans (belowK_b (w := w) (Nat.le_refl _) W D _ _ (by simp at hD; omega) hK rfl rfl)⟩
  case stop =>
    rintro D c pre W _ _ h _
    exact h.elim
set_option maxHeartbeats 1000000 in
theorem collect_in (lb : Array Value) (P : Nat → Prop) (full : List Int) (N : Nat) (hN : N ≤ 1000000000001) (w : World) (hP : ∀ b, P b → b < w.heap.size)
    (hseq : SeqStopsK Fence.wide 5 Try.prog 44 lb (fun x : Int => #[Value.int .i64 x]) (Kp P) (fun ys => ys = full) (fun pre => pre <+: full) N w) :
    Calls Try.prog 27 #[.func (.func 44) #[] lb] w fun e W' => ∃ v, e = .returned v ∧ IntsV W' v full ∧ Below w.heap.size w W' := by
  have h51 := callsIn_wide.1 (appendSeq_in lb P full N hN w hP hseq)
  go_enter Try.func27, Try.ntmps27
  go_wp2_with (go_at_call 43; refine h51.mono ?_; rintro e w1 ⟨v, rfl, hv, b1⟩)
  go_ret
  exact ⟨v, rfl, ints_of_owns hv, b1⟩
def EdIs (f : Nat) (d : Dfa) (s : ByteArray) (at' : Int) : Prop := ∀ cs o cap ao acap w, DAt (In w) w d cs o cap ao acap → Calls Try.prog f #[.agg cs, .string s, .int .i64 at'] w fun e w' => ∃ v, e = .returned v ∧ IntsV w' v (endsOf d s at') ∧ Below w.heap.size w w'
theorem taken_mem (Q : Nat → Prop) {d : Dfa} {cs : Array Value} {o ao : Option Addr} {cap acap : Nat} {w1 : World} (s : ByteArray) (at' : Int) (D1 : DAt (fun b => In w1 b ∧ Q b) w1 d cs o cap ao acap) :
    Mem (fun b => (b < w1.heap.size ∧ Q b) ∨ (w1.heap.size ≤ b ∧ b < w1.heap.size + 1 + 1 + 1)) (((w1.alloc (.cells cs 26)).alloc (.cells #[.string s] 9)).alloc (.cells #[.int .i64 at'] 3)) d cs s w1.heap.size (w1.heap.size + 1) o cap ao acap ∧
    Boxed (((w1.alloc (.cells cs 26)).alloc (.cells #[.string s] 9)).alloc (.cells #[.int .i64 at'] 3)) (w1.heap.size + 1 + 1) 3 (.int .i64 at') ∧
    Below w1.heap.size w1 (((w1.alloc (.cells cs 26)).alloc (.cells #[.string s] 9)).alloc (.cells #[.int .i64 at'] 3)) := by
  have X1 := dbox_new w1 cs
  have Y1 := Boxed.new (w1.alloc (.cells cs 26)) 9 (.string s)
  have Z1 := Boxed.new ((w1.alloc (.cells cs 26)).alloc (.cells #[.string s] 9)) 3 (.int .i64 at')
  have HB3 : Below w1.heap.size w1 (((w1.alloc (.cells cs 26)).alloc (.cells #[.string s] 9)).alloc (.cells #[.int .i64 at'] 3)) := (((Below.refl _ w1).alloc (Nat.le_refl _) _).alloc (by simp) _).alloc (by simp; omega) _
  simp only [World.size_alloc] at Y1 Z1
  refine ⟨⟨D1.carry (fun b hb => HB3.block b hb.1) (fun b hb => .inl hb), (Below.heap_alloc _ _ _ (by simp; omega)).trans ((Below.heap_alloc _ _ _ (by simp)).trans X1), (Below.heap_alloc _ _ _ (by simp)).trans Y1, .inr (by omega), .inr (by omega), fun b hb => ?_⟩, Z1, HB3⟩
  simp only [World.size_alloc]
  rcases hb with h | h <;> omega
theorem collect_taken {d : Dfa} {cs : Array Value} {o ao : Option Addr} {cap acap : Nat} {w1 : World} (s : ByteArray) (at' : Int) (hs : s.size ≤ 1000000000000) (D1 : DAt (In w1) w1 d cs o cap ao acap) :
    Calls Try.prog 27 #[.func (.func 44) #[] #[.pointer (some ⟨w1.heap.size, 0, none⟩), .pointer (some ⟨w1.heap.size + 1 + 1, 0, none⟩), .pointer (some ⟨w1.heap.size + 1, 0, none⟩)]] (((w1.alloc (.cells cs 26)).alloc (.cells #[.string s] 9)).alloc (.cells #[.int .i64 at'] 3)) fun e W' => ∃ v, e = .returned v ∧ IntsV W' v (endsOf d s at') ∧ Below w1.heap.size w1 W' := by
  obtain ⟨M, Z, B⟩ := taken_mem (fun _ => True) s at' (D1.carry (fun _ _ => rfl) (fun b hb => ⟨hb, trivial⟩))
  have hst := taken_stops _ w1.heap.size (w1.heap.size + 1) (w1.heap.size + 1 + 1) d cs s at' o ao cap acap hs _ M Z
  refine (collect_in _ _ _ _ (by omega) _ M.lt hst).mono ?_
  rintro e W' ⟨v, rfl, hv, b⟩
  exact ⟨v, rfl, hv, chain B b⟩
set_option maxRecDepth 100000 in
set_option maxHeartbeats 1000000 in
theorem ends_any (d : Dfa) (s : ByteArray) (at' : Int) (hs : s.size ≤ 1000000000000) : EdIs 17 d s at' := by
  intro cs o cap ao acap w hD
  have hw8 := hD.size
  have b0 := dbox_new w cs
  have h40 := fun w => taken_in cs s at' w
  have HB0 := below_alloc w (.cells cs 26)
  have h39 := collect_taken s at' hs (hD.later HB0)
  simp only [World.size_alloc] at h39
  clear hD
  go_enter Try.func17, Try.ntmps17
  go_wp2_with (first | (refine wpList_load_row rfl 26 (.tmp 3) rfl w.heap.size rfl 26 cs (0, 0) _ b0 Try.underlying26 rfl (info26 cs hw8) ?_) | (go_at_call 28; (refine (h40 _).mono ?_); rintro e w2 ⟨rfl, rfl⟩) | (go_at_call 27; (refine h39.mono ?_); rintro e w3 ⟨v, rfl, hv, b3⟩))
  go_ret
  exact ⟨v, rfl, hv, chain HB0 (by simpa using b3)⟩

theorem last_snoc (pre : List Int) (x : Int) : (pre ++ [x]).getLast?.getD (-1) = x := by simp
def LgIs (f : Nat) (d : Dfa) (s : ByteArray) (at' : Int) (r : Int) : Prop := ∀ cs o cap ao acap w, DAt (In w) w d cs o cap ao acap → Calls Try.prog f #[.agg cs, .string s, .int .i64 at'] w fun e w' => e = .returned (.int .i64 r) ∧ Below w.heap.size w w'
end Go.Proofs.Ytkdkibnjfgcppaa.df
