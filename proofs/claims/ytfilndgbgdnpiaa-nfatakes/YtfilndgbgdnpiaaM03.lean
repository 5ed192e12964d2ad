/-
  Texts put together: Contracts over this program: which dfa may be, as the document has it (fretsawref08's Right). Over this program: the iterator that hands on the places of Ends goes on (dfa.taken's closure). Contracts over this program: dfa.taken, slices.AppendSeq and slices.Collect over it, dfa.Ends, dfa.Longest. Contracts over this program: the document's Ends and Longest (fretsawref08), Ints (fretsawref07), short.
-/
import Derived.Test.YtfilndgbgdnpiaaM02
import Derived.BigQuiet
import Derived.Deep.QuietTactic
import Derived.RangeFuncNested
import Derived.RangeFuncBound
import Derived.RangeFuncCalls
import Derived.RangeFuncLeaves
import Derived.RangeFuncBox
import Derived.Shelf.Abstract
import Derived.Shelf.RegionOpen
import Derived.OwnWalkIn
import Derived.TacticsInMore
import Derived.LoopNIn
import Derived.LoopIn
import Derived.Sort.QuietIn
import Derived.Maps.AppendAt
import Derived.Laws.OwnMore
import Derived.OwnWalk
namespace Go.Proofs.Ytfilndgbgdnpiaa.df
open Go.ChangeShapes Go.WideShapes Go.ChangeAt Go.RowKit
set_option linter.unusedVariables false

end Go.Proofs.Ytfilndgbgdnpiaa.df

namespace Go.Proofs.Ytfilndgbgdnpiaa.df
open Go.RowKit Go.Shelf
set_option linter.unusedVariables false
attribute [local go_sem] Oper.semAt_some

theorem ends_end (d : Dfa) (s : ByteArray) (q t : Nat) (h : t = s.size) : ends d s (s.size - t) (q : Int) t = here d q t := by
  rw [h, Nat.sub_self, ends_zero]
theorem ends_more (d : Dfa) (s : ByteArray) (q t : Nat) (h : t < s.size) : ends d s (s.size - t) (q : Int) t = here d q t ++ ends d s (s.size - (t + 1)) (nxt d q (d.cls s[t].toNat)) (t + 1) := by
  have e : s.size - t = (s.size - (t + 1)) + 1 := by omega
  rw [e, ends_succ, byte_eq s t h]
theorem here_yes (d : Dfa) (q t : Nat) (h : acpt d q = true) : here d q t = [(t : Int)] := by unfold here; rw [h]; rfl
theorem here_no (d : Dfa) (q t : Nat) (h : acpt d q = false) : here d q t = [] := by unfold here; rw [h]; rfl
set_option maxRecDepth 100000 in
set_option maxHeartbeats 4000000 in
theorem taken1_yes (P : Nat → Prop) (l gd gs ga : Nat) (d : Dfa) (cs : Array Value) (s : ByteArray) (at' : Nat) (o ao : Option Addr) (cap acap : Nat) (J Jx : List Int → World → Prop)
    (hr : right d = true) (hat : at' ≤ s.size) (hs : s.size ≤ 1000000000000)
    (hY : ∀ pre x W, J pre W → pre.length < s.size + 1 → YieldAt Fence.wide 4 Try.prog l #[.int .i64 x] W fun e W' =>
      (e = .returned (.bool true) ∧ J (pre ++ [x]) W' ∧ Kp P W W') ∨ (e = .returned (.bool false) ∧ Jx (pre ++ [x]) W'))
    (W : World) (hM : Mem P W d cs s gd gs o cap ao acap) (hA : Boxed W ga 3 (.int .i64 at')) (hJ : AbidesFrom W.heap.size J) (h0 : J [] W) :
    CallsIn Fence.wide 5 Try.prog 67 #[.func (.yield l) #[] #[], .pointer (some ⟨gd, 0, none⟩), .pointer (some ⟨ga, 0, none⟩), .pointer (some ⟨gs, 0, none⟩)] W fun e W' => (∃ v, e = .returned v) ∧
      ((∃ ys, ys = ends d s (s.size - at') 0 at' ∧ J ys W') ∨ (∃ pre, pre <+: ends d s (s.size - at') 0 at' ∧ Jx pre W')) := by
  have hrt := right_any d _ rfl
  unfold RtIs at hrt
  have hok := ok_of d hr
  have hD : DAt (In W) W d cs o cap ao acap := hM.dt.carry (fun _ _ => rfl) hM.lt
  have hcall := fun w => hrt cs o cap ao acap w
  rw [hr] at hcall
  have hlt := hA.lt
  have hlt2 := hM.sx.lt
  have hc2 := hA.cell
  have hc3 := hM.sx.cell
  have bx := hM.bx
  have hw8 := hM.dt.size
  have hn1 := hok.one
  have hn4 := hok.most
  have hna := hok.accs
  have hafit := hM.dt.accs.fit
  have hatop := hM.dt.accs.top
  have hfit := hM.dt.rows.fit
  have htop := hM.dt.rows.top
  have HM : Hid (Mem P W d cs s gd gs o cap ao acap) := hM
  have HOK : Hid (Ok d) := hok
  have HL : Hid ((ends d s (s.size - at') 0 at').length ≤ s.size + 1) := Nat.le_trans (ends_len _ _ _ _ _) (by omega)
  clear hM hrt hok
  obtain ⟨full, hfull⟩ : ∃ full, full = ends d s (s.size - at') 0 at' := ⟨_, rfl⟩
  have HI : Hid (full = [] ++ ends d s (s.size - at') (0 : Int) at') := hfull
  rw [← hfull] at HL ⊢
  clear hfull
  have f1 : decide ((at' : Int) < 0) = false := decide_eq_false (by omega)
  have f2 : decide (s.size < at') = false := decide_eq_false (by omega)
  refine callsIn_of_wp Try.func67 rfl trivial ?_ rfl
  simp only [Try.ntmps67, List.size_toArray, List.length_cons, List.length_nil, Nat.reduceAdd, Nat.reduceSub, Array.replicate_succ, Array.replicate_zero, List.push_toArray, List.append_toArray, List.nil_append, List.cons_append]
  gi_wp2_with (first | (refine wpListIn_load_row rfl 51 (.tmp 1) rfl gd rfl 51 cs (0, 0) _ bx Try.underlying51 rfl (info51 cs hw8) ?_) | (refine ⟨trivial, ?_⟩; gi_at_call 68; refine (callsIn_wide.2 (hcall _ hD)).mono ?_; rintro e w1 ⟨rfl, b1⟩; have d2 := (b1.cell (p := ⟨ga, 0, none⟩) hlt).trans hc2; have d3 := (b1.cell (p := ⟨gs, 0, none⟩) hlt2).trans hc3))
  gi_loopw [5, 6] (fun y z wr => ∃ (st : Int) (t : Nat) (pre : List Int), y = .int .i64 st ∧ z = .int .i64 t ∧ -1 ≤ st ∧ st < (d.next.length : Int) ∧ (0 ≤ st → t ≤ s.size) ∧ Hid (full = pre ++ ends d s (s.size - t) st t) ∧ J pre wr ∧ Hid (Mem P wr d cs s gd gs o cap ao acap))
    (fun _ z _ => s.size + 1 - (intOf z).toNat)
  case atStart => exact ⟨0, at', [], rfl, rfl, by omega, by omega, fun _ => hat, HI, hJ _ _ _ none h0 (grown_of b1) (fun r e => by cases e), HM.out.carry (Kp.below b1 b1.size HM.out.lt)⟩
  case round =>
    obtain ⟨st, t, pre, rfl, rfl, hs1, hs2, ht, HE, hJs, HMr⟩ := hrel
    clear hc2 hc3 bx d2 d3 hlt hlt2 hcall hD
    by_cases hneg : st = -1
    · subst hneg
      have hex : pre = full := by have := HE.out; rw [ends_neg d s _ (-1) _ (by omega), List.append_nil] at this; exact this.symm
      gi_wp2
      go_end0
      exact ⟨⟨_, rfl⟩, .inl ⟨pre, hex, hJs⟩⟩
    · obtain ⟨q, rfl⟩ : ∃ q : Nat, st = (q : Int) := ⟨st.toNat, by omega⟩
      have hq : q < d.next.length := by omega
      have htl : t ≤ s.size := ht (by omega)
      have g1 : ((q : Int) != -1) = true := bne_iff_ne.2 hneg
      have g2 : ((q : Int) == -1) = false := beq_eq_false_iff_ne.2 hneg
      obtain ⟨ab, aoff, rfl, hpa, hca⟩ := acc_at HMr.out.dt q (by omega)
      have kx := HMr.out.bx.ac HMr.out.dt
      have ky := HMr.out.bx.nx HMr.out.dt
      have ks := HMr.out.sx.cell
      clear hneg hs1 ht
      cases hacc : acpt d q with
      | true =>
        rw [hacc] at hca
        have hh := here_yes d q t hacc
        by_cases htt : t = s.size
        · have HF : Hid (full = pre ++ [(t : Int)]) := by show _ = _; rw [HE.out, ends_end d s q t htt, hh]
          obtain ⟨fn, tmps, assign, body, hy, hR⟩ := hY pre t wr hJs (by have := HL.out; rw [HF.out, List.length_append] at this; simp at this; omega)
          have z1 : ((t : Int) == (s.size : Int)) = true := beq_iff_eq.2 (by omega)
          clear HE hh htt
          gi_wp2
          refine hR.mono ?_
          rintro e W3 (⟨rfl, hJ3, hk3⟩ | ⟨rfl, hJx3⟩)
          · have k3 := (HMr.out.carry hk3).sx.cell
            gi_wp2
            refine bodyPost_ret (results_none rfl _ _ _) rfl ?_
            exact ⟨⟨_, rfl⟩, .inl ⟨_, HF.out.symm, hJ3⟩⟩
          · gi_wp2
            refine bodyPost_ret (results_none rfl _ _ _) rfl ?_
            exact ⟨⟨_, rfl⟩, .inr ⟨_, ⟨[], by rw [List.append_nil]; exact HF.out.symm⟩, hJx3⟩⟩
        · have htt2 : t < s.size := by omega
          have HF : Hid (full = (pre ++ [(t : Int)]) ++ ends d s (s.size - (t + 1)) (nxt d q (d.cls s[t].toNat)) (t + 1)) := by show _ = _; rw [HE.out, ends_more d s q t htt2, hh, List.append_assoc]
          obtain ⟨fn, tmps, assign, body, hy, hR⟩ := hY pre t wr hJs (by have := HL.out; rw [HF.out, List.length_append, List.length_append] at this; simp at this; omega)
          have z1 : ((t : Int) == (s.size : Int)) = false := beq_eq_false_iff_ne.2 (by omega)
          have hcw := HOK.out.cl s[t].toNat (UInt8.toNat_lt _)
          have hno := nxt_ok HOK.out q _ hq hcw
          clear HE hh
          gi_wp2
          refine hR.mono ?_
          rintro e W3 (⟨rfl, hJ3, hk3⟩ | ⟨rfl, hJx3⟩)
          · have M3 := HMr.out.carry hk3
            have k3 := M3.sx.cell
            have j0 := M3.bx.cl M3.dt s[t].toNat (UInt8.toNat_lt _)
            have j1 := M3.bx.nx M3.dt
            have h8 := M3.dt.c8 s[t].toNat
            obtain ⟨b, off, b', off', ci, e1, hc1, hw1, hw2, hc2⟩ := nxt_at M3.dt HOK.out q _ hq hcw
            subst e1
            have MM : Hid (Mem P W3 d cs s gd gs (some ⟨b, off, none⟩) cap (some ⟨ab, aoff, none⟩) acap) := M3
            clear M3
            have hb8 : s[t].toNat < 256 := UInt8.toNat_lt _
            generalize width d = k at *
            gi_wp2
            gi_quiet (fail)
            gi_wp2
            go_roundw
            case rel => exact ⟨_, t + 1, _, rfl, by go_num, by omega, by omega, fun _ => by omega, HF, hJ _ _ _ none hJ3 (grown_drewN _ _) (fun r e => by cases e), MM.out.carry ⟨Nat.le_refl _, fun _ _ => rfl⟩⟩
            case measure => simp [intOf]; omega
          · gi_wp2
            refine bodyPost_ret (results_none rfl _ _ _) rfl ?_
            exact ⟨⟨_, rfl⟩, .inr ⟨_, ⟨_, HF.out.symm⟩, hJx3⟩⟩
      | false =>
        rw [hacc] at hca
        have hh := here_no d q t hacc
        by_cases htt : t = s.size
        · have HF : Hid (full = pre) := by show _ = _; rw [HE.out, ends_end d s q t htt, hh, List.append_nil]
          have z1 : ((t : Int) == (s.size : Int)) = true := beq_iff_eq.2 (by omega)
          clear HE hh htt
          gi_wp2
          refine ⟨fun _ h => (by cases h), ?_⟩
          gi_wp2
          refine bodyPost_ret (results_none rfl _ _ _) rfl ?_
          exact ⟨⟨_, rfl⟩, .inl ⟨_, HF.out.symm, hJs⟩⟩
        · have htt2 : t < s.size := by omega
          have HF : Hid (full = pre ++ ends d s (s.size - (t + 1)) (nxt d q (d.cls s[t].toNat)) (t + 1)) := by show _ = _; rw [HE.out, ends_more d s q t htt2, hh, List.nil_append]
          have z1 : ((t : Int) == (s.size : Int)) = false := beq_eq_false_iff_ne.2 (by omega)
          have hcw := HOK.out.cl s[t].toNat (UInt8.toNat_lt _)
          have hno := nxt_ok HOK.out q _ hq hcw
          have M3 := HMr.out
          have j0 := M3.bx.cl M3.dt s[t].toNat (UInt8.toNat_lt _)
          have h8 := M3.dt.c8 s[t].toNat
          obtain ⟨b, off, b', off', ci, e1, hc1, hw1, hw2, hc2⟩ := nxt_at M3.dt HOK.out q _ hq hcw
          subst e1
          have MM : Hid (Mem P wr d cs s gd gs (some ⟨b, off, none⟩) cap (some ⟨ab, aoff, none⟩) acap) := M3
          clear M3 HE hh
          have hb8 : s[t].toNat < 256 := UInt8.toNat_lt _
          generalize width d = k at *
          gi_wp2
          refine ⟨fun _ h => (by cases h), ?_⟩
          gi_wp2
          gi_quiet (fail)
          gi_wp2
          go_roundw
          case rel => exact ⟨_, t + 1, _, rfl, by go_num, by omega, by omega, fun _ => by omega, HF, hJ _ _ _ none hJs (grown_drewN _ _) (fun r e => by cases e), MM.out.carry ⟨Nat.le_refl _, fun _ _ => rfl⟩⟩
          case measure => simp [intOf]; omega
end Go.Proofs.Ytfilndgbgdnpiaa.df

namespace Go.Proofs.Ytfilndgbgdnpiaa.df
open Go.RowKit Go.Shelf
set_option linter.unusedVariables false
attribute [local go_sem] Oper.semAt_some

def endsOf (d : Dfa) (s : ByteArray) (at' : Int) : List Int := if right d = true ∧ 0 ≤ at' ∧ at' ≤ (s.size : Int) then ends d s (s.size - at'.toNat) 0 at'.toNat else []
theorem endsOf_len (d : Dfa) (s : ByteArray) (at' : Int) : (endsOf d s at').length ≤ s.size + 1 := by
  unfold endsOf
  split
  · exact Nat.le_trans (ends_len _ _ _ _ _) (by omega)
  · simp

/-- a slice of ints, as a value -/
def IntsV (w : World) (v : Value) (l : List Int) : Prop := ∃ o cap, v = .slice o l.length cap ∧ Row (In w) w iv o cap l
theorem IntsV.later {w w' : World} {v : Value} {l : List Int} (h : IntsV w v l) (b : Below w.heap.size w w') : IntsV w' v l := by
  obtain ⟨o, cap, e, hr⟩ := h
  exact ⟨o, cap, e, hr.carry (fun k hk => b.block k hk) (fun k hk => Nat.lt_of_lt_of_le hk b.size)⟩
theorem ints_of_owns {w : World} {base : Nat} {v : Value} {l : List Int} (h : w.ownsRow base 3 1 v l.length (l.map (Value.int .i64))) : IntsV w v l := by
  have h0 := h
  rcases h.2 with ⟨rfl, hl⟩ | ⟨g, cap, cur, rfl, hb, hg, hn, hc, hs, ht⟩
  · have : l = [] := List.length_eq_zero_iff.1 hl
    subst this
    exact ⟨none, 0, rfl, Nat.le_refl _, by omega, fun i hi => by simp at hi⟩
  · unfold maxLen at hc
    refine ⟨some ⟨g, 0, none⟩, cap, rfl, hn, hc, fun i hi => ⟨g, 0, rfl, (Array.getElem?_eq_some_iff.1 hg).1, ?_⟩⟩
    have := World.ownsRow.cellAt h0 i (by omega)
    rw [Nat.zero_add, this, List.getElem?_map, List.getElem?_eq_getElem hi]
    rfl

set_option maxHeartbeats 1000000 in
theorem taken_in (cs : Array Value) (s : ByteArray) (at' : Int) (w : World) :
    Calls Try.prog 42 #[.agg cs, .string s, .int .i64 at'] w fun e w' => e = .returned (.func (.func 67) #[] #[.pointer (some ⟨w.heap.size, 0, none⟩), .pointer (some ⟨w.heap.size + 1 + 1, 0, none⟩), .pointer (some ⟨w.heap.size + 1, 0, none⟩)]) ∧
      w' = ((w.alloc (.cells cs 51)).alloc (.cells #[.string s] 9)).alloc (.cells #[.int .i64 at'] 3) := by
  go_enter Try.func42, Try.ntmps42
  go_wp2
  go_ret
  exact ⟨rfl, rfl⟩

theorem taken_stops (P : Nat → Prop) (gd gs ga : Nat) (d : Dfa) (cs : Array Value) (s : ByteArray) (at' : Int) (o ao : Option Addr) (cap acap : Nat) (hs : s.size ≤ 1000000000000)
    (w : World) (hM : Mem P w d cs s gd gs o cap ao acap) (hA : Boxed w ga 3 (.int .i64 at')) :
    SeqStopsK Fence.wide 5 Try.prog 67 #[.pointer (some ⟨gd, 0, none⟩), .pointer (some ⟨ga, 0, none⟩), .pointer (some ⟨gs, 0, none⟩)] (fun x : Int => #[Value.int .i64 x]) (Kp P) (fun ys => ys = endsOf d s at') (fun pre => pre <+: endsOf d s at') (s.size + 1) w := fun l J Jx W hW hJ hJx hY h0 => by
  have hM2 := hM.carry (Kp.below hW hW.size hM.lt)
  have hA2 : Boxed W ga 3 (.int .i64 at') := (hW.block ga hA.lt).trans hA
  unfold endsOf
  by_cases h : right d = true ∧ 0 ≤ at' ∧ at' ≤ (s.size : Int)
  · obtain ⟨h1, h2, h3⟩ := h
    obtain ⟨t, rfl⟩ : ∃ t : Nat, at' = (t : Int) := ⟨at'.toNat, by omega⟩
    rw [if_pos ⟨h1, h2, h3⟩]
    exact taken1_yes P l gd gs ga d cs s t o ao cap acap J Jx h1 (by omega) hs hY W hM2 hA2 hJ h0
  · rw [if_neg h]
    refine taken1_no P l gd gs ga d cs s at' o ao cap acap J Jx ?_ hs W hM2 hA2 hJ h0
    cases hr : right d with
    | false => exact .inl rfl
    | true =>
      rw [hr] at h
      by_cases h2 : at' < 0
      · exact .inr (.inl h2)
      · exact .inr (.inr (by by_cases h3 : at' ≤ (s.size : Int)
                             · exact absurd ⟨rfl, by omega, h3⟩ h
                             · omega))

theorem info3 : (Try.prog.info? 3).map (fun i => (i.zero, i.size, i.bytes)) = some (some (.int .i64 0), 1, 8) := by kernel_rfl

set_option maxRecDepth 100000 in
set_option maxHeartbeats 2000000 in
theorem appendSeq_in (lb : Array Value) (P : Nat → Prop) (full : List Int) (N : Nat) (hN : N ≤ 1000000000001) (w : World) (hP : ∀ b, P b → b < w.heap.size)
    (hseq : SeqStopsK Fence.wide 5 Try.prog 67 lb (fun x : Int => #[Value.int .i64 x]) (Kp P) (fun ys => ys = full) (fun pre => pre <+: full) N w) :
    CallsIn Fence.wide 6 Try.prog 66 #[.slice none 0 0, .func (.func 67) #[] lb] w fun e W' => ∃ v, e = .returned v ∧ W'.ownsRow w.heap.size 3 1 v full.length (full.map (Value.int .i64)) ∧ Below w.heap.size w W' := by
  obtain ⟨i0, hi, hz0, hz1, hz2⟩ := info_parts info3
  refine callsIn_of_wp_marks Try.func66 rfl trivial ?_ rfl
  simp only [Try.ntmps66, List.size_toArray, List.length_cons, List.length_nil, Nat.reduceAdd, Nat.reduceSub, Array.replicate_succ, Array.replicate_zero, List.push_toArray, List.append_toArray, List.nil_append, List.cons_append]
  gi_wp2
  have bO := Boxed.new w 39 (.slice none 0 0)
  have hB0 : Below w.heap.size w (w.alloc (.cells #[.slice none 0 0] 39)) := (Below.refl _ w).alloc (Nat.le_refl _) _
  refine wpIn_rangeFunc_ownG rfl (by omega) (gf := 67) (lb := lb) rfl trivial (enters_of Try.func67 (by kernel_rfl) rfl)
    hseq (fun h k => h.trans k) (Kp.book (fun b hb => by have := hP b hb; simp; omega)) hB0 (fun _ => rfl)
    (fun pre W => (∃ v, Boxed W w.heap.size 39 v ∧ W.ownsRow w.heap.size 3 1 v pre.length (pre.map (Value.int .i64)) ∧ True) ∧ Below w.heap.size w W)
    (fun _ _ _ => False)
    (OwnFrom.and (Own.from (holdsRow_own w.heap.size w.heap.size 39 3 1 (fun pre : List Int => pre.length) (fun pre : List Int => pre.map (Value.int .i64)) (fun _ _ => True)) _) (ownFrom_below (Nat.le_refl _) (by simp)))
    (fun _ _ _ _ _ hs _ _ => hs)
    ⟨⟨_, bO, World.ownsRow_nil _ _ _ _, trivial⟩, hB0⟩
    (fun x => { tmps := #[.slice none 0 0, .func (.func 67) #[] lb, .pointer (some ⟨w.heap.size, 0, none⟩), undef, .slice none 0 0, .int .i64 x, .func (.func 67) #[] lb, .int .i64 x, undef, undef, undef, undef, undef], defers := [] }) ?assign ?body ?done ?stop
  case assign =>
    intro l x W K hK
    gi_wp2
    exact hK
  case body =>
    rintro l pre x W ⟨⟨v, hv, hrow, _⟩, hB⟩ hlt
    have hc := hv.cell
    gi_wp2_with (gi_at_builtin; refine wpListIn_append_own _ rfl _ _ 39 rfl w.heap.size 3 i0 (.int .i64 0) 1 8 Try.underlying39 hi hz0 hz1 hz2 rfl (by decide) _ _ _ rfl (hrow.alloc _) ⟨W.heap.size, 0, none⟩ 1 1 [.int .i64 x] rfl rfl (cell_one_new _ _ _) (by simp [Value.oneCell']) (by unfold maxLen; omega) (by omega) (by have := hB.size; simp; omega) ?_; intro v' w1 hown' hgrow _; obtain ⟨g', cap', rfl⟩ := ownsRow_succ hown'; obtain ⟨hv1, hv2, hr2, hk2, hb2⟩ := hv.appended (by decide) hrow hB.size (Nat.le_refl _) hown' hgrow; have hc1 := hv1.cell; have hf1 := hv1.frozen)
    exact ⟨hk2.from _, ⟨by have := hb2.size; exact this, fun b hb => hb2.block b (hP b hb)⟩, ⟨_, hv2, by simpa using hr2, trivial⟩, hB.trans hb2⟩
  case done =>
    rintro D ys W hD rfl ⟨⟨v, hv, hrow, _⟩, hB⟩ hK
    have hc := hv.cell
    gi_wp2
    refine ⟨by simp, .inl ⟨_, _, rfl, run_takeDeferred hK, ?_⟩⟩
    exact ⟨_, results_tmp rfl _ _ _, v, rfl, ownsRow_putObj hrow _ hK rfl, hB.trans (belowK_b (w := w) (Nat.le_refl _) W D _ _ (by simp at hD; omega) hK rfl rfl)⟩
  case stop =>
    rintro D c pre W _ _ h _
    exact h.elim
set_option maxHeartbeats 1000000 in
theorem collect_in (lb : Array Value) (P : Nat → Prop) (full : List Int) (N : Nat) (hN : N ≤ 1000000000001) (w : World) (hP : ∀ b, P b → b < w.heap.size)
    (hseq : SeqStopsK Fence.wide 5 Try.prog 67 lb (fun x : Int => #[Value.int .i64 x]) (Kp P) (fun ys => ys = full) (fun pre => pre <+: full) N w) :
    Calls Try.prog 41 #[.func (.func 67) #[] lb] w fun e W' => ∃ v, e = .returned v ∧ IntsV W' v full ∧ Below w.heap.size w W' := by
  have h51 := callsIn_wide.1 (appendSeq_in lb P full N hN w hP hseq)
  go_enter Try.func41, Try.ntmps41
  go_wp2_with (go_at_call 66; refine h51.mono ?_; rintro e w1 ⟨v, rfl, hv, b1⟩)
  go_ret
  exact ⟨v, rfl, ints_of_owns hv, b1⟩
def EdIs (f : Nat) (d : Dfa) (s : ByteArray) (at' : Int) : Prop := ∀ cs o cap ao acap w, DAt (In w) w d cs o cap ao acap → Calls Try.prog f #[.agg cs, .string s, .int .i64 at'] w fun e w' => ∃ v, e = .returned v ∧ IntsV w' v (endsOf d s at') ∧ Below w.heap.size w w'
theorem taken_mem (Q : Nat → Prop) {d : Dfa} {cs : Array Value} {o ao : Option Addr} {cap acap : Nat} {w1 : World} (s : ByteArray) (at' : Int) (D1 : DAt (fun b => In w1 b ∧ Q b) w1 d cs o cap ao acap) :
    Mem (fun b => (b < w1.heap.size ∧ Q b) ∨ (w1.heap.size ≤ b ∧ b < w1.heap.size + 1 + 1 + 1)) (((w1.alloc (.cells cs 51)).alloc (.cells #[.string s] 9)).alloc (.cells #[.int .i64 at'] 3)) d cs s w1.heap.size (w1.heap.size + 1) o cap ao acap ∧
    Boxed (((w1.alloc (.cells cs 51)).alloc (.cells #[.string s] 9)).alloc (.cells #[.int .i64 at'] 3)) (w1.heap.size + 1 + 1) 3 (.int .i64 at') ∧
    Below w1.heap.size w1 (((w1.alloc (.cells cs 51)).alloc (.cells #[.string s] 9)).alloc (.cells #[.int .i64 at'] 3)) := by
  have X1 := dbox_new w1 cs
  have Y1 := Boxed.new (w1.alloc (.cells cs 51)) 9 (.string s)
  have Z1 := Boxed.new ((w1.alloc (.cells cs 51)).alloc (.cells #[.string s] 9)) 3 (.int .i64 at')
  have HB3 : Below w1.heap.size w1 (((w1.alloc (.cells cs 51)).alloc (.cells #[.string s] 9)).alloc (.cells #[.int .i64 at'] 3)) := (((Below.refl _ w1).alloc (Nat.le_refl _) _).alloc (by simp) _).alloc (by simp; omega) _
  simp only [World.size_alloc] at Y1 Z1
  refine ⟨⟨D1.carry (fun b hb => HB3.block b hb.1) (fun b hb => .inl hb), (Below.heap_alloc _ _ _ (by simp; omega)).trans ((Below.heap_alloc _ _ _ (by simp)).trans X1), (Below.heap_alloc _ _ _ (by simp)).trans Y1, .inr (by omega), .inr (by omega), fun b hb => ?_⟩, Z1, HB3⟩
  simp only [World.size_alloc]
  rcases hb with h | h <;> omega
theorem collect_taken {d : Dfa} {cs : Array Value} {o ao : Option Addr} {cap acap : Nat} {w1 : World} (s : ByteArray) (at' : Int) (hs : s.size ≤ 1000000000000) (D1 : DAt (In w1) w1 d cs o cap ao acap) :
    Calls Try.prog 41 #[.func (.func 67) #[] #[.pointer (some ⟨w1.heap.size, 0, none⟩), .pointer (some ⟨w1.heap.size + 1 + 1, 0, none⟩), .pointer (some ⟨w1.heap.size + 1, 0, none⟩)]] (((w1.alloc (.cells cs 51)).alloc (.cells #[.string s] 9)).alloc (.cells #[.int .i64 at'] 3)) fun e W' => ∃ v, e = .returned v ∧ IntsV W' v (endsOf d s at') ∧ Below w1.heap.size w1 W' := by
  obtain ⟨M, Z, B⟩ := taken_mem (fun _ => True) s at' (D1.carry (fun _ _ => rfl) (fun b hb => ⟨hb, trivial⟩))
  have hst := taken_stops _ w1.heap.size (w1.heap.size + 1) (w1.heap.size + 1 + 1) d cs s at' o ao cap acap hs _ M Z
  refine (collect_in _ _ _ _ (by omega) _ M.lt hst).mono ?_
  rintro e W' ⟨v, rfl, hv, b⟩
  exact ⟨v, rfl, hv, chain B b⟩
set_option maxRecDepth 100000 in
set_option maxHeartbeats 1000000 in
theorem ends_any (d : Dfa) (s : ByteArray) (at' : Int) (hs : s.size ≤ 1000000000000) : EdIs 21 d s at' := by
  intro cs o cap ao acap w hD
  have hw8 := hD.size
  have b0 := dbox_new w cs
  have h40 := fun w => taken_in cs s at' w
  have HB0 := below_alloc w (.cells cs 51)
  have h39 := collect_taken s at' hs (hD.later HB0)
  simp only [World.size_alloc] at h39
  clear hD
  go_enter Try.func21, Try.ntmps21
  go_wp2_with (first | (refine wpList_load_row rfl 51 (.tmp 3) rfl w.heap.size rfl 51 cs (0, 0) _ b0 Try.underlying51 rfl (info51 cs hw8) ?_) | (go_at_call 42; (refine (h40 _).mono ?_); rintro e w2 ⟨rfl, rfl⟩) | (go_at_call 41; (refine h39.mono ?_); rintro e w3 ⟨v, rfl, hv, b3⟩))
  go_ret
  exact ⟨v, rfl, hv, chain HB0 (by simpa using b3)⟩

theorem last_snoc (pre : List Int) (x : Int) : (pre ++ [x]).getLast?.getD (-1) = x := by simp
set_option maxRecDepth 100000 in
set_option maxHeartbeats 2000000 in
theorem longest_in (d : Dfa) (s : ByteArray) (at' : Int) (hs : s.size ≤ 1000000000000) (cs : Array Value) (o ao : Option Addr) (cap acap : Nat) (w : World) (hD : DAt (In w) w d cs o cap ao acap) :
    CallsIn Fence.wide 6 Try.prog 22 #[.agg cs, .string s, .int .i64 at'] w fun e W' => e = .returned (.int .i64 ((endsOf d s at').getLast?.getD (-1))) ∧ Below w.heap.size w W' := by
  have hw8 := hD.size
  have b0 := dbox_new w cs
  have b1 : DBox ((w.alloc (.cells cs 51)).alloc (.cells #[.int .i64 (-1)] 3)) w.heap.size cs := (Below.heap_alloc _ _ _ (by simp)).trans b0
  have h40 := fun w => taken_in cs s at' w
  have HB0 : Below w.heap.size w ((w.alloc (.cells cs 51)).alloc (.cells #[.int .i64 (-1)] 3)) := ((Below.refl _ _).alloc (Nat.le_refl _) _).alloc (by simp) _
  have bL := Boxed.new (w.alloc (.cells cs 51)) 3 (.int .i64 (-1))
  refine callsIn_of_wp_marks Try.func22 rfl trivial ?_ rfl
  simp only [Try.ntmps22, List.size_toArray, List.length_cons, List.length_nil, Nat.reduceAdd, Nat.reduceSub, Array.replicate_succ, Array.replicate_zero, List.push_toArray, List.append_toArray, List.nil_append, List.cons_append]
  gi_wp2_with (first | (refine wpListIn_load_row rfl 51 (.tmp 3) rfl w.heap.size rfl 51 cs (0, 0) _ b1 Try.underlying51 rfl (info51 cs hw8) ?_) | (refine ⟨trivial, ?_⟩; gi_at_call 42; refine (callsIn_wide.2 (h40 _)).mono ?_; rintro e w2 ⟨rfl, rfl⟩))
  rw [World.size_alloc] at bL
  obtain ⟨M, Z, B⟩ := taken_mem (fun b => b ≠ w.heap.size + 1) s at' (hD.carry (w' := (w.alloc (.cells cs 51)).alloc (.cells #[.int .i64 (-1)] 3)) (Q := fun b => In ((w.alloc (.cells cs 51)).alloc (.cells #[.int .i64 (-1)] 3)) b ∧ b ≠ w.heap.size + 1) (fun b hb => HB0.block b hb) (fun b hb => ⟨Nat.lt_of_lt_of_le hb HB0.size, by unfold In at hb; omega⟩))
  have hst := taken_stops _ _ _ _ d cs s at' o ao cap acap hs _ M Z
  simp only [World.size_alloc] at hst
  have hB5 : Below w.heap.size w (((((w.alloc (.cells cs 51)).alloc (.cells #[.int .i64 (-1)] 3)).alloc (.cells cs 51)).alloc (.cells #[.string s] 9)).alloc (.cells #[.int .i64 at'] 3)) := chain HB0 B
  refine wpIn_rangeFunc_ownG rfl (by omega) (gf := 67) (lb := #[.pointer (some ⟨w.heap.size + 1 + 1, 0, none⟩), .pointer (some ⟨w.heap.size + 1 + 1 + 1 + 1, 0, none⟩), .pointer (some ⟨w.heap.size + 1 + 1 + 1, 0, none⟩)]) rfl trivial (enters_of Try.func67 (by kernel_rfl) rfl)
    hst (fun h k => h.trans k) (Kp.book (fun b hb => by simp; omega)) (Below.refl _ _) (fun _ => rfl)
    (fun pre W => Boxed W (w.heap.size + 1) 3 (.int .i64 (pre.getLast?.getD (-1))) ∧ Below w.heap.size w W)
    (fun _ _ _ => False)
    (OwnFrom.and (Own.from (boxed_own _ _ (fun pre : List Int => Value.int .i64 (pre.getLast?.getD (-1)))) _) (ownFrom_below (Nat.le_refl _) (by simp; omega)))
    (fun _ _ _ _ _ hs _ _ => hs)
    ⟨(((bL.alloc _).alloc _).alloc _), hB5⟩
    (fun x => { tmps := #[.agg cs, .string s, .int .i64 at', .pointer (some ⟨w.heap.size, 0, none⟩), undef, undef, .int .i64 0, .pointer (some ⟨w.heap.size + 1, 0, none⟩), .int .i64 x, .agg cs, .string s, .int .i64 at', .func (.func 67) #[] #[.pointer (some ⟨w.heap.size + 1 + 1, 0, none⟩), .pointer (some ⟨w.heap.size + 1 + 1 + 1 + 1, 0, none⟩), .pointer (some ⟨w.heap.size + 1 + 1 + 1, 0, none⟩)], .int .i64 x, undef, undef], defers := [] }) ?assign ?body ?done ?stop
  case assign =>
    intro l x W K hK
    gi_wp2
    exact hK
  case body =>
    rintro l pre x W ⟨hv, hB⟩ hlt
    have hc := hv.cell
    have hf := hv.frozen
    gi_wp2
    exact ⟨(KeepsOthers.setCell _ _ _).from _, ⟨by simp, fun b hb => Below.heap_setCell _ _ _ b (fun e => by simp at e; omega)⟩, by rw [last_snoc]; exact hv.set _, hB.setCell (p := ⟨w.heap.size + 1, 0, none⟩) (by simp) _⟩
  case done =>
    rintro D ys W hD2 rfl ⟨hv, hB⟩ hK
    have hc := hv.cell
    gi_wp2
    refine ⟨by simp, .inl ⟨_, _, rfl, run_takeDeferred hK, ?_⟩⟩
    exact ⟨_, results_tmp rfl _ _ _, rfl, hB.trans (belowK_b (w := w) (Nat.le_refl _) W D _ _ (by simp at hD2; omega) hK rfl rfl)⟩
  case stop =>
    rintro D c pre W _ _ h _
    exact h.elim
def LgIs (f : Nat) (d : Dfa) (s : ByteArray) (at' : Int) (r : Int) : Prop := ∀ cs o cap ao acap w, DAt (In w) w d cs o cap ao acap → Calls Try.prog f #[.agg cs, .string s, .int .i64 at'] w fun e w' => e = .returned (.int .i64 r) ∧ Below w.heap.size w w'
theorem longest_any (d : Dfa) (s : ByteArray) (at' : Int) (hs : s.size ≤ 1000000000000) : LgIs 22 d s at' ((endsOf d s at').getLast?.getD (-1)) :=
  fun cs o cap ao acap w hD => callsIn_wide.1 (longest_in d s at' hs cs o ao cap acap w hD)
end Go.Proofs.Ytfilndgbgdnpiaa.df

namespace Go.Proofs.Ytfilndgbgdnpiaa.df
open Go.RowKit Go.Shelf
set_option linter.unusedVariables false

abbrev Owns (w : World) (B : Nat) (v : Value) (l : List Int) : Prop := w.ownsRow B 3 1 v l.length (l.map (Value.int .i64))
theorem wpList_append_int {ops : Array Oper} {rest : List Oper} {o : Oper} {a : Act} {w : World} {Q : Exit → Act → World → Prop} (hgd : o.guard = none) (s x : Operand)
    (ho : o.op = Op.call { callee := Callee.builtin Builtin.append, args := #[s, x], argTypes := #[39, 39] }) (B : Nat) (v : Value) (l : List Int) (y : Int) (g : Nat)
    (hs : a.eval s = v) (hx : a.eval x = .slice (some ⟨g, 0, none⟩) 1 1) (hown : Owns w B v l) (hc : w.cell? ⟨g, 0, none⟩ = some (.int .i64 y)) (hl : l.length ≤ 1000000000001) (hB : B ≤ w.heap.size)
    (hK : ∀ g' cap' w', Owns w' B (.slice (some ⟨g', 0, none⟩) (l.length + 1) cap') (l ++ [y]) → w.grownBy w' v.ownBlock → wpList Try.prog ops Q rest (a.put o.dst (.slice (some ⟨g', 0, none⟩) (l.length + 1) cap')) w') : wpList Try.prog ops Q (o :: rest) a w := by
  obtain ⟨i0, hi, hz0, hz1, hz2⟩ := info_parts info3
  refine wpList_append_own w hgd s x 39 ho B 3 i0 (.int .i64 0) 1 8 Try.underlying39 hi hz0 hz1 hz2 rfl (by decide) v l.length _ hs hown ⟨g, 0, none⟩ 1 1 [.int .i64 y] hx rfl (fun j u hu => ?_) (by simp [Value.oneCell']) (by unfold maxLen; omega) (by omega) hB ?_
  · rcases j with _ | j
    · simp at hu
      subst hu
      simpa [Addr.add] using hc
    · simp at hu
  · intro v' w' hown' hgrow _
    obtain ⟨g', cap', rfl⟩ := ownsRow_succ hown'
    refine hK g' cap' w' ?_ hgrow
    simpa [Owns] using hown'
theorem own_ge {w : World} {B : Nat} {v : Value} {l : List Int} (h : Owns w B v l) : ∀ k, v.ownBlock = some k → B ≤ k := by
  intro k e
  rcases h.2 with ⟨rfl, _⟩ | ⟨g, cap, cur, rfl, hb, _⟩
  · cases e
  · cases e; exact hb
theorem own_slice {w : World} {B : Nat} {v : Value} {l : List Int} (h : Owns w B v l) : ∃ g cap, v = .slice g l.length cap := by
  rcases h.2 with ⟨rfl, hl⟩ | ⟨g, cap, cur, rfl, hb, _⟩
  · rw [hl]; exact ⟨_, _, rfl⟩
  · exact ⟨_, _, rfl⟩
theorem owns_drewN {w : World} {B : Nat} {v : Value} {l : List Int} (h : Owns w B v l) (n : Nat) : Owns (w.drewN n) B v l := h
end Go.Proofs.Ytfilndgbgdnpiaa.df
