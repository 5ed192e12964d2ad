/-
  Over this program: the iterator that hands on the places of Ends goes on (dfa.taken's closure).
-/
import Derived.Test.YtkdkibnjfgcppaaKDg
import Derived.Test.YtkdkibnjfgcppaaKDf
import Derived.RangeFuncNested
import Derived.RangeFuncBound
import Derived.RangeFuncCalls
import Derived.RangeFuncLeaves
import Derived.RangeFuncBox
import Derived.Shelf.Abstract
import Derived.Shelf.RegionOpen
import Derived.OwnWalkIn
import Derived.TacticsInMore
import Derived.LoopNIn
import Derived.LoopIn
import Derived.Sort.QuietIn
namespace Go.Proofs.Ytkdkibnjfgcppaa.df
open Go.RowKit Go.Shelf
set_option linter.unusedVariables false
attribute [local go_sem] Oper.semAt_some

theorem ends_end (d : Dfa) (s : ByteArray) (q t : Nat) (h : t = s.size) : ends d s (s.size - t) (q : Int) t = here d q t := by
  rw [h, Nat.sub_self, ends_zero]
theorem ends_more (d : Dfa) (s : ByteArray) (q t : Nat) (h : t < s.size) : ends d s (s.size - t) (q : Int) t = here d q t ++ ends d s (s.size - (t + 1)) (nxt d q (d.cls s[t].toNat)) (t + 1) := by
  have e : s.size - t = (s.size - (t + 1)) + 1 := by omega
  rw [e, ends_succ, byte_eq s t h]
theorem here_yes (d : Dfa) (q t : Nat) (h : acpt d q = true) : here d q t = [(t : Int)] := by unfold here; rw [h]; rfl
theorem here_no (d : Dfa) (q t : Nat) (h : acpt d q = false) : here d q t = [] := by unfold here; rw [h]; rfl
set_option maxRecDepth 100000 in
set_option maxHeartbeats 4000000 in
theorem taken1_yes (P : Nat → Prop) (l gd gs ga : Nat) (d : Dfa) (cs : Array Value) (s : ByteArray) (at' : Nat) (o ao : Option Addr) (cap acap : Nat) (J Jx : List Int → World → Prop)
    (hr : right d = true) (hat : at' ≤ s.size) (hs : s.size ≤ 1000000000000)
    (hY : ∀ pre x W, J pre W → pre.length < s.size + 1 → YieldAt Fence.wide 4 Try.prog l #[.int .i64 x] W fun e W' =>
      (e = .returned (.bool true) ∧ J (pre ++ [x]) W' ∧ Kp P W W') ∨ (e = .returned (.bool false) ∧ Jx (pre ++ [x]) W'))
    (W : World) (hM : Mem P W d cs s gd gs o cap ao acap) (hA : Boxed W ga 3 (.int .i64 at')) (hJ : AbidesFrom W.heap.size J) (h0 : J [] W) :
    CallsIn Fence.wide 5 Try.prog 44 #[.func (.yield l) #[] #[], .pointer (some ⟨gd, 0, none⟩), .pointer (some ⟨ga, 0, none⟩), .pointer (some ⟨gs, 0, none⟩)] W fun e W' => (∃ v, e = .returned v) ∧
      ((∃ ys, ys = ends d s (s.size - at') 0 at' ∧ J ys W') ∨ (∃ pre, pre <+: ends d s (s.size - at') 0 at' ∧ Jx pre W')) := by
  have hrt := right_any d _ rfl
  unfold RtIs at hrt
  have hok := ok_of d hr
  have hD : DAt (In W) W d cs o cap ao acap := hM.dt.carry (fun _ _ => rfl) hM.lt
  have hcall := fun w => hrt cs o cap ao acap w
  rw [hr] at hcall
  have hlt := hA.lt
  have hlt2 := hM.sx.lt
  have hc2 := hA.cell
  have hc3 := hM.sx.cell
  have bx := hM.bx
  have hw8 := hM.dt.size
  have hn1 := hok.one
  have hn4 := hok.most
  have hna := hok.accs
  have hafit := hM.dt.accs.fit
  have hatop := hM.dt.accs.top
  have hfit := hM.dt.rows.fit
  have htop := hM.dt.rows.top
  have HM : Hid (Mem P W d cs s gd gs o cap ao acap) := hM
  have HOK : Hid (Ok d) := hok
  have HL : Hid ((ends d s (s.size - at') 0 at').length ≤ s.size + 1) := Nat.le_trans (ends_len _ _ _ _ _) (by omega)
  clear hM hrt hok
  obtain ⟨full, hfull⟩ : ∃ full, full = ends d s (s.size - at') 0 at' := ⟨_, rfl⟩
  have HI : Hid (full = [] ++ ends d s (s.size - at') (0 : Int) at') := hfull
  rw [← hfull] at HL ⊢
  clear hfull
  have f1 : decide ((at' : Int) < 0) = false := decide_eq_false (by omega)
  have f2 : decide (s.size < at') = false := decide_eq_false (by omega)
  refine callsIn_of_wp Try.func44 rfl trivial ?_ rfl
  simp only [Try.ntmps44, List.size_toArray, List.length_cons, List.length_nil, Nat.reduceAdd, Nat.reduceSub, Array.replicate_succ, Array.replicate_zero, List.push_toArray, List.append_toArray, List.nil_append, List.cons_append]
  gi_wp2_with (first | (refine wpListIn_load_row rfl 26 (.tmp 1) rfl gd rfl 26 cs (0, 0) _ bx Try.underlying26 rfl (info26 cs hw8) ?_) | (refine ⟨trivial, ?_⟩; gi_at_call 23; refine (callsIn_wide.2 (hcall _ hD)).mono ?_; rintro e w1 ⟨rfl, b1⟩; have d2 := (b1.cell (p := ⟨ga, 0, none⟩) hlt).trans hc2; have d3 := (b1.cell (p := ⟨gs, 0, none⟩) hlt2).trans hc3))
  gi_loopw [5, 6] (fun y z wr => ∃ (st : Int) (t : Nat) (pre : List Int), y = .int .i64 st ∧ z = .int .i64 t ∧ -1 ≤ st ∧ st < (d.next.length : Int) ∧ (0 ≤ st → t ≤ s.size) ∧ Hid (full = pre ++ ends d s (s.size - t) st t) ∧ J pre wr ∧ Hid (Mem P wr d cs s gd gs o cap ao acap))
    (fun _ z _ => s.size + 1 - (intOf z).toNat)
  case atStart => exact ⟨0, at', [], rfl, rfl, by omega, by omega, fun _ => hat, HI, hJ _ _ _ none h0 (grown_of b1) (fun r e => by cases e), HM.out.carry (Kp.below b1 b1.size HM.out.lt)⟩
  case round =>
    obtain ⟨st, t, pre, rfl, rfl, hs1, hs2, ht, HE, hJs, HMr⟩ := hrel
    clear hc2 hc3 bx d2 d3 hlt hlt2 hcall hD
    by_cases hneg : st = -1
    · subst hneg
      have hex : pre = full := by have := HE.out; rw [ends_neg d s _ (-1) _ (by omega), List.append_nil] at this; exact this.symm
      gi_wp2
      go_end0
      exact ⟨⟨_, rfl⟩, .inl ⟨pre, hex, hJs⟩⟩
    · obtain ⟨q, rfl⟩ : ∃ q : Nat, st = (q : Int) := ⟨st.toNat, by omega⟩
      have hq : q < d.next.length := by omega
      have htl : t ≤ s.size := ht (by omega)
      have g1 : ((q : Int) != -1) = true := bne_iff_ne.2 hneg
      have g2 : ((q : Int) == -1) = false := beq_eq_false_iff_ne.2 hneg
      obtain ⟨ab, aoff, rfl, hpa, hca⟩ := acc_at HMr.out.dt q (by omega)
      have kx := HMr.out.bx.ac HMr.out.dt
      have ky := HMr.out.bx.nx HMr.out.dt
      have ks := HMr.out.sx.cell
      clear hneg hs1 ht
      cases hacc : acpt d q with
      | true =>
        rw [hacc] at hca
        have hh := here_yes d q t hacc
        by_cases htt : t = s.size
        · have HF : Hid (full = pre ++ [(t : Int)]) := by show _ = _; rw [HE.out, ends_end d s q t htt, hh]
          obtain ⟨fn, tmps, assign, body, hy, hR⟩ := hY pre t wr hJs (by have := HL.out; rw [HF.out, List.length_append] at this; simp at this; omega)
          have z1 : ((t : Int) == (s.size : Int)) = true := beq_iff_eq.2 (by omega)
          clear HE hh htt
          gi_wp2
          refine hR.mono ?_
          rintro e W3 (⟨rfl, hJ3, hk3⟩ | ⟨rfl, hJx3⟩)
          · have k3 := (HMr.out.carry hk3).sx.cell
            gi_wp2
            refine bodyPost_ret (results_none rfl _ _ _) rfl ?_
            exact ⟨⟨_, rfl⟩, .inl ⟨_, HF.out.symm, hJ3⟩⟩
          · gi_wp2
            refine bodyPost_ret (results_none rfl _ _ _) rfl ?_
            exact ⟨⟨_, rfl⟩, .inr ⟨_, ⟨[], by rw [List.append_nil]; exact HF.out.symm⟩, hJx3⟩⟩
        · have htt2 : t < s.size := by omega
          have HF : Hid (full = (pre ++ [(t : Int)]) ++ ends d s (s.size - (t + 1)) (nxt d q (d.cls s[t].toNat)) (t + 1)) := by show _ = _; rw [HE.out, ends_more d s q t htt2, hh, List.append_assoc]
          obtain ⟨fn, tmps, assign, body, hy, hR⟩ := hY pre t wr hJs (by have := HL.out; rw [HF.out, List.length_append, List.length_append] at this; simp at this; omega)
          have z1 : ((t : Int) == (s.size : Int)) = false := beq_eq_false_iff_ne.2 (by omega)
          have hcw := HOK.out.cl s[t].toNat (UInt8.toNat_lt _)
          have hno := nxt_ok HOK.out q _ hq hcw
          clear HE hh
          gi_wp2
          refine hR.mono ?_
          rintro e W3 (⟨rfl, hJ3, hk3⟩ | ⟨rfl, hJx3⟩)
          · have M3 := HMr.out.carry hk3
            have k3 := M3.sx.cell
            have j0 := M3.bx.cl M3.dt s[t].toNat (UInt8.toNat_lt _)
            have j1 := M3.bx.nx M3.dt
            have h8 := M3.dt.c8 s[t].toNat
            obtain ⟨b, off, b', off', ci, e1, hc1, hw1, hw2, hc2⟩ := nxt_at M3.dt HOK.out q _ hq hcw
            subst e1
            have MM : Hid (Mem P W3 d cs s gd gs (some ⟨b, off, none⟩) cap (some ⟨ab, aoff, none⟩) acap) := M3
            clear M3
            have hb8 : s[t].toNat < 256 := UInt8.toNat_lt _
            generalize width d = k at *
            gi_wp2
            gi_quiet (fail)
            gi_wp2
            go_roundw
            case rel => exact ⟨_, t + 1, _, rfl, by go_num, by omega, by omega, fun _ => by omega, HF, hJ _ _ _ none hJ3 (grown_drewN _ _) (fun r e => by cases e), MM.out.carry ⟨Nat.le_refl _, fun _ _ => rfl⟩⟩
            case measure => simp [intOf]; omega
          · gi_wp2
            refine bodyPost_ret (results_none rfl _ _ _) rfl ?_
            exact ⟨⟨_, rfl⟩, .inr ⟨_, ⟨_, HF.out.symm⟩, hJx3⟩⟩
      | false =>
        rw [hacc] at hca
        have hh := here_no d q t hacc
        by_cases htt : t = s.size
        · have HF : Hid (full = pre) := by show _ = _; rw [HE.out, ends_end d s q t htt, hh, List.append_nil]
          have z1 : ((t : Int) == (s.size : Int)) = true := beq_iff_eq.2 (by omega)
          clear HE hh htt
          gi_wp2
          refine ⟨fun _ h => (by cases h), ?_⟩
          gi_wp2
          refine bodyPost_ret (results_none rfl _ _ _) rfl ?_
          exact ⟨⟨_, rfl⟩, .inl ⟨_, HF.out.symm, hJs⟩⟩
        · have htt2 : t < s.size := by omega
          have HF : Hid (full = pre ++ ends d s (s.size - (t + 1)) (nxt d q (d.cls s[t].toNat)) (t + 1)) := by show _ = _; rw [HE.out, ends_more d s q t htt2, hh, List.nil_append]
          have z1 : ((t : Int) == (s.size : Int)) = false := beq_eq_false_iff_ne.2 (by omega)
          have hcw := HOK.out.cl s[t].toNat (UInt8.toNat_lt _)
          have hno := nxt_ok HOK.out q _ hq hcw
          have M3 := HMr.out
          have j0 := M3.bx.cl M3.dt s[t].toNat (UInt8.toNat_lt _)
          have h8 := M3.dt.c8 s[t].toNat
          obtain ⟨b, off, b', off', ci, e1, hc1, hw1, hw2, hc2⟩ := nxt_at M3.dt HOK.out q _ hq hcw
          subst e1
          have MM : Hid (Mem P wr d cs s gd gs (some ⟨b, off, none⟩) cap (some ⟨ab, aoff, none⟩) acap) := M3
          clear M3 HE hh
          have hb8 : s[t].toNat < 256 := UInt8.toNat_lt _
          generalize width d = k at *
          gi_wp2
          refine ⟨fun _ h => (by cases h), ?_⟩
          gi_wp2
          gi_quiet (fail)
          gi_wp2
          go_roundw
          case rel => exact ⟨_, t + 1, _, rfl, by go_num, by omega, by omega, fun _ => by omega, HF, hJ _ _ _ none hJs (grown_drewN _ _) (fun r e => by cases e), MM.out.carry ⟨Nat.le_refl _, fun _ _ => rfl⟩⟩
          case measure => simp [intOf]; omega
end Go.Proofs.Ytkdkibnjfgcppaa.df
