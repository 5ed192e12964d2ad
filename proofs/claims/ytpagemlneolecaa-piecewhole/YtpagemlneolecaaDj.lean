/-
  Contracts over this program: the document's Ends and Longest (fretsawref08), Ints (fretsawref07), short.
-/
import Derived.Test.YtpagemlneolecaaDe
import Derived.OwnWalk
import Derived.Test.YtpagemlneolecaaDi
import Derived.RangeFuncNested
import Derived.RangeFuncBound
import Derived.RangeFuncCalls
import Derived.RangeFuncLeaves
import Derived.RangeFuncBox
import Derived.Shelf.Abstract
import Derived.Shelf.RegionOpen
import Derived.OwnWalkIn
import Derived.TacticsInMore
import Derived.LoopNIn
import Derived.LoopIn
import Derived.Sort.QuietIn
import Derived.Maps.AppendAt
import Derived.Laws.OwnMore
namespace Go.Proofs.Ytpagemlneolecaa.df
open Go.RowKit Go.Shelf
set_option linter.unusedVariables false

abbrev Owns (w : World) (B : Nat) (v : Value) (l : List Int) : Prop := w.ownsRow B 3 1 v l.length (l.map (Value.int .i64))
theorem wpList_append_int {ops : Array Oper} {rest : List Oper} {o : Oper} {a : Act} {w : World} {Q : Exit → Act → World → Prop} (hgd : o.guard = none) (s x : Operand)
    (ho : o.op = Op.call { callee := Callee.builtin Builtin.append, args := #[s, x], argTypes := #[27, 27] }) (B : Nat) (v : Value) (l : List Int) (y : Int) (g : Nat)
    (hs : a.eval s = v) (hx : a.eval x = .slice (some ⟨g, 0, none⟩) 1 1) (hown : Owns w B v l) (hc : w.cell? ⟨g, 0, none⟩ = some (.int .i64 y)) (hl : l.length ≤ 1000000000001) (hB : B ≤ w.heap.size)
    (hK : ∀ g' cap' w', Owns w' B (.slice (some ⟨g', 0, none⟩) (l.length + 1) cap') (l ++ [y]) → w.grownBy w' v.ownBlock → wpList Try.prog ops Q rest (a.put o.dst (.slice (some ⟨g', 0, none⟩) (l.length + 1) cap')) w') : wpList Try.prog ops Q (o :: rest) a w := by
  obtain ⟨i0, hi, hz0, hz1, hz2⟩ := info_parts info3
  refine wpList_append_own w hgd s x 27 ho B 3 i0 (.int .i64 0) 1 8 Try.underlying27 hi hz0 hz1 hz2 rfl (by decide) v l.length _ hs hown ⟨g, 0, none⟩ 1 1 [.int .i64 y] hx rfl (fun j u hu => ?_) (by simp [Value.oneCell']) (by unfold maxLen; omega) (by omega) hB ?_
  · rcases j with _ | j
    · simp at hu
      subst hu
      simpa [Addr.add] using hc
    · simp at hu
  · intro v' w' hown' hgrow _
    obtain ⟨g', cap', rfl⟩ := ownsRow_succ hown'
    refine hK g' cap' w' ?_ hgrow
    simpa [Owns] using hown'
theorem own_ge {w : World} {B : Nat} {v : Value} {l : List Int} (h : Owns w B v l) : ∀ k, v.ownBlock = some k → B ≤ k := by
  intro k e
  rcases h.2 with ⟨rfl, _⟩ | ⟨g, cap, cur, rfl, hb, _⟩
  · cases e
  · cases e; exact hb
theorem own_slice {w : World} {B : Nat} {v : Value} {l : List Int} (h : Owns w B v l) : ∃ g cap, v = .slice g l.length cap := by
  rcases h.2 with ⟨rfl, hl⟩ | ⟨g, cap, cur, rfl, hb, _⟩
  · rw [hl]; exact ⟨_, _, rfl⟩
  · exact ⟨_, _, rfl⟩
theorem owns_drewN {w : World} {B : Nat} {v : Value} {l : List Int} (h : Owns w B v l) (n : Nat) : Owns (w.drewN n) B v l := h
set_option maxRecDepth 100000 in
set_option maxHeartbeats 2000000 in
theorem rends_any (d : Dfa) (s : ByteArray) (at' : Nat) (hr : right d = true) (hat : at' ≤ s.size) (hs : s.size ≤ 1000000000000) : EdIs 40 d s at' := by
  intro cs o cap ao acap w hD
  have hok := ok_of d hr
  have hw8 := hD.size
  have b0 := dbox_new w cs
  have HB0 := below_alloc w (.cells cs 26)
  have hn1 := hok.one
  have hn4 := hok.most
  have hna := hok.accs
  have hafit := hD.accs.fit
  have hatop := hD.accs.top
  have hfit := hD.rows.fit
  have htop := hD.rows.top
  have HOK : Hid (Ok d) := hok
  have HD : Hid (DAt (In (w.alloc (.cells cs 26))) (w.alloc (.cells cs 26)) d cs o cap ao acap) := hD.later HB0
  have HL : Hid ((ends d s (s.size - at') 0 at').length ≤ s.size + 1) := Nat.le_trans (ends_len _ _ _ _ _) (by omega)
  have e0 : endsOf d s at' = ends d s (s.size - at') 0 at' := by unfold endsOf; rw [if_pos ⟨hr, by omega, by omega⟩]; simp
  rw [e0]
  clear hok hD e0
  obtain ⟨full, hfull⟩ : ∃ full, full = ends d s (s.size - at') 0 at' := ⟨_, rfl⟩
  have HI : Hid (full = [] ++ ends d s (s.size - at') (0 : Int) at') := hfull
  rw [← hfull] at HL ⊢
  clear hfull
  go_enter Try.func40, Try.ntmps40
  go_wp2_with (fail)
  have hw1s : (w.alloc (.cells cs 26)).heap.size = w.heap.size + 1 := by simp
  have HBx : Hid (∀ W, Below (w.heap.size + 1) (w.alloc (.cells cs 26)) W → DBox W w.heap.size cs) := fun W hW => (hW.block _ (by omega)).trans b0
  have HDx : Hid (∀ W, Below (w.heap.size + 1) (w.alloc (.cells cs 26)) W → DAt (In (w.alloc (.cells cs 26))) W d cs o cap ao acap) := fun W hW => HD.out.carry (fun b hb => hW.block b (by unfold In at hb; omega)) (fun _ => id)
  have HBf : Hid (∀ W, Below (w.heap.size + 1) (w.alloc (.cells cs 26)) W → Below w.heap.size w W) := fun W hW => chain HB0 (by rw [hw1s]; exact hW)
  have hst : Owns ((w.alloc (.cells cs 26)).alloc (.cells #[] 3)) (w.heap.size + 1) (.slice (some ⟨w.heap.size + 1, 0, none⟩) 0 0) [] := by
    refine ⟨rfl, .inr ⟨w.heap.size + 1, 0, #[], rfl, Nat.le_refl _, ?_, Nat.le_refl _, Nat.zero_le _, rfl, rfl⟩⟩
    have := World.alloc_heap_new (w.alloc (.cells cs 26)) (.cells #[] 3)
    rwa [hw1s] at this
  go_loopw [2, 7, 8] (fun y v x wr => ∃ (q t : Nat) (pre : List Int), x = .int .i64 q ∧ y = .int .i64 t ∧ q < d.next.length ∧ t ≤ s.size ∧ Hid (full = pre ++ ends d s (s.size - t) q t) ∧ Owns wr (w.heap.size + 1) v pre ∧ Below (w.heap.size + 1) (w.alloc (.cells cs 26)) wr) (fun y _ _ _ => s.size + 1 - (intOf y).toNat)
  case atStart => exact ⟨0, at', [], rfl, rfl, by omega, hat, HI, hst, (Below.refl _ _).alloc (by omega) _⟩
  case round =>
    obtain ⟨q, t, pre, rfl, rfl, hq, ht, HE, hrow, hB⟩ := hrel
    have hpl : pre.length ≤ 1000000000001 := by have := HL.out; rw [HE.out, List.length_append] at this; omega
    have hrow0 := hrow
    have kb := HBx.out wr hB
    have kx := kb.ac HD.out
    have ky := kb.nx HD.out
    obtain ⟨ab, aoff, rfl, hpa, hca⟩ := acc_at (HDx.out wr hB) q (by omega)
    obtain ⟨gv, cv, rfl⟩ := own_slice hrow
    clear kb b0
    cases hacc : acpt d q with
    | true =>
      rw [hacc] at hca
      have hh := here_yes d q t hacc
      by_cases htt : s.size ≤ t
      · have HF : Hid (full = pre ++ [(t : Int)]) := by show _ = _; rw [HE.out, ends_end d s q t (by omega), hh]
        clear HE hh
        go_wp2_with (at_builtin; refine wpList_append_int rfl _ _ rfl (w.heap.size + 1) _ pre (t : Int) wr.heap.size rfl rfl (hrow.alloc _) (by simp) (by omega) (by have := hB.size; simp at this; simp; omega) ?_; intro g' cap' w2 hown2 hgr2; clear hrow; have hB2 : Below (w.heap.size + 1) (w.alloc (.cells cs 26)) w2 := (hB.alloc (by have := hB.size; simp at this; omega) _).grown hgr2 (by have := hB.size; simp at this; simp; omega) (own_ge hrow0); have kb2 := HBx.out w2 hB2; have kx2 := kb2.ac HD.out; have ky2 := kb2.nx HD.out)
        go_ret
        exact ⟨_, rfl, by rw [HF.out]; exact ints_of_owns hown2, HBf.out _ hB2⟩
      · have htt2 : t < s.size := by omega
        have HF : Hid (full = (pre ++ [(t : Int)]) ++ ends d s (s.size - (t + 1)) (nxt d q (d.cls s[t].toNat)) (t + 1)) := by show _ = _; rw [HE.out, ends_more d s q t htt2, hh, List.append_assoc]
        clear HE hh
        go_wp2_with (at_builtin; refine wpList_append_int rfl _ _ rfl (w.heap.size + 1) _ pre (t : Int) wr.heap.size rfl rfl (hrow.alloc _) (by simp) (by omega) (by have := hB.size; simp at this; simp; omega) ?_; intro g' cap' w2 hown2 hgr2; clear hrow; have hB2 : Below (w.heap.size + 1) (w.alloc (.cells cs 26)) w2 := (hB.alloc (by have := hB.size; simp at this; omega) _).grown hgr2 (by have := hB.size; simp at this; simp; omega) (own_ge hrow0); have kb2 := HBx.out w2 hB2; have kx2 := kb2.ac HD.out; have ky2 := kb2.nx HD.out)
        have hcw := HOK.out.cl s[t].toNat (UInt8.toNat_lt _)
        have hno := nxt_ok HOK.out q _ hq hcw
        have D2 := HDx.out _ hB2
        have j0 := kb2.cl D2 s[t].toNat (UInt8.toNat_lt _)
        have h8 := D2.c8 s[t].toNat
        obtain ⟨b, off, b', off', ci, e1, hc1, hw1, hw2, hc2⟩ := nxt_at D2 HOK.out q _ hq hcw
        subst e1
        have hb8 : s[t].toNat < 256 := UInt8.toNat_lt _
        clear D2 HBx HDx
        generalize width d = k at *
        go_quiet (fail)
        by_cases hneg : nxt d q (d.cls s[t].toNat) < 0
        · have HG : Hid (full = pre ++ [(t : Int)]) := by show _ = _; rw [HF.out, ends_neg d s _ _ _ hneg, List.append_nil]
          have g1 : (nxt d q (d.cls s[t].toNat) == -1) = true := beq_iff_eq.2 (by omega)
          clear HF
          generalize nxt d q (d.cls s[t].toNat) = z at *
          go_wp2_with (fail)
          go_ret
          exact ⟨_, rfl, by rw [HG.out]; exact ints_of_owns (owns_drewN hown2 _), below_drewN (HBf.out _ hB2) _⟩
        · have g1 : (nxt d q (d.cls s[t].toNat) == -1) = false := beq_eq_false_iff_ne.2 (by omega)
          obtain ⟨z, hz⟩ : ∃ z : Nat, nxt d q (d.cls s[t].toNat) = (z : Int) := ⟨(nxt d q (d.cls s[t].toNat)).toNat, by omega⟩
          rw [hz] at HF hno g1 hc2 ⊢
          clear hz hneg
          go_wp2_with (fail)
          go_roundw
          case rel => exact ⟨z, t + 1, _, rfl, by go_num, by omega, by omega, HF, owns_drewN hown2 _, below_drewN hB2 _⟩
          case measure => simp [intOf]; omega
    | false =>
      rw [hacc] at hca
      have hh := here_no d q t hacc
      by_cases htt : s.size ≤ t
      · have HF : Hid (full = pre) := by show _ = _; rw [HE.out, ends_end d s q t (by omega), hh, List.append_nil]
        clear HE hh
        go_wp2_with (fail)
        go_ret
        exact ⟨_, rfl, by rw [HF.out]; exact ints_of_owns hrow0, HBf.out _ hB⟩
      · have htt2 : t < s.size := by omega
        have HF : Hid (full = pre ++ ends d s (s.size - (t + 1)) (nxt d q (d.cls s[t].toNat)) (t + 1)) := by show _ = _; rw [HE.out, ends_more d s q t htt2, hh, List.nil_append]
        clear HE hh
        have hown2 := hrow0
        have hB2 := hB
        have kb2 := HBx.out _ hB
        go_wp2_with (fail)
        have hcw := HOK.out.cl s[t].toNat (UInt8.toNat_lt _)
        have hno := nxt_ok HOK.out q _ hq hcw
        have D2 := HDx.out _ hB2
        have j0 := kb2.cl D2 s[t].toNat (UInt8.toNat_lt _)
        have h8 := D2.c8 s[t].toNat
        obtain ⟨b, off, b', off', ci, e1, hc1, hw1, hw2, hc2⟩ := nxt_at D2 HOK.out q _ hq hcw
        subst e1
        have hb8 : s[t].toNat < 256 := UInt8.toNat_lt _
        clear D2 HBx HDx
        generalize width d = k at *
        go_quiet (fail)
        by_cases hneg : nxt d q (d.cls s[t].toNat) < 0
        · have HG : Hid (full = pre) := by show _ = _; rw [HF.out, ends_neg d s _ _ _ hneg, List.append_nil]
          have g1 : (nxt d q (d.cls s[t].toNat) == -1) = true := beq_iff_eq.2 (by omega)
          clear HF
          generalize nxt d q (d.cls s[t].toNat) = z at *
          go_wp2_with (fail)
          go_ret
          exact ⟨_, rfl, by rw [HG.out]; exact ints_of_owns (owns_drewN hown2 _), below_drewN (HBf.out _ hB2) _⟩
        · have g1 : (nxt d q (d.cls s[t].toNat) == -1) = false := beq_eq_false_iff_ne.2 (by omega)
          obtain ⟨z, hz⟩ : ∃ z : Nat, nxt d q (d.cls s[t].toNat) = (z : Int) := ⟨(nxt d q (d.cls s[t].toNat)).toNat, by omega⟩
          rw [hz] at HF hno g1 hc2 ⊢
          clear hz hneg
          go_wp2_with (fail)
          go_roundw
          case rel => exact ⟨z, t + 1, _, rfl, by go_num, by omega, by omega, HF, owns_drewN hown2 _, below_drewN hB2 _⟩
          case measure => simp [intOf]; omega
end Go.Proofs.Ytpagemlneolecaa.df
