/-
  For every nfa, every text and every place the law DfaTakes of package fretsawlaw08 returns true (a dfa is built or refused as the document says; each of its states is reached; it takes just what the nfa takes), and the arguments read as before. No condition.
-/
import Derived.Test.YthknhbmibmndoaaKCb
import Derived.Test.YthknhbmibmndoaaKDq
import Derived.Test.YthknhbmibmndoaaKNx
import Derived.Test.YthknhbmibmndoaaKNo
import Derived.Test.YthknhbmibmndoaaKDk
import Derived.Test.YthknhbmibmndoaaKRg
import Derived.WalkKit
import Derived.ProofKit
import Derived.OpenShut
import Derived.ChangeOld
import Derived.SizedLaws
import Derived.ShutString
import Derived.Deep.RegionHeld3
import Derived.Below
namespace Go.Proofs.Ythknhbmibmndoaa.dfaTakes
open Go.ChangeShapes Go.WideShapes Go.ChangeAt Go.RowKit
open Go.ChangeMaps (open_string shut_string)
open nf (Nfa Ed Eds nfaV Box Rt IRow)
open df (Row iv In IntsV Owns DAt DBox)
open bd (z37 z37_size zero37 Built)
set_option linter.unusedVariables false

theorem own : ownKnob Try.prog.godebug = none := by kernel_rfl
theorem laidOut : laidOutB Try.prog = true := by kernel_rfl

def Kept (w1 : World) (W : World) : Prop := Below w1.heap.size w1 W
theorem Kept.drew {w1 W : World} (h : Kept w1 W) : Kept w1 W.drew := Below.drew h
theorem few_any (n s e : Int) (o : Option Addr) (m cap : Nat) (w : World) (hc : m ≤ cap) (ht : cap ≤ 9223372036854775807) : Calls Try.prog 27 #[nfaV n s e o m cap] w fun e w' => e = .returned (.bool (decide (n ≤ 40) && decide ((m : Int) ≤ 120))) ∧ Below w.heap.size w w' := by
  by_cases h1 : n ≤ 40
  · have f1 : decide (n ≤ 40) = true := decide_eq_true h1
    rw [f1, Bool.true_and]
    clear h1
    go_enter Try.func27, Try.ntmps27
    go_wp2
    go_ret
    exact ⟨rfl, nf.below_alloc _ _⟩
  · have f1 : decide (n ≤ 40) = false := decide_eq_false h1
    rw [f1, Bool.false_and]
    clear h1
    go_enter Try.func27, Try.ntmps27
    go_wp2
    go_ret
    exact ⟨rfl, nf.below_alloc _ _⟩
theorem byte_same (s : ByteArray) : df.byteAt s = nf.dOf s := by
  funext i
  unfold df.byteAt nf.dOf
  by_cases h : i < s.size
  · rw [dif_pos h, getElem?_pos s i h]; rfl
  · rw [dif_neg h, getElem?_neg s i h]; rfl
/-- a dfa is put into a cell of its own -/
theorem put37 (w : World) (cs : Array Value) (hs : cs.size = 258) : Below w.heap.size w ((w.alloc (.cells z37 37)).setRow w.heap.size cs) ∧ DBox ((w.alloc (.cells z37 37)).setRow w.heap.size cs) w.heap.size cs :=
  ⟨below_setRow (nf.below_alloc _ _) (Nat.le_refl _) _, setRow_heap _ _ _ _ _ _ (heap_alloc_new w _)⟩
theorem z256 {w : World} {g : Nat} (h : DBox w g z37) : w.cell? ⟨g, 256, none⟩ = some (.slice none 0 0) := by rw [Lib.cell_of_heap h]; kernel_rfl
theorem one_of {P : Nat → Prop} {w : World} {d : df.Dfa} {cs : Array Value} {o ao : Option Addr} {cap acap : Nat} (h : DAt P w d cs o cap ao acap) : cs.all (·.oneCell') = true := by
  rw [Array.all_eq_true]
  intro i hi
  have hs := h.size
  have hv : cs[i]? = some cs[i] := Array.getElem?_eq_getElem hi
  by_cases h1 : i < 256
  · have := h.cl i h1
    rw [hv] at this
    rw [Option.some.inj this]; rfl
  · by_cases h2 : i = 256
    · subst h2
      have := h.nx
      rw [hv] at this
      rw [Option.some.inj this]; rfl
    · have h3 : i = 257 := by omega
      subst h3
      have := h.ac
      rw [hv] at this
      rw [Option.some.inj this]; rfl
set_option maxHeartbeats 4000000 in
set_option maxRecDepth 100000 in
theorem walk_no {x : Nfa} {o : Option Addr} {cap : Nat} {w : World} (hE : Eds w o cap x.edges ∧ ∀ e ∈ x.edges, nf.Fits e) {s : ByteArray} {at' : Int} (hr : nf.right x = false) :
    Calls Try.prog 7 #[nfaV x.n x.s x.e o x.edges.length cap, .string s, .int .i64 at'] w fun e w' => e = .returned (.bool true) ∧ Below w.heap.size w w' := by
  have hz := zero37
  have hcap := hE.1.fit
  have htop := hE.1.top
  obtain ⟨w1, HW1⟩ : ∃ w1, Hid (w1 = w.alloc (.cells #[.int .i64 x.n, .int .i64 x.s, .int .i64 x.e, .slice o x.edges.length cap] 24)) := ⟨_, rfl⟩
  have HB1 := (show Hid (Below w.heap.size w w1) from by show Below _ _ _; rw [HW1.out]; exact nf.below_alloc _ _)
  have HX1 := (show Hid (Box w1 w.heap.size x.n x.s x.e o x.edges.length cap) from by show Box _ _ _ _ _ _ _ _; rw [HW1.out]; exact nf.box_new w _ _ _ _ _ _)
  have h25 := bd.build_no x hr o cap w1 (hE.1.later HB1.out)
  unfold bd.NoIs at h25
  have HP := (show Hid (∀ w2 : World, Below w1.heap.size w1 w2 → ∀ w3, w3 = (w2.alloc (.cells z37 37)).setRow w2.heap.size z37 → Below w.heap.size w w3 ∧ Box w3 w.heap.size x.n x.s x.e o x.edges.length cap ∧ DBox w3 w2.heap.size z37 ∧ Calls Try.prog 10 #[nfaV x.n x.s x.e o x.edges.length cap] w3 fun e w' => e = .returned (.bool false) ∧ Below w3.heap.size w3 w') from by
    rintro w2 b2 w3 rfl
    obtain ⟨p1, p2⟩ := put37 w2 z37 z37_size
    exact ⟨st.chain HB1.out (st.chain b2 p1), HX1.out.later (st.chain b2 p1), p2, nf.rright_any x false hr.symm o cap _ (hE.1.later (st.chain HB1.out (st.chain b2 p1)))⟩)
  clear hE hr
  go_enter Try.func7, Try.ntmps7
  go_wp2_with (first | (go_at_call 25; rw [← HW1.out]; refine h25.mono ?_; rintro ev w2 ⟨rfl, b2⟩; obtain ⟨w3, hw3⟩ : ∃ w3, w3 = (w2.alloc (.cells z37 37)).setRow w2.heap.size z37 := ⟨_, rfl⟩; obtain ⟨p1, p2, p3, h10⟩ := HP.out w2 b2 w3 hw3; have HW3 := (show Hid _ from hw3); have HB3 := (show Hid _ from p1); have q0 := p2.c0; have q1 := p2.c1; have q2 := p2.c2; have q3 := p2.c3; have HD3 := (show Hid (DBox w3 w2.heap.size z37) from p3); clear b2 hw3 p1 p2 p3) | (refine wpList_store_row (by rfl) 37 (.tmp 7) (.tmp 14) (by rfl) w2.heap.size z37 (by rfl) (by rfl) 37 z37 (heap_alloc_new w2 _) (df.info37 _ z37_size) rfl bd.one37 ?_; rw [← HW3.out]) | (go_at_call 10; refine h10.mono ?_; rintro ev w4 ⟨rfl, b4⟩; have q256 := z256 (df.DBox.later HD3.out b4); have HB4 := (show Hid _ from b4); clear b4))
  go_ret
  exact ⟨rfl, st.chain HB3.out HB4.out⟩
theorem yields_load24 {ops : Array Oper} {S : World → Prop} {op : Oper} {a : Act} (hw : Region.wanted op (yielded ops a.tmps) = true) (x : Operand) (ho : op.op = .load 24 x) (g : Nat) (hx : a.eval x = .pointer (some ⟨g, 0, none⟩)) (n s e : Int) (o : Option Addr) (m cap : Nat) (hS : ∀ W, S W → Box W g n s e o m cap) : YieldsIf Try.prog ops S op (nfaV n s e o m cap) a :=
  .inl ⟨hw, fun w h => by
    unfold execOp
    simp only [ho, hx, Instr.loadAt, Instr.sureAddr, Sem.run_bind, Sem.run_pure, Result.andThen_ok, run_loadVar_row w g 24 24 _ (0, 0) _ (hS w h) Try.underlying24 rfl (by kernel_rfl)]⟩
set_option maxHeartbeats 4000000 in
set_option maxRecDepth 100000 in
theorem walk_yes {x : Nfa} {n e : Nat} (R1 : Rt x n) (hxe : x.e = (e : Int)) {o : Option Addr} {cap : Nat} {w : World} (hE : Eds w o cap x.edges ∧ ∀ e ∈ x.edges, nf.Fits e) {s : ByteArray} (hs : s.size ≤ 140737488351232) {at' : Int} (hr : nf.right x = true) :
    Calls Try.prog 7 #[nfaV x.n x.s x.e o x.edges.length cap, .string s, .int .i64 at'] w fun e w' => e = .returned (.bool true) ∧ Below w.heap.size w w' := by
  have hz := zero37
  have hcap := hE.1.fit
  have htop := hE.1.top
  obtain ⟨w1, HW1⟩ : ∃ w1, Hid (w1 = w.alloc (.cells #[.int .i64 x.n, .int .i64 x.s, .int .i64 x.e, .slice o x.edges.length cap] 24)) := ⟨_, rfl⟩
  have HB1 := (show Hid (Below w.heap.size w w1) from by show Below _ _ _; rw [HW1.out]; exact nf.below_alloc _ _)
  have HX1 := (show Hid (Box w1 w.heap.size x.n x.s x.e o x.edges.length cap) from by show Box _ _ _ _ _ _ _ _; rw [HW1.out]; exact nf.box_new w _ _ _ _ _ _)
  have h25 := bd.build_yes x n e R1 hr hE.2 hxe o cap w1 (hE.1.later HB1.out)
  unfold bd.YesIs at h25
  have HP := (show Hid (∀ (cs : Array Value), cs.size = 258 → ∀ w2 : World, Below w1.heap.size w1 w2 → ∀ w3, w3 = (w2.alloc (.cells z37 37)).setRow w2.heap.size cs → Below w.heap.size w w3 ∧ Below w2.heap.size w2 w3 ∧ Box w3 w.heap.size x.n x.s x.e o x.edges.length cap ∧ DBox w3 w2.heap.size cs ∧ Calls Try.prog 10 #[nfaV x.n x.s x.e o x.edges.length cap] w3 fun e w' => e = .returned (.bool true) ∧ Below w3.heap.size w3 w') from by
    rintro cs hcs w2 b2 w3 rfl
    obtain ⟨p1, p2⟩ := put37 w2 cs hcs
    exact ⟨st.chain HB1.out (st.chain b2 p1), p1, HX1.out.later (st.chain b2 p1), p2, nf.rright_any x true hr.symm o cap _ (hE.1.later (st.chain HB1.out (st.chain b2 p1)))⟩)
  have HE := (show Hid (Eds w o cap x.edges) from hE.1)
  have HFIT := (show Hid (∀ e ∈ x.edges, nf.Fits e) from hE.2)
  have HR1 := (show Hid (Rt x n) from R1)
  clear hE hr R1 hxe
  go_enter Try.func7, Try.ntmps7
  go_wp2_with (fail)
  go_at_call 25
  rw [← HW1.out]
  refine h25.mono ?_
  rintro ev w2 ⟨b2, ⟨rfl, hL⟩ | ⟨L, d, cs, od, dcap, ao, acap, rfl, hB, hL, hD⟩⟩
  · obtain ⟨w3, hw3⟩ : ∃ w3, w3 = (w2.alloc (.cells z37 37)).setRow w2.heap.size z37 := ⟨_, rfl⟩
    obtain ⟨p1, _, p2, p3, h10⟩ := HP.out z37 z37_size w2 b2 w3 hw3
    have HW3 := (show Hid _ from hw3)
    have HB3 := (show Hid _ from p1)
    have q0 := p2.c0
    have q1 := p2.c1
    have q2 := p2.c2
    have q3 := p2.c3
    have HD3 := (show Hid (DBox w3 w2.heap.size z37) from p3)
    clear b2 hw3 p1 p2 p3 hL
    go_wp2_with (first | (refine wpList_store_row (by rfl) 37 (.tmp 7) (.tmp 14) (by rfl) w2.heap.size z37 (by rfl) (by rfl) 37 z37 (heap_alloc_new w2 _) (df.info37 _ z37_size) rfl bd.one37 ?_; rw [← HW3.out]) | (go_at_call 10; refine h10.mono ?_; rintro ev w4 ⟨rfl, b4⟩; have q256 := z256 (df.DBox.later HD3.out b4); have HB4 := (show Hid _ from b4); clear b4))
    go_ret
    exact ⟨rfl, st.chain HB3.out HB4.out⟩
  · have hcs := hD.size
    have hone := one_of hD
    obtain ⟨w3, hw3⟩ : ∃ w3, w3 = (w2.alloc (.cells z37 37)).setRow w2.heap.size cs := ⟨_, rfl⟩
    obtain ⟨p1, p0, p2, p3, h10⟩ := HP.out cs hcs w2 b2 w3 hw3
    have hright := hB.right hL
    have hok := df.ok_of d hright
    have hways : df.Ways d := fun k hk => hB.way k (by rw [← hB.rows]; exact hk)
    have hD3 := hD.later p0
    have HW3 := (show Hid _ from hw3)
    have HB3 := (show Hid (Below w.heap.size w w3) from p1)
    have HBX := (show Hid (Box w3 w.heap.size x.n x.s x.e o x.edges.length cap) from p2)
    have q0 := p2.c0
    have q1 := p2.c1
    have q2 := p2.c2
    have q3 := p2.c3
    have HD3 := (show Hid (DBox w3 w2.heap.size cs) from p3)
    have H20 := (show Hid (∀ W, Kept w3 W → Calls Try.prog 20 #[.agg cs] W fun e w' => e = .returned (.bool true) ∧ Kept w3 w') from fun W h => (df.rright_any d true hright.symm cs od dcap ao acap W (hD3.later h)).mono fun e w' ⟨h1, h2⟩ => ⟨h1, df.chain h h2⟩)
    have H26 := (show Hid (∀ W, Kept w3 W → Calls Try.prog 26 #[.agg cs] W fun e w' => ∃ g, e = .returned (.slice (some ⟨g, 0, none⟩) d.next.length d.next.length) ∧ IRow w' g (List.replicate d.next.length 1) ∧ Kept w3 w') from fun W h => (df.reached_any d hok hways cs od dcap ao acap W (hD3.later h)).mono fun e w' ⟨g, h1, h2, h3⟩ => ⟨g, h1, h2, df.chain h h3⟩)
    have hn4 := hok.most
    obtain ⟨N, HN⟩ : ∃ N, Hid (N = d.next.length) := ⟨_, rfl⟩
    rw [← HN.out] at H26 hn4
    have h18 := df.short_any 18 rfl s 40 (by omega) (by omega)
    have hcut := df.cut_size s 40
    have H27 := (show Hid (∀ W, Kept w3 W → Calls Try.prog 27 #[nfaV x.n x.s x.e o x.edges.length cap] W fun e w' => e = .returned (.bool (decide (x.n ≤ 40) && decide ((x.edges.length : Int) ≤ 120))) ∧ Kept w3 w') from fun W h => (few_any x.n x.s x.e o x.edges.length cap W hcap htop).mono fun e w' ⟨h1, h2⟩ => ⟨h1, df.chain h h2⟩)
    have H21 := (show Hid (∀ W, Kept w3 W → Calls Try.prog 21 #[.agg cs, .string (df.cut s 40), .int .i64 at'] W fun e w' => ∃ vo vc, e = .returned (.slice vo (df.endsOf d (df.cut s 40) at').length vc) ∧ Row (In w') w' iv vo vc (df.endsOf d (df.cut s 40) at') ∧ Kept w3 w') from fun W h => (df.ends_any d (df.cut s 40) at' (by omega) cs od dcap ao acap W (hD3.later h)).mono fun e w' ⟨v, h1, ⟨vo, vc, h2, h3⟩, h4⟩ => ⟨vo, vc, by rw [h1, h2], h3, df.chain h h4⟩)
    have H17 := (show Hid (∀ t : Nat, at' = (t : Int) → t ≤ (df.cut s 40).size → ∀ W, Kept w3 W → Calls Try.prog 17 #[nfaV x.n x.s x.e o x.edges.length cap, .string (df.cut s 40), .int .i64 at'] W fun e w' => ∃ v, e = .returned v ∧ IntsV w' v (df.endsOf d (df.cut s 40) at') ∧ Kept w3 w' ∧ Below W.heap.size W w') from by
      rintro t rfl ht W h
      have hruns := bd.takes_all HR1.out hB hL (df.cut s 40) t ht
      rw [byte_same] at hruns
      have e1 : df.endsOf d (df.cut s 40) (t : Int) = df.ends d (df.cut s 40) ((df.cut s 40).size - t) 0 t := by
        unfold df.endsOf
        rw [if_pos ⟨hright, by omega, by omega⟩, Int.toNat_natCast]
      rw [e1]
      exact (nf.rends_yes x n HR1.out HFIT.out (df.cut s 40) t (by omega) ht _ hruns o cap W (HE.out.later (st.chain HB3.out h))).mono fun e w' ⟨v, h1, h2, h3⟩ => ⟨v, h1, h2, df.chain h h3, h3⟩)
    have h15 := df.ints_any (df.endsOf d (df.cut s 40) at') (df.endsOf d (df.cut s 40) at') true (by simp)
    unfold df.IntsIs at h15
    have H15 := (show Hid _ from h15)
    have k3 : Kept w3 w3 := Below.refl _ _
    clear b2 hw3 p1 p2 p3 p0 hL hD hD3 hB hright hok hways h15 HP h25 HN HFIT HE HR1
    generalize df.cut s 40 = u at *
    generalize df.endsOf d u at' = full at *
    go_wp2_with (first | (refine wpList_store_row (by rfl) 37 (.tmp 7) (.tmp 14) (by rfl) w2.heap.size cs (by rfl) (by rfl) 37 z37 (heap_alloc_new w2 _) (df.info37 _ hcs) (by rw [z37_size, hcs]) hone ?_; rw [← HW3.out]) | (go_at_call 10; refine h10.mono ?_; rintro ev w4 ⟨rfl, b4⟩; have k4 : Kept w3 w4 := b4; clear b4) | (refine wpList_load_row rfl 37 (.tmp 7) rfl w2.heap.size rfl 37 cs (0, 0) _ (by exact df.DBox.later HD3.out k4) Try.underlying37 rfl (df.info37 cs hcs) ?_) | (go_at_call 20; refine (H20.out _ k4).mono ?_; rintro ev w5 ⟨rfl, k5⟩) | (refine wpList_load_row rfl 37 (.tmp 7) rfl w2.heap.size rfl 37 cs (0, 0) _ (by exact df.DBox.later HD3.out k5) Try.underlying37 rfl (df.info37 cs hcs) ?_) | (go_at_call 26; refine (H26.out _ k5).mono ?_; rintro ev w6 ⟨g, rfl, ir, k6⟩; have HIR := (show Hid (IRow w6 g (List.replicate N 1)) from ir); clear ir))
    go_loopw [43] (fun z wr => ∃ i : Nat, z = .int .i64 i ∧ i ≤ N ∧ Hid (Kept w3 wr ∧ IRow wr g (List.replicate N 1))) (fun z _ => N - (intOf z).toNat)
    case atStart => exact ⟨0, rfl, by omega, k6, HIR.out⟩
    case round =>
      obtain ⟨i, rfl, hi, HI⟩ := hrel
      clear HIR k6
      by_cases hend : i < N
      · have hc : wr.cell? ⟨g, i, none⟩ = some (.int .i64 1) := by
          have := HI.out.2.cell i (by simpa using hend)
          rw [this, List.getElem_replicate]
        go_wp2_with (fail)
        go_roundw
        case rel => exact ⟨i + 1, by go_num, by omega, HI⟩
        case measure => simp [intOf]; omega
      · have HK := (show Hid (Kept w3 wr) from HI.out.1)
        have y0 := (HBX.out.later HI.out.1).c0
        have y1 := (HBX.out.later HI.out.1).c1
        have y2 := (HBX.out.later HI.out.1).c2
        have y3 := (HBX.out.later HI.out.1).c3
        clear HI
        cases hfew : (decide (x.n ≤ 40) && decide ((x.edges.length : Int) ≤ 120)) with
        | false =>
          rw [hfew] at H27
          clear hfew
          go_wp2_with (first | (go_at_call 18; (refine (h18 _).mono ?_); rintro e w7 ⟨rfl, hw⟩; obtain rfl := hw.symm) | (go_at_call 27; (refine (H27.out _ HK.out).mono ?_); rintro ev w8 ⟨rfl, k8⟩))
          go_ret
          exact ⟨rfl, df.chain HB3.out k8⟩
        | true =>
          rw [hfew] at H27
          clear hfew
          by_cases h1 : at' < 0
          · have f1 : decide (at' < 0) = true := decide_eq_true h1
            clear h1
            go_wp2_with (first | (go_at_call 18; (refine (h18 _).mono ?_); rintro e w7 ⟨rfl, hw⟩; obtain rfl := hw.symm) | (go_at_call 27; (refine (H27.out _ HK.out).mono ?_); rintro ev w8 ⟨rfl, k8⟩))
            go_ret
            exact ⟨rfl, df.chain HB3.out k8⟩
          · have f1 : decide (at' < 0) = false := decide_eq_false h1
            by_cases h2 : (u.size : Int) < at'
            · have f2 : decide ((u.size : Int) < at') = true := decide_eq_true h2
              clear h1 h2
              go_wp2_with (first | (go_at_call 18; (refine (h18 _).mono ?_); rintro e w7 ⟨rfl, hw⟩; obtain rfl := hw.symm) | (go_at_call 27; (refine (H27.out _ HK.out).mono ?_); rintro ev w8 ⟨rfl, k8⟩))
              go_ret
              exact ⟨rfl, df.chain HB3.out k8⟩
            · have f2 : decide ((u.size : Int) < at') = false := decide_eq_false h2
              have H17' := (show Hid _ from H17.out at'.toNat (by omega) (by omega))
              clear h1 h2 H17
              go_wp2_with (first | (go_at_call 18; (refine (h18 _).mono ?_); rintro e w7 ⟨rfl, hw⟩; obtain rfl := hw.symm) | (go_at_call 27; (refine (H27.out _ HK.out).mono ?_); rintro ev w8 ⟨rfl, k8⟩))
              refine wp_region_held (S := Kept w3) (by kernel_rfl) ?_
              refine df.take_op (i := 0) 65 rfl rfl (df.yields_load rfl (.tmp 7) rfl w2.heap.size rfl cs hcs (fun W h => df.DBox.later HD3.out h)) (by kernel_rfl) (by kernel_rfl) (by kernel_rfl) (fun _ _ _ h => h) k8.drew ?_
              simp only [Act.put, List.setIfInBounds_toArray, List.set_cons_zero, List.set_cons_succ]
              refine df.take_op (i := 1) 66 rfl rfl (df.yields_move rfl (.tmp 1) rfl) (by kernel_rfl) (by kernel_rfl) (by kernel_rfl) (fun _ _ _ h => h) k8.drew ?_
              simp only [Act.put, List.setIfInBounds_toArray, List.set_cons_zero, List.set_cons_succ]
              refine df.take_op (i := 2) 67 rfl rfl (df.yields_move rfl (.tmp 2) rfl) (by kernel_rfl) (by kernel_rfl) (by kernel_rfl) (fun _ _ _ h => h) k8.drew ?_
              simp only [Act.put, List.setIfInBounds_toArray, List.set_cons_zero, List.set_cons_succ]
              refine df.take_op (i := 4) 69 rfl rfl (yields_load24 rfl (.tmp 3) rfl w.heap.size rfl x.n x.s x.e o x.edges.length cap (fun W h => HBX.out.later h)) (by kernel_rfl) (by kernel_rfl) (by kernel_rfl) (fun _ _ _ h => h) k8.drew ?_
              simp only [Act.put, List.setIfInBounds_toArray, List.set_cons_zero, List.set_cons_succ]
              refine df.take_op (i := 5) 70 rfl rfl (df.yields_move rfl (.tmp 1) rfl) (by kernel_rfl) (by kernel_rfl) (by kernel_rfl) (fun _ _ _ h => h) k8.drew ?_
              simp only [Act.put, List.setIfInBounds_toArray, List.set_cons_zero, List.set_cons_succ]
              refine df.take_op (i := 6) 71 rfl rfl (df.yields_move rfl (.tmp 2) rfl) (by kernel_rfl) (by kernel_rfl) (by kernel_rfl) (fun _ _ _ h => h) k8.drew ?_
              simp only [Act.put, List.setIfInBounds_toArray, List.set_cons_zero, List.set_cons_succ]
              refine df.call_op 3 68 (f := 21) (args := #[.agg cs, .string u, .int .i64 at']) (by kernel_rfl) rfl rfl rfl (by kernel_rfl) ((H21.out _ k8.drew).mono ?_)
              rintro e w9 ⟨vo, vc, rfl, hv9, k9⟩
              refine ⟨_, rfl, k9, ?_⟩
              simp only [Act.put, List.setIfInBounds_toArray, List.set_cons_zero, List.set_cons_succ]
              refine df.call_op 7 72 (f := 17) (args := #[nfaV x.n x.s x.e o x.edges.length cap, .string u, .int .i64 at']) (by kernel_rfl) rfl rfl rfl (by kernel_rfl) ((H17'.out _ k9).mono ?_)
              rintro e w10 ⟨v10, rfl, hv10, k10, b10⟩
              refine ⟨_, rfl, k10, ?_⟩
              simp only [Act.put, List.setIfInBounds_toArray, List.set_cons_zero, List.set_cons_succ]
              refine df.call_op 8 73 (f := 15) (args := #[.slice vo full.length vc, v10]) (by kernel_rfl) rfl rfl rfl (by kernel_rfl) ((H15.out _ _ _ (df.IntsV.later ⟨vo, vc, rfl, hv9⟩ b10) hv10).mono ?_)
              rintro e w11 ⟨rfl, b11⟩
              have k11 : Kept w3 w11 := df.chain k10 b11
              refine ⟨_, rfl, k11, ?_⟩
              simp only [Act.put, List.setIfInBounds_toArray, List.set_cons_zero, List.set_cons_succ]
              refine df.take_op (i := 9) 6 rfl rfl (df.yields_assign rfl (.tmp 73) rfl) (by kernel_rfl) (by kernel_rfl) (by kernel_rfl) (fun _ _ _ h => h) k11 ?_
              simp only [Act.put, List.setIfInBounds_toArray, List.set_cons_zero, List.set_cons_succ]
              refine df.done_op (by kernel_rfl) ?_
              go_wp2_with (fail)
              go_ret
              exact ⟨rfl, df.chain HB3.out k11⟩
theorem walk {x : Nfa} {o : Option Addr} {cap : Nat} {w : World} (hE : Eds w o cap x.edges ∧ ∀ e ∈ x.edges, nf.Fits e) {s : ByteArray} (hs : s.size ≤ 140737488351232) {at' : Int} (wa : (Lit.int .i64 at').wf = true) (w0 : World) (hw0 : w0 = w := by rfl) :
    Calls Try.prog 7 #[nfaV x.n x.s x.e o x.edges.length cap, .string s, .int .i64 at'] w0 fun e w' => e = .returned (.bool true) ∧ Below w0.heap.size w0 w' := by
  subst hw0
  cases hr : nf.right x with
  | false => exact walk_no hE hr
  | true =>
    obtain ⟨n, R1⟩ := nf.rt_of x hr
    have := R1.e
    exact walk_yes (e := x.e.toNat) R1 (by omega) hE hs hr

set_option maxRecDepth 100000 in
theorem lifted (os : Os) (started : os.Started) (H : Type) (enc : TypeId × Value → H) :
    ReturnsInHanded {} Try.checked os 7 .any (Rows.dfaTakesSpec.pre6 enc Try.prog Try.f7 Rows.dfaTakesRow.domain false) (Rows.dfaTakesSpec.post enc Try.prog Try.f7 false true false false) := by
  refine returnsInHanded_of_change_sized (C := Try.checked) own started (by kernel_rfl) Try.func7
    (ChangeSpec.witness6 (enc := enc) (C := Try.checked) false ⟨#[], #[.agg #[.int .i64 0, .int .i64 0, .int .i64 0, .slice none 0 0], .string ByteArray.empty, .int .i64 0], []⟩ 8 (by kernel_rfl) (by kernel_rfl) (by kernel_rfl) (by kernel_rfl)) ?_
  intro W base args ds gs before hval0 hW hcnd hsz0 _
  have hsz : (DataW.weightsEach Try.prog (Try.f7.params.toList ++ Rows.dfaTakesSpec.plain.varTypes Try.prog) (ds ++ gs)).all (· ≤ reachBytes) = true := hsz0
  have hval : ∀ (j : Nat) t v, Try.f7.params[j]? = some t → args[j]? = some v → Value.okWide Try.prog W .any base t v := hval0
  have hW' := hW
  obtain ⟨p, q, hA0, hV, rfl, hfz, hnd⟩ := hW
  have hA : DataW.TrodAll enc Try.prog W 0 (fun _ => true) true Try.f7.params.toList args.toList ds p := hA0
  rw [Try.params7] at hA hval hsz
  obtain ⟨v0, vs0, d0, ds0, p0, q0, hargs, rfl, rfl, h0, r0⟩ := trodAll_cons hA
  obtain ⟨v1, vs1, d1, ds1, p1, q1, rfl, rfl, rfl, h1, r1⟩ := trodAll_cons r0
  obtain ⟨v2, vs2, d2, ds2, p2, q2, rfl, rfl, rfl, h2, r2⟩ := trodAll_cons r1
  obtain ⟨rfl, rfl, rfl⟩ := trodAll_nil r2
  obtain rfl : args = #[v0, v1, v2] := by cases args; simp_all
  obtain ⟨rfl, rfl⟩ := trodVars_none hV
  have k0 := h0
  have lt0 : ∀ x ∈ p0, x.block < W.heap.size := by obtain ⟨m, hm⟩ := k0; exact DataW.trod_lt m _ _ _ hm
  obtain ⟨e0, o0, cap0, rfl, F0⟩ := nf.open24 (hval 0 24 v0 rfl rfl) h0
  obtain ⟨a1, rfl, rfl, rfl, w1⟩ := open_string Try.underlying9 (hval 1 9 v1 rfl rfl) h1
  have F1 : a1.size ≤ 140737488351232 := by
    have := sized_string hsz (j := 1) (t := 9) rfl rfl
    simpa [reachBytes] using this
  obtain ⟨a2, rfl, rfl, rfl, w2⟩ := open_int Try.underlying3 (hval 2 3 v2 rfl rfl) h2
  clear hA0 hval0
  refine (walk F0 F1 w2 W).mono fun e W' ⟨he, bel⟩ => ?_
  subst he
  exact ⟨_, rfl, _, _, _, [], _, [], hW', trodAll_mk1 (shut_bool Try.underlying4 _), (trodAll_cons_mk (Below.trod laidOut (by kernel_rfl) (of_decide_eq_true (by kernel_rfl)) k0 bel lt0) (trodAll_cons_mk (shut_string Try.underlying9 w1) (trodAll_cons_mk (shut_int Try.underlying3 w2) trodAll_mk0))), rfl, bel.frame _, fun h => by cases h⟩

theorem over : Rows.dfaTakesRow.holds Try.pinned (OpenSpec.ofChange Rows.dfaTakesSpec) :=
  OpenClaim.holds_of_wide 7 Try.f7 rfl rfl rfl rfl rfl rfl rfl ⟨rfl, rfl, rfl, rfl, rfl⟩ rfl rfl rfl rfl rfl (by kernel_rfl) Try.func7 (by kernel_rfl)
    (of_decide_eq_true (by kernel_rfl)) (by unfold Func.isWrapper; first | (rw [if_pos (by decide +kernel)]; kernel_rfl) | (rw [if_neg (by decide +kernel)]; exact ⟨rfl, rfl⟩))
    (fun os started H enc _ => lifted os started H enc)

theorem proved : Rows.DfaTakesSaid :=
  over
#print axioms proved
end Go.Proofs.Ythknhbmibmndoaa.dfaTakes
