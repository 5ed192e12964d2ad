/-
  For every nfa, every text and every place the law NfaRuns of package fretsawlaw07 returns true (what the nfa takes from the place on is as the document says), and the arguments read as before. No condition.
-/
import Derived.Test.YthknhbmibmndoaaNx
import Derived.Test.YthknhbmibmndoaaNo
import Derived.Deep.RegionWith
import Derived.Test.YthknhbmibmndoaaDk
import Derived.WalkKit
import Derived.ProofKit
import Derived.OpenShut
import Derived.ChangeOld
import Derived.SizedLaws
import Derived.Below
namespace Go.Proofs.Ythknhbmibmndoaa.nfaRuns
open Go.ChangeShapes Go.WideShapes Go.ChangeAt Go.RowKit
open Go.ChangeMaps (open_string shut_string)
open nf (Nfa Ed Eds nfaV Box)
open df (Row iv In IntsV Owns)
set_option linter.unusedVariables false

theorem own : ownKnob Try.prog.godebug = none := by kernel_rfl
theorem laidOut : laidOutB Try.prog = true := by kernel_rfl

set_option maxHeartbeats 1000000 in
theorem short_any (s : ByteArray) (n : Nat) (hs : s.size ≤ 9223372036854775807) (hn : n ≤ 100000) (w : World) : Calls Try.prog 16 #[.string s, .int .i64 (n : Int)] w fun e w' => e = .returned (.string (df.cut s n)) ∧ w' = w := by
  by_cases h : s.size ≤ n
  · have e : df.cut s n = s := by unfold df.cut; rw [if_pos h]
    rw [e]
    go_enter Try.func16, Try.ntmps16
    go_wp2
    go_ret
    exact ⟨rfl, rfl⟩
  · have HE : Hid (df.cut s n = s.extract 0 n) := by show _ = _; unfold df.cut; rw [if_neg h]
    have hn2 : n < s.size := by omega
    clear h
    go_enter Try.func16, Try.ntmps16
    go_wp2
    go_ret
    exact ⟨by rw [HE.out]; rfl, rfl⟩
set_option maxHeartbeats 8000000 in
set_option maxRecDepth 100000 in
theorem walk_no {x : Nfa} {o : Option Addr} {cap : Nat} {w : World} (hE : Eds w o cap x.edges ∧ ∀ e ∈ x.edges, nf.Fits e) {s : ByteArray} (hs : s.size ≤ 140737488351232) {at' : Int} (hr : nf.right x = false) :
    Calls Try.prog 5 #[nfaV x.n x.s x.e o x.edges.length cap, .string s, .int .i64 at'] w fun e w' => e = .returned (.bool true) ∧ Below w.heap.size w w' := by
  have hcap := hE.1.fit
  have htop := hE.1.top
  have h16 := short_any s 60 (by omega) (by omega)
  have hcut := df.cut_size s 60
  have B1 := nf.below_alloc w (.cells #[.int .i64 x.n, .int .i64 x.s, .int .i64 x.e, .slice o x.edges.length cap] 24)
  have b0 := nf.box_new w x.n x.s x.e o x.edges.length cap
  obtain ⟨w1, hw1⟩ : ∃ w1, w1 = w.alloc (.cells #[.int .i64 x.n, .int .i64 x.s, .int .i64 x.e, .slice o x.edges.length cap] 24) := ⟨_, rfl⟩
  rw [← hw1] at B1 b0
  have E1 := hE.1.later B1
  have d0 := b0.c0
  have d1 := b0.c1
  have d2 := b0.c2
  have d3 := b0.c3
  have h10 := fun W => nf.rright_any x false hr.symm o cap W
  have h11 := fun W => nf.right_any x false hr.symm o cap W
  have h9 := fun W => nf.ends_no x (df.cut s 60) at' (by omega) (fun h => by rw [hr] at h; cases h.1) o cap W
  generalize df.cut s 60 = u at *
  go_enter Try.func5, Try.ntmps5
  go_wp2_with (fail)
  rename_i K hK
  rw [← hw1]
  clear hw1
  have key : ∀ W, Below w1.heap.size w1 W → K { tmps := #[nfaV x.n x.s x.e o x.edges.length cap, .string s, .int .i64 at', .pointer (some ⟨w.heap.size, 0, none⟩), undef, undef, .bool false, undef, .agg #[.int .i64 x.n, .int .i64 x.s, .int .i64 x.e, .slice o x.edges.length cap], .bool false, .agg #[.int .i64 x.n, .int .i64 x.s, .int .i64 x.e, .slice o x.edges.length cap], .bool false, .bool false, undef, undef, undef, undef, undef, undef, undef, undef, undef, undef, undef, undef, undef, undef, undef, undef, undef, undef, undef, undef, undef, undef, undef, undef, undef, undef, undef, undef, undef, undef, undef, undef, undef], defers := [] } W := by
    intro W bW
    refine hK _ _ ?_
    clear hK K d0 d1 d2 d3
    have xW := b0.later bW
    have d0 := xW.c0
    have d1 := xW.c1
    have d2 := xW.c2
    have d3 := xW.c3
    have EW := E1.later bW
    go_wp2_with (first | (go_at_call 16; refine (h16 _).mono ?_; rintro e w' ⟨rfl, hw⟩; obtain rfl := hw.symm) | (go_at_call 9; refine (h9 _ EW).mono ?_; rintro e w2 ⟨v, rfl, ⟨vo, vc, rfl, hv⟩, b2⟩; have hvf := hv.fit; have hvt := hv.top; have x2 := xW.later b2; have f0 := x2.c0; have f1 := x2.c1; have f2 := x2.c2; have f3 := x2.c3; have E2 := EW.later b2) | (go_at_call 10; refine (h10 _ E2).mono ?_; rintro e w3 ⟨rfl, b3⟩; have x3 := x2.later b3; have g0 := x3.c0; have g1 := x3.c1; have g2 := x3.c2; have g3 := x3.c3; have E3 := E2.later b3))
    go_ret
    exact ⟨rfl, nf.chain (nf.chain (nf.chain B1 bW) b2) b3⟩
  clear hK
  go_region_with (first
    | (have h2nd := bA'; go_at_call 10; refine (h10 _ (E1.later bA')).mono ?_; rintro e wB ⟨rfl, bB⟩; have bB' := nf.chain bA' (nf.same_below wA bB rfl rfl rfl rfl))
    | (have h2nd := bA'; go_at_call 11; refine (h11 _ (E1.later bA')).mono ?_; rintro e wB ⟨rfl, bB⟩; have bB' := nf.chain bA' (nf.same_below wA bB rfl rfl rfl rfl))
    | (go_at_call 11; refine (h11 _ ?_).mono ?_; (exact E1.later ⟨rfl, rfl, rfl, Nat.le_refl _, fun _ _ => rfl⟩); rintro e wA ⟨rfl, bA⟩; have bA' := nf.same_below w1 bA rfl rfl rfl rfl; have xA := b0.later bA'; have a0 := xA.c0; have a1 := xA.c1; have a2 := xA.c2; have a3 := xA.c3)
    | (go_at_call 10; refine (h10 _ ?_).mono ?_; (exact E1.later ⟨rfl, rfl, rfl, Nat.le_refl _, fun _ _ => rfl⟩); rintro e wA ⟨rfl, bA⟩; have bA' := nf.same_below w1 bA rfl rfl rfl rfl; have xA := b0.later bA'; have a0 := xA.c0; have a1 := xA.c1; have a2 := xA.c2; have a3 := xA.c3))
  all_goals go_wp2_with (fail)
  all_goals first | exact key wB bB' | exact bB'
set_option maxHeartbeats 8000000 in
set_option maxRecDepth 100000 in
theorem walk_out {x : Nfa} {o : Option Addr} {cap : Nat} {w : World} (hE : Eds w o cap x.edges ∧ ∀ e ∈ x.edges, nf.Fits e) {s : ByteArray} (hs : s.size ≤ 140737488351232) {at' : Int} (hr : nf.right x = true) (ho : ¬ (0 ≤ at' ∧ at' ≤ (df.cut s 60).size)) :
    Calls Try.prog 5 #[nfaV x.n x.s x.e o x.edges.length cap, .string s, .int .i64 at'] w fun e w' => e = .returned (.bool true) ∧ Below w.heap.size w w' := by
  have hcap := hE.1.fit
  have htop := hE.1.top
  have h16 := short_any s 60 (by omega) (by omega)
  have hcut := df.cut_size s 60
  have B1 := nf.below_alloc w (.cells #[.int .i64 x.n, .int .i64 x.s, .int .i64 x.e, .slice o x.edges.length cap] 24)
  have b0 := nf.box_new w x.n x.s x.e o x.edges.length cap
  obtain ⟨w1, hw1⟩ : ∃ w1, w1 = w.alloc (.cells #[.int .i64 x.n, .int .i64 x.s, .int .i64 x.e, .slice o x.edges.length cap] 24) := ⟨_, rfl⟩
  rw [← hw1] at B1 b0
  have E1 := hE.1.later B1
  have d0 := b0.c0
  have d1 := b0.c1
  have d2 := b0.c2
  have d3 := b0.c3
  have h10 := fun W => nf.rright_any x true hr.symm o cap W
  have h11 := fun W => nf.right_any x true hr.symm o cap W
  have h9 := fun W => nf.ends_no x (df.cut s 60) at' (by omega) (fun h => ho h.2) o cap W
  generalize df.cut s 60 = u at *
  go_enter Try.func5, Try.ntmps5
  go_wp2_with (fail)
  rename_i K hK
  rw [← hw1]
  clear hw1
  have key : ∀ W, Below w1.heap.size w1 W → K { tmps := #[nfaV x.n x.s x.e o x.edges.length cap, .string s, .int .i64 at', .pointer (some ⟨w.heap.size, 0, none⟩), undef, undef, .bool false, undef, .agg #[.int .i64 x.n, .int .i64 x.s, .int .i64 x.e, .slice o x.edges.length cap], .bool true, .agg #[.int .i64 x.n, .int .i64 x.s, .int .i64 x.e, .slice o x.edges.length cap], .bool true, .bool false, undef, undef, undef, undef, undef, undef, undef, undef, undef, undef, undef, undef, undef, undef, undef, undef, undef, undef, undef, undef, undef, undef, undef, undef, undef, undef, undef, undef, undef, undef, undef, undef, undef], defers := [] } W := by
    intro W bW
    refine hK _ _ ?_
    clear hK K d0 d1 d2 d3
    have xW := b0.later bW
    have d0 := xW.c0
    have d1 := xW.c1
    have d2 := xW.c2
    have d3 := xW.c3
    have EW := E1.later bW
    go_wp2_with (first | (go_at_call 16; refine (h16 _).mono ?_; rintro e w' ⟨rfl, hw⟩; obtain rfl := hw.symm) | (go_at_call 9; refine (h9 _ EW).mono ?_; rintro e w2 ⟨v, rfl, ⟨vo, vc, rfl, hv⟩, b2⟩; have hvf := hv.fit; have hvt := hv.top; have x2 := xW.later b2; have f0 := x2.c0; have f1 := x2.c1; have f2 := x2.c2; have f3 := x2.c3; have E2 := EW.later b2) | (go_at_call 10; refine (h10 _ E2).mono ?_; rintro e w3 ⟨rfl, b3⟩; have x3 := x2.later b3; have g0 := x3.c0; have g1 := x3.c1; have g2 := x3.c2; have g3 := x3.c3; have E3 := E2.later b3))
    all_goals go_ret
    all_goals exact ⟨rfl, nf.chain (nf.chain (nf.chain B1 bW) b2) b3⟩
  clear hK
  go_region_with (first
    | (have h2nd := bA'; go_at_call 10; refine (h10 _ (E1.later bA')).mono ?_; rintro e wB ⟨rfl, bB⟩; have bB' := nf.chain bA' (nf.same_below wA bB rfl rfl rfl rfl))
    | (have h2nd := bA'; go_at_call 11; refine (h11 _ (E1.later bA')).mono ?_; rintro e wB ⟨rfl, bB⟩; have bB' := nf.chain bA' (nf.same_below wA bB rfl rfl rfl rfl))
    | (go_at_call 11; refine (h11 _ ?_).mono ?_; (exact E1.later ⟨rfl, rfl, rfl, Nat.le_refl _, fun _ _ => rfl⟩); rintro e wA ⟨rfl, bA⟩; have bA' := nf.same_below w1 bA rfl rfl rfl rfl; have xA := b0.later bA'; have a0 := xA.c0; have a1 := xA.c1; have a2 := xA.c2; have a3 := xA.c3)
    | (go_at_call 10; refine (h10 _ ?_).mono ?_; (exact E1.later ⟨rfl, rfl, rfl, Nat.le_refl _, fun _ _ => rfl⟩); rintro e wA ⟨rfl, bA⟩; have bA' := nf.same_below w1 bA rfl rfl rfl rfl; have xA := b0.later bA'; have a0 := xA.c0; have a1 := xA.c1; have a2 := xA.c2; have a3 := xA.c3))
  all_goals go_wp2_with (fail)
  all_goals first | exact key wB bB' | exact bB'
set_option maxHeartbeats 8000000 in
set_option maxRecDepth 100000 in
theorem walk_big {x : Nfa} {o : Option Addr} {cap : Nat} {w : World} (hE : Eds w o cap x.edges ∧ ∀ e ∈ x.edges, nf.Fits e) {s : ByteArray} (hs : s.size ≤ 140737488351232) {a : Nat} (hr : nf.right x = true) (ha : a ≤ (df.cut s 60).size) (hfew : (decide (x.n ≤ 60) && decide ((x.edges.length : Int) ≤ 200)) = false) :
    Calls Try.prog 5 #[nfaV x.n x.s x.e o x.edges.length cap, .string s, .int .i64 (a : Int)] w fun e w' => e = .returned (.bool true) ∧ Below w.heap.size w w' := by
  have hcap := hE.1.fit
  have htop := hE.1.top
  have h16 := short_any s 60 (by omega) (by omega)
  have hcut := df.cut_size s 60
  have B1 := nf.below_alloc w (.cells #[.int .i64 x.n, .int .i64 x.s, .int .i64 x.e, .slice o x.edges.length cap] 24)
  have b0 := nf.box_new w x.n x.s x.e o x.edges.length cap
  obtain ⟨w1, hw1⟩ : ∃ w1, w1 = w.alloc (.cells #[.int .i64 x.n, .int .i64 x.s, .int .i64 x.e, .slice o x.edges.length cap] 24) := ⟨_, rfl⟩
  rw [← hw1] at B1 b0
  have E1 := hE.1.later B1
  have d0 := b0.c0
  have d1 := b0.c1
  have d2 := b0.c2
  have d3 := b0.c3
  have h10 := fun W => nf.rright_any x true hr.symm o cap W
  have h11 := fun W => nf.right_any x true hr.symm o cap W
  obtain ⟨n, R⟩ := nf.rt_of x hr
  obtain ⟨L, hL, hLl⟩ := nf.runs_ex x (nf.dOf (df.cut s 60)) a (df.cut s 60).size ha
  have h9 := fun W => nf.ends_yes x n R hE.2 (df.cut s 60) a (by omega) ha hr L hL o cap W
  have h17 := fun W => nf.rends_yes x n R hE.2 (df.cut s 60) a (by omega) ha L hL o cap W
  have h15 := df.ints_any L L true (by simp)
  unfold df.IntsIs at h15
  have h13 := fun W => nf.few_any x.n x.s x.e o x.edges.length cap W hcap htop
  have hno : ¬ ((a : Int) < 0) := by omega
  have hno2 : ¬ (((df.cut s 60).size : Int) < (a : Int)) := by omega
  clear hL
  rw [hfew] at h13
  clear hfew
  generalize df.cut s 60 = u at *
  go_enter Try.func5, Try.ntmps5
  go_wp2_with (fail)
  rename_i K hK
  rw [← hw1]
  clear hw1
  have key : ∀ W, Below w1.heap.size w1 W → K { tmps := #[nfaV x.n x.s x.e o x.edges.length cap, .string s, .int .i64 (a : Int), .pointer (some ⟨w.heap.size, 0, none⟩), undef, undef, .bool false, undef, .agg #[.int .i64 x.n, .int .i64 x.s, .int .i64 x.e, .slice o x.edges.length cap], .bool true, .agg #[.int .i64 x.n, .int .i64 x.s, .int .i64 x.e, .slice o x.edges.length cap], .bool true, .bool false, undef, undef, undef, undef, undef, undef, undef, undef, undef, undef, undef, undef, undef, undef, undef, undef, undef, undef, undef, undef, undef, undef, undef, undef, undef, undef, undef, undef, undef, undef, undef, undef, undef], defers := [] } W := by
    intro W bW
    refine hK _ _ ?_
    clear hK K d0 d1 d2 d3
    have xW := b0.later bW
    have d0 := xW.c0
    have d1 := xW.c1
    have d2 := xW.c2
    have d3 := xW.c3
    have EW := E1.later bW
    go_wp2_with (first | (go_at_call 16; refine (h16 _).mono ?_; rintro e w' ⟨rfl, hw⟩; obtain rfl := hw.symm) | (go_at_call 9; refine (h9 _ EW).mono ?_; rintro e w2 ⟨v, rfl, ⟨vo, vc, rfl, hv⟩, b2⟩; have hvf := hv.fit; have hvt := hv.top; have x2 := xW.later b2; have f0 := x2.c0; have f1 := x2.c1; have f2 := x2.c2; have f3 := x2.c3; have E2 := EW.later b2) | (go_at_call 10; refine (h10 _ E2).mono ?_; rintro e w3 ⟨rfl, b3⟩; have x3 := x2.later b3; have g0 := x3.c0; have g1 := x3.c1; have g2 := x3.c2; have g3 := x3.c3; have E3 := E2.later b3) | (go_at_call 13; refine (h13 _).mono ?_; rintro e w4 ⟨rfl, b4⟩))
    go_ret
    exact ⟨rfl, nf.chain (nf.chain (nf.chain (nf.chain B1 bW) b2) b3) b4⟩
  clear hK
  go_region_with (first
    | (have h2nd := bA'; go_at_call 10; refine (h10 _ (E1.later bA')).mono ?_; rintro e wB ⟨rfl, bB⟩; have bB' := nf.chain bA' (nf.same_below wA bB rfl rfl rfl rfl))
    | (have h2nd := bA'; go_at_call 11; refine (h11 _ (E1.later bA')).mono ?_; rintro e wB ⟨rfl, bB⟩; have bB' := nf.chain bA' (nf.same_below wA bB rfl rfl rfl rfl))
    | (go_at_call 11; refine (h11 _ ?_).mono ?_; (exact E1.later ⟨rfl, rfl, rfl, Nat.le_refl _, fun _ _ => rfl⟩); rintro e wA ⟨rfl, bA⟩; have bA' := nf.same_below w1 bA rfl rfl rfl rfl; have xA := b0.later bA'; have a0 := xA.c0; have a1 := xA.c1; have a2 := xA.c2; have a3 := xA.c3)
    | (go_at_call 10; refine (h10 _ ?_).mono ?_; (exact E1.later ⟨rfl, rfl, rfl, Nat.le_refl _, fun _ _ => rfl⟩); rintro e wA ⟨rfl, bA⟩; have bA' := nf.same_below w1 bA rfl rfl rfl rfl; have xA := b0.later bA'; have a0 := xA.c0; have a1 := xA.c1; have a2 := xA.c2; have a3 := xA.c3))
  all_goals go_wp2_with (fail)
  all_goals first | exact key wB bB' | exact bB'
set_option maxHeartbeats 8000000 in
set_option maxRecDepth 100000 in
theorem walk_few {x : Nfa} {o : Option Addr} {cap : Nat} {w : World} (hE : Eds w o cap x.edges ∧ ∀ e ∈ x.edges, nf.Fits e) {s : ByteArray} (hs : s.size ≤ 140737488351232) {a : Nat} (hr : nf.right x = true) (ha : a ≤ (df.cut s 60).size) (hfew : (decide (x.n ≤ 60) && decide ((x.edges.length : Int) ≤ 200)) = true) :
    Calls Try.prog 5 #[nfaV x.n x.s x.e o x.edges.length cap, .string s, .int .i64 (a : Int)] w fun e w' => e = .returned (.bool true) ∧ Below w.heap.size w w' := by
  have hcap := hE.1.fit
  have htop := hE.1.top
  have h16 := short_any s 60 (by omega) (by omega)
  have hcut := df.cut_size s 60
  have B1 := nf.below_alloc w (.cells #[.int .i64 x.n, .int .i64 x.s, .int .i64 x.e, .slice o x.edges.length cap] 24)
  have b0 := nf.box_new w x.n x.s x.e o x.edges.length cap
  obtain ⟨w1, hw1⟩ : ∃ w1, w1 = w.alloc (.cells #[.int .i64 x.n, .int .i64 x.s, .int .i64 x.e, .slice o x.edges.length cap] 24) := ⟨_, rfl⟩
  rw [← hw1] at B1 b0
  have E1 := hE.1.later B1
  have d0 := b0.c0
  have d1 := b0.c1
  have d2 := b0.c2
  have d3 := b0.c3
  have h10 := fun W => nf.rright_any x true hr.symm o cap W
  have h11 := fun W => nf.right_any x true hr.symm o cap W
  obtain ⟨n, R⟩ := nf.rt_of x hr
  obtain ⟨L, hL, hLl⟩ := nf.runs_ex x (nf.dOf (df.cut s 60)) a (df.cut s 60).size ha
  have h9 := fun W => nf.ends_yes x n R hE.2 (df.cut s 60) a (by omega) ha hr L hL o cap W
  have h17 := fun W => nf.rends_yes x n R hE.2 (df.cut s 60) a (by omega) ha L hL o cap W
  have h15 := df.ints_any L L true (by simp)
  unfold df.IntsIs at h15
  have h13 := fun W => nf.few_any x.n x.s x.e o x.edges.length cap W hcap htop
  have hno : ¬ ((a : Int) < 0) := by omega
  have hno2 : ¬ (((df.cut s 60).size : Int) < (a : Int)) := by omega
  clear hL
  rw [hfew] at h13
  clear hfew
  generalize df.cut s 60 = u at *
  go_enter Try.func5, Try.ntmps5
  go_wp2_with (fail)
  rename_i K hK
  rw [← hw1]
  clear hw1
  have key : ∀ W, Below w1.heap.size w1 W → K { tmps := #[nfaV x.n x.s x.e o x.edges.length cap, .string s, .int .i64 (a : Int), .pointer (some ⟨w.heap.size, 0, none⟩), undef, undef, .bool false, undef, .agg #[.int .i64 x.n, .int .i64 x.s, .int .i64 x.e, .slice o x.edges.length cap], .bool true, .agg #[.int .i64 x.n, .int .i64 x.s, .int .i64 x.e, .slice o x.edges.length cap], .bool true, .bool false, undef, undef, undef, undef, undef, undef, undef, undef, undef, undef, undef, undef, undef, undef, undef, undef, undef, undef, undef, undef, undef, undef, undef, undef, undef, undef, undef, undef, undef, undef, undef, undef, undef], defers := [] } W := by
    intro W bW
    refine hK _ _ ?_
    clear hK K d0 d1 d2 d3
    have xW := b0.later bW
    have d0 := xW.c0
    have d1 := xW.c1
    have d2 := xW.c2
    have d3 := xW.c3
    have EW := E1.later bW
    go_wp2_with (first | (go_at_call 16; refine (h16 _).mono ?_; rintro e w' ⟨rfl, hw⟩; obtain rfl := hw.symm) | (go_at_call 9; refine (h9 _ EW).mono ?_; rintro e w2 ⟨v, rfl, ⟨vo, vc, rfl, hv⟩, b2⟩; have hvf := hv.fit; have hvt := hv.top; have x2 := xW.later b2; have f0 := x2.c0; have f1 := x2.c1; have f2 := x2.c2; have f3 := x2.c3; have E2 := EW.later b2) | (go_at_call 10; refine (h10 _ E2).mono ?_; rintro e w3 ⟨rfl, b3⟩; have x3 := x2.later b3; have g0 := x3.c0; have g1 := x3.c1; have g2 := x3.c2; have g3 := x3.c3; have E3 := E2.later b3) | (go_at_call 13; refine (h13 _).mono ?_; rintro e w4 ⟨rfl, b4⟩; have x4 := x3.later b4; have i0 := x4.c0; have i1 := x4.c1; have i2 := x4.c2; have i3 := x4.c3; have E4 := E3.later b4) | (go_at_call 17; refine (h17 _ E4).mono ?_; rintro e w5 ⟨v5, rfl, ⟨vo5, vc5, rfl, hv5⟩, b5⟩; have V5 : IntsV w5 (.slice vo L.length vc) L := df.IntsV.later (df.IntsV.later (df.IntsV.later ⟨vo, vc, rfl, hv⟩ b3) b4) b5) | (go_at_call 15; refine (h15 _ _ _ V5 ⟨vo5, vc5, rfl, hv5⟩).mono ?_; rintro e w6 ⟨rfl, b6⟩))
    go_ret
    exact ⟨rfl, nf.chain (nf.chain (nf.chain (nf.chain (nf.chain (nf.chain B1 bW) b2) b3) b4) b5) b6⟩
  clear hK
  go_region_with (first
    | (have h2nd := bA'; go_at_call 10; refine (h10 _ (E1.later bA')).mono ?_; rintro e wB ⟨rfl, bB⟩; have bB' := nf.chain bA' (nf.same_below wA bB rfl rfl rfl rfl))
    | (have h2nd := bA'; go_at_call 11; refine (h11 _ (E1.later bA')).mono ?_; rintro e wB ⟨rfl, bB⟩; have bB' := nf.chain bA' (nf.same_below wA bB rfl rfl rfl rfl))
    | (go_at_call 11; refine (h11 _ ?_).mono ?_; (exact E1.later ⟨rfl, rfl, rfl, Nat.le_refl _, fun _ _ => rfl⟩); rintro e wA ⟨rfl, bA⟩; have bA' := nf.same_below w1 bA rfl rfl rfl rfl; have xA := b0.later bA'; have a0 := xA.c0; have a1 := xA.c1; have a2 := xA.c2; have a3 := xA.c3)
    | (go_at_call 10; refine (h10 _ ?_).mono ?_; (exact E1.later ⟨rfl, rfl, rfl, Nat.le_refl _, fun _ _ => rfl⟩); rintro e wA ⟨rfl, bA⟩; have bA' := nf.same_below w1 bA rfl rfl rfl rfl; have xA := b0.later bA'; have a0 := xA.c0; have a1 := xA.c1; have a2 := xA.c2; have a3 := xA.c3))
  all_goals go_wp2_with (fail)
  all_goals first | exact key wB bB' | exact bB'
theorem walk {x : Nfa} {o : Option Addr} {cap : Nat} {w : World} (hE : Eds w o cap x.edges ∧ ∀ e ∈ x.edges, nf.Fits e) {s : ByteArray} (hs : s.size ≤ 140737488351232) {at' : Int} (wa : (Lit.int .i64 at').wf = true) (w0 : World) (hw0 : w0 = w := by rfl) :
    Calls Try.prog 5 #[nfaV x.n x.s x.e o x.edges.length cap, .string s, .int .i64 at'] w0 fun e w' => e = .returned (.bool true) ∧ Below w0.heap.size w0 w' := by
  subst hw0
  cases hr : nf.right x with
  | false => exact walk_no hE hs hr
  | true =>
    by_cases ho : 0 ≤ at' ∧ at' ≤ (df.cut s 60).size
    · obtain ⟨a, rfl⟩ : ∃ a : Nat, at' = (a : Int) := ⟨at'.toNat, by omega⟩
      cases hfew : (decide (x.n ≤ 60) && decide ((x.edges.length : Int) ≤ 200)) with
      | false => exact walk_big hE hs hr (by omega) hfew
      | true => exact walk_few hE hs hr (by omega) hfew
    · exact walk_out hE hs hr ho

set_option maxRecDepth 100000 in
theorem lifted (os : Os) (started : os.Started) (H : Type) (enc : TypeId × Value → H) :
    ReturnsInHanded {} Try.checked os 5 .any (Rows.nfaRunsSpec.pre6 enc Try.prog Try.f5 Rows.nfaRunsRow.domain false) (Rows.nfaRunsSpec.post enc Try.prog Try.f5 false true false false) := by
  refine returnsInHanded_of_change_sized (C := Try.checked) own started (by kernel_rfl) Try.func5
    (ChangeSpec.witness6 (enc := enc) (C := Try.checked) false ⟨#[], #[.agg #[.int .i64 0, .int .i64 0, .int .i64 0, .slice none 0 0], .string ByteArray.empty, .int .i64 0], []⟩ 8 (by kernel_rfl) (by kernel_rfl) (by kernel_rfl) (by kernel_rfl)) ?_
  intro W base args ds gs before hval0 hW hcnd hsz0 _
  have hsz : (DataW.weightsEach Try.prog (Try.f5.params.toList ++ Rows.nfaRunsSpec.plain.varTypes Try.prog) (ds ++ gs)).all (· ≤ reachBytes) = true := hsz0
  have hval : ∀ (j : Nat) t v, Try.f5.params[j]? = some t → args[j]? = some v → Value.okWide Try.prog W .any base t v := hval0
  have hW' := hW
  obtain ⟨p, q, hA0, hV, rfl, hfz, hnd⟩ := hW
  have hA : DataW.TrodAll enc Try.prog W 0 (fun _ => true) true Try.f5.params.toList args.toList ds p := hA0
  rw [Try.params5] at hA hval hsz
  obtain ⟨v0, vs0, d0, ds0, p0, q0, hargs, rfl, rfl, h0, r0⟩ := trodAll_cons hA
  obtain ⟨v1, vs1, d1, ds1, p1, q1, rfl, rfl, rfl, h1, r1⟩ := trodAll_cons r0
  obtain ⟨v2, vs2, d2, ds2, p2, q2, rfl, rfl, rfl, h2, r2⟩ := trodAll_cons r1
  obtain ⟨rfl, rfl, rfl⟩ := trodAll_nil r2
  obtain rfl : args = #[v0, v1, v2] := by cases args; simp_all
  obtain ⟨rfl, rfl⟩ := trodVars_none hV
  have k0 := h0
  have lt0 : ∀ x ∈ p0, x.block < W.heap.size := by obtain ⟨m, hm⟩ := k0; exact DataW.trod_lt m _ _ _ hm
  obtain ⟨e0, o0, cap0, rfl, F0⟩ := nf.open24 (hval 0 24 v0 rfl rfl) h0
  obtain ⟨a1, rfl, rfl, rfl, w1⟩ := open_string Try.underlying9 (hval 1 9 v1 rfl rfl) h1
  have F1 : a1.size ≤ 140737488351232 := by
    have := sized_string hsz (j := 1) (t := 9) rfl rfl
    simpa [reachBytes] using this
  obtain ⟨a2, rfl, rfl, rfl, w2⟩ := open_int Try.underlying3 (hval 2 3 v2 rfl rfl) h2
  clear hA0 hval0
  refine (walk F0 F1 w2 W).mono fun e W' ⟨he, bel⟩ => ?_
  subst he
  exact ⟨_, rfl, _, _, _, [], _, [], hW', trodAll_mk1 (shut_bool Try.underlying4 _), (trodAll_cons_mk (Below.trod laidOut (by kernel_rfl) (of_decide_eq_true (by kernel_rfl)) k0 bel lt0) (trodAll_cons_mk (shut_string Try.underlying9 w1) (trodAll_cons_mk (shut_int Try.underlying3 w2) trodAll_mk0))), rfl, bel.frame _, fun h => by cases h⟩

theorem over : Rows.nfaRunsRow.holds Try.pinned (OpenSpec.ofChange Rows.nfaRunsSpec) :=
  OpenClaim.holds_of_wide 5 Try.f5 rfl rfl rfl rfl rfl rfl rfl ⟨rfl, rfl, rfl, rfl, rfl⟩ rfl rfl rfl rfl rfl (by kernel_rfl) Try.func5 (by kernel_rfl)
    (of_decide_eq_true (by kernel_rfl)) (by unfold Func.isWrapper; first | (rw [if_pos (by decide +kernel)]; kernel_rfl) | (rw [if_neg (by decide +kernel)]; exact ⟨rfl, rfl⟩))
    (fun os started H enc _ => lifted os started H enc)

theorem proved : Rows.NfaRunsSaid :=
  over
#print axioms proved
end Go.Proofs.Ythknhbmibmndoaa.nfaRuns
