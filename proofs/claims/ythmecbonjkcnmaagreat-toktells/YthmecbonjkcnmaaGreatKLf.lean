/-
  Contracts over this program: the law TokTells.
-/
import Derived.Test.YthmecbonjkcnmaaGreatKLe
import Derived.Test.YthmecbonjkcnmaaGreatKCi
import Derived.BigQuiet
namespace Go.Proofs.YthmecbonjkcnmaaGreat.tk
open Go.ChangeShapes Go.WideShapes Go.ChangeAt Go.RowKit
open cf (Cf Cp cv CfAt CBox cfE cbox_new)
open mg (Row In IntsV)
open nb (built)
set_option linter.unusedVariables false
set_option maxRecDepth 100000

set_option maxHeartbeats 4000000 in
/-- the text is too long, or the configuration may not be: what is asked behind the cut -/
theorem tells_no (c : Cf) (p : Cp) (s : ByteArray) (hs : s.size ≤ 140737488351232) (hb : 4096 < s.size) (w : World) (hv : CfAt w c p) : Calls Tryz.prog 3 #[.agg (cv c p), .string s] w fun e w' => e = .returned (.bool true) ∧ Below w.heap.size w w' := by
  obtain ⟨wA, hwA⟩ : ∃ wA, wA = w.alloc (.cells (cv c p) 34) := ⟨_, rfl⟩
  have B0 : Below w.heap.size w wA := by rw [hwA]; exact below_alloc w _
  have hX0 : (w.alloc (.cells (cv c p) 34)).heap[w.heap.size]? = some (.cells (cv c p) 34 (0, 0)) := cbox_new w c p
  have HX := (show Hid (CBox wA w.heap.size c p) from by rw [hwA]; exact cbox_new w c p)
  have hi34 := info34 c p
  have HC := (show Hid (CfAt wA c p) from hv.later B0)
  have HB0 := (show Hid (Below w.heap.size w wA) from B0)
  have c8 := norm_no c p s hs (.inr hb) wA (hv.later B0)
  have hxe : badE c s = if cfE c = 0 then 2 else cfE c := rfl
  have hx := bad_ne c s
  obtain ⟨r, hr⟩ : ∃ r, r = badE c s := ⟨_, rfl⟩
  have H9 := (show Hid (∀ W, Below wA.heap.size wA W → Calls Tryz.prog 9 #[.agg (cv c p), .string s] W fun e w' => e = .returned (.tuple #[.slice none 0 0, .int .i64 (r : Int)]) ∧ Below W.heap.size W w') from fun W b => by rw [hr]; exact tok_no c p s hs (.inr hb) W (HC.out.later b))
  rw [← hr] at c8 hx hxe
  obtain ⟨q, hq⟩ : ∃ q, q = cfE c := ⟨_, rfl⟩
  have H10 := (show Hid (∀ W, Below wA.heap.size wA W → Calls Tryz.prog 10 #[.agg (cv c p)] W fun e w' => e = .returned (.int .i64 (q : Int)) ∧ Below W.heap.size W w') from fun W b => cf.rright_any c p W (HC.out.later b) q hq)
  have hsi : ¬ (s.size : Int) ≤ 4096 := by omega
  have hsj : (4096 : Int) < (s.size : Int) := by omega
  unfold e0 at c8
  clear hv B0 hr
  rw [← hq] at hxe
  have HXE := (show Hid (r = if q = 0 then 2 else q) from hxe)
  clear hq hxe
  go_enter Tryz.func3, Tryz.ntmps3
  go_wp2_with (first | (refine wpList_load_row rfl 34 (.tmp 2) rfl w.heap.size rfl 34 (cv c p) (0, 0) _ hX0 Tryz.underlying34 rfl hi34 ?_))
  rw [← hwA]
  go_at_call 8
  refine c8.mono ?_
  rintro e w1 ⟨rfl, b1⟩
  have hX1 : w1.heap[w.heap.size]? = some (.cells (cv c p) 34 (0, 0)) := HX.out.later b1
  have c9 := H9.out w1 b1
  clear c8 hX0 hwA
  go_wp2_with (first | (refine wpList_load_row rfl 34 (.tmp 2) rfl w.heap.size rfl 34 (cv c p) (0, 0) _ hX1 Tryz.underlying34 rfl hi34 ?_))
  go_at_call 9
  refine c9.mono ?_
  rintro e w2 ⟨rfl, b2⟩
  have b12 := chain b1 b2
  have hX2 : w2.heap[w.heap.size]? = some (.cells (cv c p) 34 (0, 0)) := HX.out.later b12
  have c10 := H10.out w2 b12
  clear c9 hX1 H9
  go_wp2_with (first | (refine wpList_load_row rfl 34 (.tmp 2) rfl w.heap.size rfl 34 (cv c p) (0, 0) _ hX2 Tryz.underlying34 rfl hi34 ?_))
  go_at_call 10
  refine c10.mono ?_
  rintro e w3 ⟨rfl, b3⟩
  have HB := (show Hid (Below w.heap.size w w3) from chain HB0.out (chain b12 b3))
  clear c10 hX2 H10
  have hxe := HXE.out
  clear HXE
  by_cases h0 : q = 0
  · subst h0
    rw [if_pos rfl] at hxe
    subst hxe
    go_wp2_with (fail)
    go_ret
    exact ⟨rfl, HB.out⟩
  · rw [if_neg h0] at hxe
    subst hxe
    have hne : (((r : Nat) : Int) == 0) = false := beq_eq_false_iff_ne.2 (by omega)
    have hne2 : (((r : Nat) : Int) != 0) = true := by rw [bne_iff_ne]; omega
    go_wp2_with (fail)
    go_ret
    exact ⟨rfl, HB.out⟩
set_option maxHeartbeats 4000000 in
/-- the configuration may not be -/
theorem tells_bad (c : Cf) (p : Cp) (s : ByteArray) (hs : s.size ≤ 4096) (hb : cfE c ≠ 0) (w : World) (hv : CfAt w c p) : Calls Tryz.prog 3 #[.agg (cv c p), .string s] w fun e w' => e = .returned (.bool true) ∧ Below w.heap.size w w' := by
  obtain ⟨wA, hwA⟩ : ∃ wA, wA = w.alloc (.cells (cv c p) 34) := ⟨_, rfl⟩
  have B0 : Below w.heap.size w wA := by rw [hwA]; exact below_alloc w _
  have hX0 : (w.alloc (.cells (cv c p) 34)).heap[w.heap.size]? = some (.cells (cv c p) 34 (0, 0)) := cbox_new w c p
  have HX := (show Hid (CBox wA w.heap.size c p) from by rw [hwA]; exact cbox_new w c p)
  have hi34 := info34 c p
  have HC := (show Hid (CfAt wA c p) from hv.later B0)
  have HB0 := (show Hid (Below w.heap.size w wA) from B0)
  have c7 := little_any c p s (by omega) wA (hv.later B0)
  have hz := cut_le s (little c)
  have hz2 := (little_le c).2
  generalize cutN s (little c) = u at *
  obtain ⟨q, hq⟩ : ∃ q, q = cfE c := ⟨_, rfl⟩
  have hbe : badE c u = q := by unfold badE; rw [if_neg hb, hq]
  have H8 := (show Hid (∀ W, Below wA.heap.size wA W → Calls Tryz.prog 8 #[.agg (cv c p), .string u] W fun e w' => e = .returned (.tuple #[.string ⟨#[]⟩, .int .i64 (q : Int)]) ∧ Below W.heap.size W w') from fun W b => by rw [← hbe]; exact norm_no c p u (by omega) (.inl hb) W (HC.out.later b))
  have H9 := (show Hid (∀ W, Below wA.heap.size wA W → Calls Tryz.prog 9 #[.agg (cv c p), .string u] W fun e w' => e = .returned (.tuple #[.slice none 0 0, .int .i64 (q : Int)]) ∧ Below W.heap.size W w') from fun W b => by rw [← hbe]; exact tok_no c p u (by omega) (.inl hb) W (HC.out.later b))
  have H10 := (show Hid (∀ W, Below wA.heap.size wA W → Calls Tryz.prog 10 #[.agg (cv c p)] W fun e w' => e = .returned (.int .i64 (q : Int)) ∧ Below W.heap.size W w') from fun W b => cf.rright_any c p W (HC.out.later b) q hq)
  have hq0 : q ≠ 0 := by rw [hq]; exact hb
  have hne : (((q : Nat) : Int) == 0) = false := beq_eq_false_iff_ne.2 (by omega)
  have hne2 : (((q : Nat) : Int) != 0) = true := by rw [bne_iff_ne]; omega
  have hsi : (s.size : Int) ≤ 4096 := by omega
  clear hv B0 hq hbe hb hz hz2
  go_enter Tryz.func3, Tryz.ntmps3
  go_wp2_with (first | (refine wpList_load_row rfl 34 (.tmp 2) rfl w.heap.size rfl 34 (cv c p) (0, 0) _ hX0 Tryz.underlying34 rfl hi34 ?_))
  rw [← hwA]
  go_at_call 7
  refine c7.mono ?_
  rintro e w0 ⟨rfl, b0⟩
  have hX0' : w0.heap[w.heap.size]? = some (.cells (cv c p) 34 (0, 0)) := HX.out.later b0
  have c8 := H8.out w0 b0
  clear c7 hX0 hwA H8
  go_wp2_with (first | (refine wpList_load_row rfl 34 (.tmp 2) rfl w.heap.size rfl 34 (cv c p) (0, 0) _ hX0' Tryz.underlying34 rfl hi34 ?_))
  go_at_call 8
  refine c8.mono ?_
  rintro e w1 ⟨rfl, b1'⟩
  have b1 := chain b0 b1'
  have hX1 : w1.heap[w.heap.size]? = some (.cells (cv c p) 34 (0, 0)) := HX.out.later b1
  have c9 := H9.out w1 b1
  clear c8 hX0'
  go_wp2_with (first | (refine wpList_load_row rfl 34 (.tmp 2) rfl w.heap.size rfl 34 (cv c p) (0, 0) _ hX1 Tryz.underlying34 rfl hi34 ?_))
  go_at_call 9
  refine c9.mono ?_
  rintro e w2 ⟨rfl, b2⟩
  have b12 := chain b1 b2
  have hX2 : w2.heap[w.heap.size]? = some (.cells (cv c p) 34 (0, 0)) := HX.out.later b12
  have c10 := H10.out w2 b12
  clear c9 hX1 H9
  go_wp2_with (first | (refine wpList_load_row rfl 34 (.tmp 2) rfl w.heap.size rfl 34 (cv c p) (0, 0) _ hX2 Tryz.underlying34 rfl hi34 ?_))
  go_at_call 10
  refine c10.mono ?_
  rintro e w3 ⟨rfl, b3⟩
  have HB := (show Hid (Below w.heap.size w w3) from chain HB0.out (chain b12 b3))
  clear c10 hX2 H10
  go_wp2_with (fail)
  go_ret
  exact ⟨rfl, HB.out⟩
set_option maxHeartbeats 4000000 in
/-- the configuration may be, the text is short enough -/
theorem tells_yes (c : Cf) (p : Cp) (s : ByteArray) (hs : s.size ≤ 4096) (h0 : cfE c = 0) (hsane : c.t.sane) (w : World) (hv : CfAt w c p) : Calls Tryz.prog 3 #[.agg (cv c p), .string s] w fun e w' => e = .returned (.bool true) ∧ Below w.heap.size w w' := by
  obtain ⟨wA, hwA⟩ : ∃ wA, wA = w.alloc (.cells (cv c p) 34) := ⟨_, rfl⟩
  have B0 : Below w.heap.size w wA := by rw [hwA]; exact below_alloc w _
  have hX0 : (w.alloc (.cells (cv c p) 34)).heap[w.heap.size]? = some (.cells (cv c p) 34 (0, 0)) := cbox_new w c p
  have HX := (show Hid (CBox wA w.heap.size c p) from by rw [hwA]; exact cbox_new w c p)
  have hi34 := info34 c p
  have HC := (show Hid (CfAt wA c p) from hv.later B0)
  have HB0 := (show Hid (Below w.heap.size w wA) from B0)
  have c7 := little_any c p s (by omega) wA (hv.later B0)
  have hz := cut_le s (little c)
  have hz2 := (little_le c).2
  have hn60 := nrm_sixty h0 s
  generalize cutN s (little c) = u at *
  obtain ⟨g1, g2, g3, g4⟩ := split_ok h0
  have hd30 := (nb.right_of c.t g1).1
  have hwd := words_of c.t g3 g2 hsane hd30 (nrm c.ps u) hn60
  have HWD := (show Hid (Words (nrm c.ps u) c.t (StopS (built c.t).es (nrm c.ps u))) from hwd)
  have H0 := (show Hid (cfE c = 0) from h0)
  have HN60 := (show Hid ((nrm c.ps u).size ≤ 60) from hn60)
  have H8 := (show Hid (∀ W, Below wA.heap.size wA W → Calls Tryz.prog 8 #[.agg (cv c p), .string u] W (NormOut c u W)) from fun W b => norm_any c p u (by omega) W (HC.out.later b))
  have H9 := (show Hid (∀ W, Below wA.heap.size wA W → Calls Tryz.prog 9 #[.agg (cv c p), .string u] W (TokOut c u W)) from fun W b => tok_any c p u (by omega) hsane W (HC.out.later b))
  have H10 := (show Hid (∀ W, Below wA.heap.size wA W → Calls Tryz.prog 10 #[.agg (cv c p)] W fun e w' => e = .returned (.int .i64 ((0 : Nat) : Int)) ∧ Below W.heap.size W w') from fun W b => cf.rright_any c p W (HC.out.later b) 0 h0.symm)
  have H11 := (show Hid (∀ W, Below wA.heap.size wA W → Calls Tryz.prog 11 #[.agg (cv c p), .string u] W fun e w' => e = .returned (.string (nrm c.ps u)) ∧ Below W.heap.size W w') from fun W b => rnorm_any c p u (by omega) h0 W (HC.out.later b))
  have H13 := (show Hid (∀ W, Below wA.heap.size wA W → ∀ ps, Cuts (StopS (built c.t).es (nrm c.ps u)) (nrm c.ps u).size 0 ps → Calls Tryz.prog 13 #[.agg (cv c p), .string u] W fun e w' => ∃ v, e = .returned v ∧ IntsV w' v (nameIds c c.bf ++ idsC c.ms (textsC (nrm c.ps u) ps) ++ nameIds c c.af) ∧ Below W.heap.size W w') from fun W b ps hps => rtok_any c p u (by omega) h0 ps hps hn60 hwd W (HC.out.later b))
  have hsi : (s.size : Int) ≤ 4096 := by omega
  have hui : ¬ (4096 : Int) < (u.size : Int) := by omega
  unfold NormOut at H8
  unfold TokOut at H9
  obtain ⟨n, hn⟩ : ∃ n, n = nrm c.ps u := ⟨_, rfl⟩
  rw [← hn] at H8 H9 H11 H13
  have h64 : u.size ≤ 60 := by omega
  clear hv B0 h0 hn60 hwd g1 g2 g3 g4 hd30 HWD HN60 hz hz2 hn hs
  go_enter Tryz.func3, Tryz.ntmps3
  go_wp2_with (first | (refine wpList_load_row rfl 34 (.tmp 2) rfl w.heap.size rfl 34 (cv c p) (0, 0) _ hX0 Tryz.underlying34 rfl hi34 ?_))
  rw [← hwA]
  go_at_call 7
  refine c7.mono ?_
  rintro e w0 ⟨rfl, b0⟩
  have hX0' : w0.heap[w.heap.size]? = some (.cells (cv c p) 34 (0, 0)) := HX.out.later b0
  have c8 := H8.out w0 b0
  clear c7 hX0 hwA H8
  go_wp2_with (first | (refine wpList_load_row rfl 34 (.tmp 2) rfl w.heap.size rfl 34 (cv c p) (0, 0) _ hX0' Tryz.underlying34 rfl hi34 ?_))
  go_at_call 8
  refine c8.mono ?_
  rintro e w1 ⟨r1, t, rfl, hr1, hn0, hn1, b1'⟩
  obtain rfl : r1 = 0 := hr1.trans H0.out
  obtain rfl : t = n := hn0 rfl
  have b1 := chain b0 b1'
  have hX1 : w1.heap[w.heap.size]? = some (.cells (cv c p) 34 (0, 0)) := HX.out.later b1
  have c9 := H9.out w1 b1
  clear c8 hX0' hr1 hn0 hn1
  go_wp2_with (first | (refine wpList_load_row rfl 34 (.tmp 2) rfl w.heap.size rfl 34 (cv c p) (0, 0) _ hX1 Tryz.underlying34 rfl hi34 ?_))
  go_at_call 9
  refine c9.mono ?_
  rintro e w2 ⟨r2, v2, l2, rfl, hr2, hi2, hl0, hl1, b2⟩
  obtain rfl : r2 = 0 := hr2.trans H0.out
  obtain ⟨mid, hm1, hm2, hl⟩ := hl1 rfl
  obtain ⟨ps, hps, hmid⟩ := mids_cuts hm1
  have H13b := (show Hid (∀ W, Below wA.heap.size wA W → Calls Tryz.prog 13 #[.agg (cv c p), .string u] W fun e w' => ∃ v, e = .returned v ∧ IntsV w' v l2 ∧ Below W.heap.size W w') from fun W b => by rw [hl, hmid]; exact H13.out W b ps hps)
  have HI2 := (show Hid (IntsV w2 v2 l2) from ids_ints hi2)
  obtain ⟨o2, cap2, rfl, hp1, hp2⟩ := ow.form hi2
  have b12 := chain b1 b2
  have hX2 : w2.heap[w.heap.size]? = some (.cells (cv c p) 34 (0, 0)) := HX.out.later b12
  have c10 := H10.out w2 b12
  clear c9 hX1 H9 hr2 hi2 hl0 hl1 hm1 hm2 hl hps hmid H13 mid ps
  go_wp2_with (first | (refine wpList_load_row rfl 34 (.tmp 2) rfl w.heap.size rfl 34 (cv c p) (0, 0) _ hX2 Tryz.underlying34 rfl hi34 ?_))
  go_at_call 10
  refine c10.mono ?_
  rintro e w3 ⟨rfl, b3⟩
  have b13 := chain b12 b3
  have HB := (show Hid (Below wA.heap.size wA w3) from b13)
  have HI3 := (show Hid (IntsV w3 (.slice o2 l2.length cap2) l2) from HI2.out.later b3)
  have c11 := H11.out w3 b13
  have H12 := (show Hid (∀ W v, IntsV W (.slice o2 l2.length cap2) l2 → IntsV W v l2 → Calls Tryz.prog 12 #[.slice o2 l2.length cap2, v] W fun e w' => e = .returned (.bool true) ∧ Below W.heap.size W w') from fun W v h1 h2 => mg.ints_same l2 _ _ W h1 h2)
  obtain ⟨q0, q1, q2, q3, q4, q5, q6, q7, q8, q9, q10, q11, q12⟩ := cells13 (show _ = _ from HX.out.later b13)
  unfold cv at c11 H13b
  clear c10 hX2 H10 H11 HI2
  go_wp2_with (fail)
  refine c11.mono ?_
  rintro e w4 ⟨rfl, b4⟩
  have b14 := chain b13 b4
  have c13 := H13b.out w4 b14
  have HI4 := (show Hid (IntsV w4 (.slice o2 l2.length cap2) l2) from HI3.out.later b4)
  clear c11 q0 q1 q2 q3 q4 q5 q6 q7 q8 q9 q10 q11 q12 H13b HI3
  obtain ⟨u0, u1, u2, u3, u4, u5, u6, u7, u8, u9, u10, u11, u12⟩ := cells13 (show _ = _ from HX.out.later b14)
  go_wp2_with (fail)
  refine c13.mono ?_
  rintro e w5 ⟨v5, rfl, hi5, b5⟩
  have b15 := chain b14 b5
  have c12 := H12.out w5 v5 (HI4.out.later b5) hi5
  clear c13 u0 u1 u2 u3 u4 u5 u6 u7 u8 u9 u10 u11 u12 hi5 H12 HI4
  go_wp2_with (fail)
  refine c12.mono ?_
  rintro e w6 ⟨rfl, b6⟩
  clear c12
  go_wp2_with (fail)
  go_ret
  exact ⟨rfl, chain HB0.out (chain b15 b6)⟩
theorem tells_any (c : Cf) (p : Cp) (s : ByteArray) (hs : s.size ≤ 140737488351232) (hsane : c.t.sane) (w : World) (hv : CfAt w c p) : Calls Tryz.prog 3 #[.agg (cv c p), .string s] w fun e w' => e = .returned (.bool true) ∧ Below w.heap.size w w' := by
  by_cases h : 4096 < s.size
  · exact tells_no c p s hs h w hv
  · by_cases h0 : cfE c = 0
    · exact tells_yes c p s (by omega) h0 hsane w hv
    · exact tells_bad c p s (by omega) h0 w hv
end Go.Proofs.YthmecbonjkcnmaaGreat.tk
