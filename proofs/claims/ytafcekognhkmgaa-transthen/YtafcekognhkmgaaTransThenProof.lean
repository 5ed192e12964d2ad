/-
  For all machines and every text the law TransThen of package fretsawlaw12 returns true (one machine behind the other puts what the second one puts of what the first one puts; it is made, if they are small enough), and the arguments read as before
-/
import Derived.Test.YtafcekognhkmgaaKn
import Derived.Test.YtafcekognhkmgaaKo
import Derived.Test.YtafcekognhkmgaaTk
import Derived.Test.YtafcekognhkmgaaTt
import Derived.ProofKit
import Derived.ShutString
namespace Go.Proofs.Ytafcekognhkmgaa.transThen
open Go.ChangeShapes Go.WideShapes Go.ChangeAt Go.RowKit
open Go.ChangeMaps (open_string shut_string)
open tr mk
set_option linter.unusedVariables false

theorem own : ownKnob Try.prog.godebug = none := by kernel_rfl
theorem laidOut : laidOutB Try.prog = true := by kernel_rfl

def cut (s : ByteArray) : ByteArray := if s.size ≤ 60 then s else s.extract 0 60
theorem cut_size (s : ByteArray) : (cut s).size ≤ 60 := by
  unfold cut
  split
  · assumption
  · simp; omega
set_option maxHeartbeats 4000000 in
set_option maxRecDepth 100000 in
theorem bad {a b : Mc} {pa pb : Mp} {w : World} (hMa : MAt (In w) w a pa) (hMb : MAt (In w) w b pb) {s : ByteArray} (hs : s.size ≤ 140737488351232) (hbad : right a = false ∨ right b = false):
    Calls Try.prog 5 #[.agg (mv a pa), .agg (mv b pb), .string s] w fun e w' => e = .returned (.bool true) ∧ Below w.heap.size w w' := by
  obtain ⟨w2, HW2⟩ : ∃ w2, Hid (w2 = (w.alloc (.cells (mv a pa) 26)).alloc (.cells (mv b pb) 26)) := ⟨_, rfl⟩
  have B2 : Below w.heap.size w w2 := by rw [HW2.out]; exact chain (below_alloc w _) (below_alloc _ _)
  have bA : Box w2 w.heap.size a pa := by rw [HW2.out]; exact box_at w a pa
  have bB : Box w2 (w.heap.size + 1) b pb := by
    have := box_new (w.alloc (.cells (mv a pa) 26)) b pb
    rw [show (w.alloc (.cells (mv a pa) 26)).heap.size = w.heap.size + 1 by simp] at this
    rw [HW2.out]
    exact this
  have HX : Hid (∀ W, Below w2.heap.size w2 W → Box W w.heap.size a pa ∧ Box W (w.heap.size + 1) b pb ∧ MAt (In W) W a pa ∧ MAt (In W) W b pb) := fun W hb => ⟨bA.later hb, bB.later hb, hMa.later (chain B2 hb), hMb.later (chain B2 hb)⟩
  have c17 := large_any a pa w2 (hMa.later B2)
  have d17 := fun W hb => large_any b pb W (HX.out W hb).2.2.2
  have HD17 : Hid (∀ W, Below w2.heap.size w2 W → Calls Try.prog 17 #[.agg (mv b pb)] W (LargeOut W)) := d17
  clear d17
  have bA2 := bA
  rw [HW2.out] at c17 bA2
  clear hMa hMb bA bB
  go_enter Try.func5, Try.ntmps5
  go_wp2_with (refine wpList_load_row rfl 26 (.tmp 3) rfl w.heap.size rfl 26 (mv a pa) (0, 0) _ bA2 Try.underlying26 rfl info26 ?_)
  rw [← HW2.out] at *
  have hn2 : w.heap.size ≤ w2.heap.size := B2.size
  clear HW2 bA2
  refine c17.mono ?_
  rintro e w3 ⟨r1, rfl, b3⟩
  clear c17
  cases r1 with
  | true =>
    go_wp2_with (fail)
    go_ret
    exact ⟨rfl, B2.trans (b3.mono hn2)⟩
  | false =>
    have bB3 := (HX.out w3 b3).2.1
    go_wp2_with (refine load_if (by kernel_rfl) 26 (.tmp 4) rfl (w.heap.size + 1) rfl 26 (mv b pb) (0, 0) _ bB3 Try.underlying26 rfl info26 ?_)
    refine (HD17.out w3 b3).mono ?_
    rintro e w4 ⟨r2, rfl, b4⟩
    have K4 : Below w2.heap.size w2 w4 := chain b3 b4
    have B4 : Below w.heap.size w w4 := B2.trans (K4.mono hn2)
    have hn4 : w.heap.size ≤ w4.heap.size := Nat.le_trans hn2 K4.size
    clear b3 b4 bB3 HD17
    cases r2 with
    | true =>
      go_wp2_with (fail)
      go_ret
      exact ⟨rfl, B4⟩
    | false =>
      have HX4 : Hid (∀ W, Below w4.heap.size w4 W → Box W w.heap.size a pa ∧ Box W (w.heap.size + 1) b pb ∧ MAt (In W) W a pa ∧ MAt (In W) W b pb) := fun W hb => HX.out W (chain K4 hb)
      obtain ⟨bA4, bB4, mA4, mB4⟩ := HX4.out w4 (Below.refl _ _)
      clear HX K4 B2 hn2
      have c18 := then_bad mA4 mB4 _ rfl hbad
      have HH : Hid (∀ (w5 : World), Below w4.heap.size w4 w5 → Below w4.heap.size w4 (w5.alloc (.cells nil4 26)) ∧ Box (w5.alloc (.cells nil4 26)) w.heap.size a pa ∧ MAt (In (w5.alloc (.cells nil4 26))) (w5.alloc (.cells nil4 26)) a pa) := fun w5 b5 => ⟨chain b5 (below_alloc _ _), (HX4.out _ (chain b5 (below_alloc _ _))).1, (HX4.out _ (chain b5 (below_alloc _ _))).2.2.1⟩
      have HC : Hid (∀ (w5 W : World), Below (w5.alloc (.cells nil4 26)).heap.size (w5.alloc (.cells nil4 26)) W → W.cell? ⟨w5.heap.size, 0, none⟩ = some (.slice none 0 0)) := fun w5 W hb => by
        have h0 : (w5.alloc (.cells nil4 26)).heap[w5.heap.size]? = some (.cells nil4 26 (0, 0)) := heap_alloc_new w5 _
        rw [Lib.cell_of_heap ((hb.block _ (Array.getElem?_eq_some_iff.1 h0).1).trans h0)]
        rfl
      cases hra : right a with
      | false =>
        have HR10 := rright_any a false hra.symm pa
        clear hbad hra
        go_wp2_with (first | (refine wpList_load_row rfl 26 (.tmp 3) rfl w.heap.size rfl 26 (mv a pa) (0, 0) _ bA4 Try.underlying26 rfl info26 ?_) | (refine wpList_load_row rfl 26 (.tmp 4) rfl (w.heap.size + 1) rfl 26 (mv b pb) (0, 0) _ bB4 Try.underlying26 rfl info26 ?_) | (go_at_call 18; refine c18.mono ?_; rintro e w5 ⟨rfl, b5⟩; have bA6 := (HH.out w5 b5).2.1; have c10 := HR10 _ (HH.out w5 b5).2.2; have K6 := (HH.out w5 b5).1; clear c18 bA4 bB4) | (refine wpList_load_row rfl 26 (.tmp 3) rfl w.heap.size rfl 26 (mv a pa) (0, 0) _ bA6 Try.underlying26 rfl info26 ?_) | (go_at_call 10; refine c10.mono ?_; rintro e w7 ⟨rfl, b7⟩; have h7 := HC.out w5 w7 b7; clear c10))
        go_ret
        exact ⟨rfl, B4.trans ((chain K6 b7).mono hn4)⟩
      | true =>
        have hrb : right b = false := by
          rcases hbad with h | h
          · rw [hra] at h; cases h
          · exact h
        have HR10 := rright_any a true hra.symm pa
        have HRB : Hid (RightIs 10 b false) := rright_any b false hrb.symm
        clear hbad hra hrb
        go_wp2_with (first | (refine wpList_load_row rfl 26 (.tmp 3) rfl w.heap.size rfl 26 (mv a pa) (0, 0) _ bA4 Try.underlying26 rfl info26 ?_) | (refine wpList_load_row rfl 26 (.tmp 4) rfl (w.heap.size + 1) rfl 26 (mv b pb) (0, 0) _ bB4 Try.underlying26 rfl info26 ?_) | (go_at_call 18; refine c18.mono ?_; rintro e w5 ⟨rfl, b5⟩; have bA6 := (HH.out w5 b5).2.1; have c10 := HR10 _ (HH.out w5 b5).2.2; have K6 := (HH.out w5 b5).1; clear c18 bA4 bB4) | (refine wpList_load_row rfl 26 (.tmp 3) rfl w.heap.size rfl 26 (mv a pa) (0, 0) _ bA6 Try.underlying26 rfl info26 ?_) | (go_at_call 10; refine c10.mono ?_; rintro e w7 ⟨rfl, b7⟩; have bB7 := (HX4.out w7 (chain K6 b7)).2.1; have d10 := HRB.out pb w7 (HX4.out w7 (chain K6 b7)).2.2.2; clear c10 bA6) | (refine load_if (by kernel_rfl) 26 (.tmp 4) rfl (w.heap.size + 1) rfl 26 (mv b pb) (0, 0) _ bB7 Try.underlying26 rfl info26 ?_) | (go_at_call 10; refine d10.mono ?_; rintro e w8 ⟨rfl, b8⟩; have h8 := HC.out w5 w8 (chain b7 b8); clear d10))
        go_ret
        exact ⟨rfl, B4.trans ((chain (chain K6 b7) b8).mono hn4)⟩
set_option maxHeartbeats 4000000 in
set_option maxRecDepth 100000 in
theorem good {a b : Mc} {pa pb : Mp} {w : World} (hMa : MAt (In w) w a pa) (hMb : MAt (In w) w b pb) {s : ByteArray} (hs : s.size ≤ 140737488351232) (hA : Right a) (hB : Right b):
    Calls Try.prog 5 #[.agg (mv a pa), .agg (mv b pb), .string s] w fun e w' => e = .returned (.bool true) ∧ Below w.heap.size w w' := by
  obtain ⟨w2, HW2⟩ : ∃ w2, Hid (w2 = (w.alloc (.cells (mv a pa) 26)).alloc (.cells (mv b pb) 26)) := ⟨_, rfl⟩
  have B2 : Below w.heap.size w w2 := by rw [HW2.out]; exact chain (below_alloc w _) (below_alloc _ _)
  have bA : Box w2 w.heap.size a pa := by rw [HW2.out]; exact box_at w a pa
  have bB : Box w2 (w.heap.size + 1) b pb := by
    have := box_new (w.alloc (.cells (mv a pa) 26)) b pb
    rw [show (w.alloc (.cells (mv a pa) 26)).heap.size = w.heap.size + 1 by simp] at this
    rw [HW2.out]
    exact this
  have HX : Hid (∀ W, Below w2.heap.size w2 W → Box W w.heap.size a pa ∧ Box W (w.heap.size + 1) b pb ∧ MAt (In W) W a pa ∧ MAt (In W) W b pb) := fun W hb => ⟨bA.later hb, bB.later hb, hMa.later (chain B2 hb), hMb.later (chain B2 hb)⟩
  have c17 := large_any a pa w2 (hMa.later B2)
  have d17 := fun W hb => large_any b pb W (HX.out W hb).2.2.2
  have HD17 : Hid (∀ W, Below w2.heap.size w2 W → Calls Try.prog 17 #[.agg (mv b pb)] W (LargeOut W)) := d17
  clear d17
  have bA2 := bA
  rw [HW2.out] at c17 bA2
  clear hMa hMb bA bB
  go_enter Try.func5, Try.ntmps5
  go_wp2_with (refine wpList_load_row rfl 26 (.tmp 3) rfl w.heap.size rfl 26 (mv a pa) (0, 0) _ bA2 Try.underlying26 rfl info26 ?_)
  rw [← HW2.out] at *
  have hn2 : w.heap.size ≤ w2.heap.size := B2.size
  clear HW2 bA2
  refine c17.mono ?_
  rintro e w3 ⟨r1, rfl, b3⟩
  clear c17
  cases r1 with
  | true =>
    go_wp2_with (fail)
    go_ret
    exact ⟨rfl, B2.trans (b3.mono hn2)⟩
  | false =>
    have bB3 := (HX.out w3 b3).2.1
    go_wp2_with (refine load_if (by kernel_rfl) 26 (.tmp 4) rfl (w.heap.size + 1) rfl 26 (mv b pb) (0, 0) _ bB3 Try.underlying26 rfl info26 ?_)
    refine (HD17.out w3 b3).mono ?_
    rintro e w4 ⟨r2, rfl, b4⟩
    have K4 : Below w2.heap.size w2 w4 := chain b3 b4
    have B4 : Below w.heap.size w w4 := B2.trans (K4.mono hn2)
    have hn4 : w.heap.size ≤ w4.heap.size := Nat.le_trans hn2 K4.size
    clear b3 b4 bB3 HD17
    cases r2 with
    | true =>
      go_wp2_with (fail)
      go_ret
      exact ⟨rfl, B4⟩
    | false =>
      have HX4 : Hid (∀ W, Below w4.heap.size w4 W → Box W w.heap.size a pa ∧ Box W (w.heap.size + 1) b pb ∧ MAt (In W) W a pa ∧ MAt (In W) W b pb) := fun W hb => HX.out W (chain K4 hb)
      obtain ⟨bA4, bB4, mA4, mB4⟩ := HX4.out w4 (Below.refl _ _)
      clear HX K4 B2 hn2
      have c18 := then_good hA hB mA4 mB4
      have HA : Hid (Right a) := hA
      have HB : Hid (Right b) := hB
      clear hA hB mA4 mB4
      go_wp2_with (first | (refine wpList_load_row rfl 26 (.tmp 3) rfl w.heap.size rfl 26 (mv a pa) (0, 0) _ bA4 Try.underlying26 rfl info26 ?_) | (refine wpList_load_row rfl 26 (.tmp 4) rfl (w.heap.size + 1) rfl 26 (mv b pb) (0, 0) _ bB4 Try.underlying26 rfl info26 ?_))
      refine c18.mono ?_
      intro e w5 hM5
      clear c18 bA4 bB4
      rcases hM5 with ⟨d, p, rfl, hmat, hpl, h1, h2, h3, b5⟩ | ⟨d, i, rfl, hpl, hle, hfull, b5⟩
      · skip
        have hmR : Right (mcOf d) := hpl.right h1 h2 h3
        have hmT := hpl.total h3
        clear hpl h1 h2 h3
        generalize mcOf d = m at *
        obtain ⟨w6, HW6⟩ : ∃ w6, Hid (w6 = (w5.alloc (.cells nil4 26)).setRow w5.heap.size (mv m p)) := ⟨_, rfl⟩
        have h0 : (w5.alloc (.cells nil4 26)).heap[w5.heap.size]? = some (.cells nil4 26 (0, 0)) := heap_alloc_new w5 _
        have bM6 : Box w6 w5.heap.size m p := by rw [HW6.out]; exact setRow_heap _ _ _ _ _ _ h0
        have B6 : Below w5.heap.size w5 w6 := by rw [HW6.out]; exact below_setRow (below_alloc _ _) (Nat.le_refl _) _
        have mM6 : MAt (In w6) w6 m p := hmat.carry (fun g hg => B6.block g hg.2) (fun g hg => Nat.lt_of_lt_of_le hg.2 B6.size)
        have K6 : Below w4.heap.size w4 w6 := chain b5 B6
        obtain ⟨bA6, _, mA6, _⟩ := HX4.out w6 K6
        have c10 := rright_any a true (right_iff.2 HA.out).symm pa w6 mA6
        have HRB : Hid (RightIs 10 b true) := rright_any b true (right_iff.2 HB.out).symm
        have HRM0 : Hid (RightIs 10 m true) := rright_any m true (right_iff.2 hmR).symm
        have HXM : Hid (∀ W, Below w6.heap.size w6 W → Box W w5.heap.size m p ∧ MAt (In W) W m p) := fun W hb => ⟨bM6.later hb, mM6.later hb⟩
        have hcs := cut_size s
        obtain ⟨x, hx⟩ : ∃ x, x = rrunT a (cut s) 4096 := ⟨_, rfl⟩
        obtain ⟨f, hf⟩ : ∃ f, f = rrunL a (cut s) 4096 := ⟨_, rfl⟩
        obtain ⟨y, hy⟩ : ∃ y, y = rrunT b x 262144 := ⟨_, rfl⟩
        obtain ⟨g, hg⟩ : ∃ g, g = rrunL b x 262144 := ⟨_, rfl⟩
        have hxs : x.size ≤ 4096 := by
          rw [hx]
          unfold rrunT
          split
          · rw [bs_size]; assumption
          · decide
        have HRA : Hid (RRunIs a (cut s) 4096 x f) := rrun_any a HA.out (cut s) (by omega) 4096 (by omega) x f hx hf
        have HRB2 : Hid (RRunIs b x 262144 y g) := rrun_any b HB.out x (by omega) 262144 (by omega) y g hy hg
        have HRM : Hid (f = false → g = false → RunIs m (cut s) y 0) := fun ef eg => by
          rw [hf] at ef
          rw [hg] at eg
          unfold rrunL at ef eg
          have l1 := of_decide_eq_false ef
          have l2 := of_decide_eq_false eg
          have hx2 : x.data.toList = total a 0 (cut s).data.toList := by rw [hx]; unfold rrunT; rw [if_pos (by omega)]
          rw [hx2] at l2
          have hyy : y = bs (total b 0 (total a 0 (cut s).data.toList)) := by rw [hy]; unfold rrunT; rw [hx2, if_pos (by omega)]
          have hrt : right m = true := right_iff.2 hmR
          refine run_any m (cut s) (by omega) y 0 ?_ ?_
          · unfold tr.runT; rw [if_pos ⟨hrt, by omega, by rw [hmT]; omega⟩, hmT, hyy]
          · unfold tr.runE; rw [if_pos hrt, if_pos ⟨by omega, by rw [hmT]; omega⟩]
        have c15 := short_any s 60 (by omega) (by omega)
        rw [show (if s.size ≤ 60 then s else s.extract 0 60) = cut s from rfl] at c15
        have HB4 : Hid (∀ W, Below w4.heap.size w4 W → Below w.heap.size w W) := fun W hb => B4.trans (hb.mono hn4)
        clear hmR hmT hx hf hy hg hxs bM6 mM6 mA6 hmat b5 B6 B4
        generalize cut s = u at *
        go_wp2_with (first | (refine wpList_store_row (by rfl) 26 (.tmp 7) (.tmp 25) (by rfl) w5.heap.size (mv m p) (by rfl) (by rfl) 26 nil4 h0 info26 rfl (by simp [Value.oneCell', mv]) ?_; rw [← HW6.out]) | (refine wpList_load_row rfl 26 (.tmp 3) rfl w.heap.size rfl 26 (mv a pa) (0, 0) _ bA6 Try.underlying26 rfl info26 ?_) | (go_at_call 10; refine c10.mono ?_; rintro e w7 ⟨rfl, b7⟩; have bB7 := (HX4.out w7 (chain K6 b7)).2.1; have d10 := HRB.out pb w7 (HX4.out w7 (chain K6 b7)).2.2.2; clear c10 bA6 h0) | (refine load_if (by kernel_rfl) 26 (.tmp 4) rfl (w.heap.size + 1) rfl 26 (mv b pb) (0, 0) _ bB7 Try.underlying26 rfl info26 ?_) | (go_at_call 10; refine d10.mono ?_; rintro e w8 ⟨rfl, b8⟩; have M8 := chain b7 b8; clear d10 bB7))
        refine (c15 _).mono ?_
        rintro e w8 ⟨rfl, rfl⟩
        have K8 := chain K6 M8
        have bA8 := (HX4.out _ K8).1
        have c12 := HRA.out pa _ (HX4.out _ K8).2.2.1
        clear c15 HW6 b7 b8
        go_wp2_with ((refine wpList_load_row rfl 26 (.tmp 3) rfl w.heap.size rfl 26 (mv a pa) (0, 0) _ bA8 Try.underlying26 rfl info26 ?_))
        refine c12.mono ?_
        rintro e w9 ⟨rfl, b9⟩
        have M9 := chain M8 b9
        have K9 := chain K6 M9
        have bB9 := (HX4.out _ K9).2.1
        have d12 := HRB2.out pb _ (HX4.out _ K9).2.2.2
        clear c12 bA8 b9
        go_wp2_with ((refine wpList_load_row rfl 26 (.tmp 4) rfl (w.heap.size + 1) rfl 26 (mv b pb) (0, 0) _ bB9 Try.underlying26 rfl info26 ?_))
        refine d12.mono ?_
        rintro e wt ⟨rfl, bt⟩
        have Mt := chain M9 bt
        have Kt := chain K6 Mt
        clear d12 bB9 bt
        cases f with
        | true =>
          go_wp2_with (fail)
          go_ret
          exact ⟨rfl, HB4.out _ Kt⟩
        | false =>
          cases g with
          | true =>
            go_wp2_with (fail)
            go_ret
            exact ⟨rfl, HB4.out _ Kt⟩
          | false =>
            have bMt := (HXM.out _ Mt).1
            have c11 := HRM.out rfl rfl p _ (HXM.out _ Mt).2
            go_wp2_with ((refine wpList_load_row rfl 26 (.tmp 7) rfl w5.heap.size rfl 26 (mv m p) (0, 0) _ bMt Try.underlying26 rfl info26 ?_))
            refine c11.mono ?_
            rintro e wu ⟨rfl, bu⟩
            have Mu := chain Mt bu
            have bMu := (HXM.out _ Mu).1
            have e10 := HRM0.out p _ (HXM.out _ Mu).2
            clear c11 bMt
            go_wp2_with ((refine wpList_load_row rfl 26 (.tmp 7) rfl w5.heap.size rfl 26 (mv m p) (0, 0) _ bMu Try.underlying26 rfl info26 ?_))
            refine e10.mono ?_
            rintro e wv ⟨rfl, bv⟩
            have Kv2 := chain K6 (chain Mu bv)
            have hq : (y.toList == y.toList) = true := by simp
            clear e10 bMu
            go_wp2_with (fail)
            go_ret
            exact ⟨rfl, HB4.out _ Kv2⟩
      · skip
        have HC : Hid (∀ W, Below (w5.alloc (.cells nil4 26)).heap.size (w5.alloc (.cells nil4 26)) W → W.cell? ⟨w5.heap.size, 0, none⟩ = some (.slice none 0 0)) := fun W hb => by
          have h0 : (w5.alloc (.cells nil4 26)).heap[w5.heap.size]? = some (.cells nil4 26 (0, 0)) := heap_alloc_new w5 _
          rw [Lib.cell_of_heap ((hb.block _ (Array.getElem?_eq_some_iff.1 h0).1).trans h0)]
          rfl
        have K6 : Below w4.heap.size w4 (w5.alloc (.cells nil4 26)) := chain b5 (below_alloc _ _)
        obtain ⟨bA6, _, mA6, _⟩ := HX4.out _ K6
        have c10 := rright_any a true (right_iff.2 HA.out).symm pa _ mA6
        have HSM : Hid (∀ ta tb : Bool, ta = (decide (a.next.length ≤ 10) && decide (mostT a.txt ≤ 8)) → tb = (decide (b.next.length ≤ 10) && decide (mostT b.txt ≤ 8)) → ta = true → tb = true → a.next.length ≠ 1 ∧ b.next.length ≠ 1) := fun ta tb e1 e2 e3 e4 => by
          rw [e3] at e1
          rw [e4] at e2
          have e1 := e1.symm
          have e2 := e2.symm
          simp only [Bool.and_eq_true, decide_eq_true_eq] at e1 e2
          exact ⟨fun h => hpl.small hle e1.1 e2.1 (.inl h) ((mostT_le _ _).1 e1.2) ((mostT_le _ _).1 e2.2) hfull, fun h => hpl.small hle e1.1 e2.1 (.inr h) ((mostT_le _ _).1 e1.2) ((mostT_le _ _).1 e2.2) hfull⟩
        obtain ⟨ta, hta⟩ : ∃ ta, ta = (decide (a.next.length ≤ 10) && decide (mostT a.txt ≤ 8)) := ⟨_, rfl⟩
        obtain ⟨tb, htb⟩ : ∃ tb, tb = (decide (b.next.length ≤ 10) && decide (mostT b.txt ≤ 8)) := ⟨_, rfl⟩
        have HTA : Hid (∀ W, MAt (In W) W a pa → Calls Try.prog 19 #[.agg (mv a pa)] W fun e w' => e = .returned (.bool ta) ∧ Below W.heap.size W w') := fun W h => tiny_any a pa ta hta W h
        have HTB : Hid (∀ W, MAt (In W) W b pb → Calls Try.prog 19 #[.agg (mv b pb)] W fun e w' => e = .returned (.bool tb) ∧ Below W.heap.size W w') := fun W h => tiny_any b pb tb htb W h
        have HSM2 := (show Hid _ from HSM.out ta tb hta htb)
        have HRB : Hid (RightIs 10 b true) := rright_any b true (right_iff.2 HB.out).symm
        clear hpl hle hfull HSM hta htb mA6
        cases ta with
        | false =>
          clear HSM2
          go_wp2_with (first | (refine wpList_load_row rfl 26 (.tmp 3) rfl w.heap.size rfl 26 (mv a pa) (0, 0) _ bA6 Try.underlying26 rfl info26 ?_) | (go_at_call 10; refine c10.mono ?_; rintro e w7 ⟨rfl, b7⟩; have bB7 := (HX4.out w7 (chain K6 b7)).2.1; have d10 := HRB.out pb w7 (HX4.out w7 (chain K6 b7)).2.2.2; clear c10 bA6) | (refine load_if (by kernel_rfl) 26 (.tmp 4) rfl (w.heap.size + 1) rfl 26 (mv b pb) (0, 0) _ bB7 Try.underlying26 rfl info26 ?_) | (go_at_call 10; refine d10.mono ?_; rintro e w8 ⟨rfl, b8⟩; have K8 := chain (chain K6 b7) b8; have h8 := HC.out w8 (chain b7 b8); have bA8 := (HX4.out w8 K8).1; have c19 := HTA.out w8 (HX4.out w8 K8).2.2.1; clear d10 bB7) | (refine load_if (by kernel_rfl) 26 (.tmp 3) rfl w.heap.size rfl 26 (mv a pa) (0, 0) _ bA8 Try.underlying26 rfl info26 ?_))
          refine c19.mono ?_
          rintro e w9 ⟨rfl, b9⟩
          have K9 := chain K8 b9
          have bB9 := (HX4.out w9 K9).2.1
          have d19 := HTB.out w9 (HX4.out w9 K9).2.2.2
          clear c19 bA8 HC h8
          clear d19 bB9
          go_wp2_with (fail)
          go_ret
          exact ⟨rfl, B4.trans (K9.mono hn4)⟩
        | true =>
          cases tb with
          | false =>
            clear HSM2
            go_wp2_with (first | (refine wpList_load_row rfl 26 (.tmp 3) rfl w.heap.size rfl 26 (mv a pa) (0, 0) _ bA6 Try.underlying26 rfl info26 ?_) | (go_at_call 10; refine c10.mono ?_; rintro e w7 ⟨rfl, b7⟩; have bB7 := (HX4.out w7 (chain K6 b7)).2.1; have d10 := HRB.out pb w7 (HX4.out w7 (chain K6 b7)).2.2.2; clear c10 bA6) | (refine load_if (by kernel_rfl) 26 (.tmp 4) rfl (w.heap.size + 1) rfl 26 (mv b pb) (0, 0) _ bB7 Try.underlying26 rfl info26 ?_) | (go_at_call 10; refine d10.mono ?_; rintro e w8 ⟨rfl, b8⟩; have K8 := chain (chain K6 b7) b8; have h8 := HC.out w8 (chain b7 b8); have bA8 := (HX4.out w8 K8).1; have c19 := HTA.out w8 (HX4.out w8 K8).2.2.1; clear d10 bB7) | (refine load_if (by kernel_rfl) 26 (.tmp 3) rfl w.heap.size rfl 26 (mv a pa) (0, 0) _ bA8 Try.underlying26 rfl info26 ?_))
            refine c19.mono ?_
            rintro e w9 ⟨rfl, b9⟩
            have K9 := chain K8 b9
            have bB9 := (HX4.out w9 K9).2.1
            have d19 := HTB.out w9 (HX4.out w9 K9).2.2.2
            clear c19 bA8 HC h8
            go_wp2_with ((refine load_if (by kernel_rfl) 26 (.tmp 4) rfl (w.heap.size + 1) rfl 26 (mv b pb) (0, 0) _ bB9 Try.underlying26 rfl info26 ?_))
            refine d19.mono ?_
            rintro e wt ⟨rfl, bt⟩
            have Kt := chain K9 bt
            have x0 := (HX4.out wt Kt).1.c0
            have y0 := (HX4.out wt Kt).2.1.c0
            clear d19 bB9
            clear x0 y0
            go_wp2_with (fail)
            go_ret
            exact ⟨rfl, B4.trans (Kt.mono hn4)⟩
          | true =>
            obtain ⟨n1, n2⟩ := HSM2.out rfl rfl
            have g1 : ((a.next.length : Int) == 1) = false := beq_eq_false_iff_ne.2 (by omega)
            have g2 : ((b.next.length : Int) == 1) = false := beq_eq_false_iff_ne.2 (by omega)
            clear HSM2 n1 n2
            go_wp2_with (first | (refine wpList_load_row rfl 26 (.tmp 3) rfl w.heap.size rfl 26 (mv a pa) (0, 0) _ bA6 Try.underlying26 rfl info26 ?_) | (go_at_call 10; refine c10.mono ?_; rintro e w7 ⟨rfl, b7⟩; have bB7 := (HX4.out w7 (chain K6 b7)).2.1; have d10 := HRB.out pb w7 (HX4.out w7 (chain K6 b7)).2.2.2; clear c10 bA6) | (refine load_if (by kernel_rfl) 26 (.tmp 4) rfl (w.heap.size + 1) rfl 26 (mv b pb) (0, 0) _ bB7 Try.underlying26 rfl info26 ?_) | (go_at_call 10; refine d10.mono ?_; rintro e w8 ⟨rfl, b8⟩; have K8 := chain (chain K6 b7) b8; have h8 := HC.out w8 (chain b7 b8); have bA8 := (HX4.out w8 K8).1; have c19 := HTA.out w8 (HX4.out w8 K8).2.2.1; clear d10 bB7) | (refine load_if (by kernel_rfl) 26 (.tmp 3) rfl w.heap.size rfl 26 (mv a pa) (0, 0) _ bA8 Try.underlying26 rfl info26 ?_))
            refine c19.mono ?_
            rintro e w9 ⟨rfl, b9⟩
            have K9 := chain K8 b9
            have bB9 := (HX4.out w9 K9).2.1
            have d19 := HTB.out w9 (HX4.out w9 K9).2.2.2
            clear c19 bA8 HC h8
            go_wp2_with ((refine load_if (by kernel_rfl) 26 (.tmp 4) rfl (w.heap.size + 1) rfl 26 (mv b pb) (0, 0) _ bB9 Try.underlying26 rfl info26 ?_))
            refine d19.mono ?_
            rintro e wt ⟨rfl, bt⟩
            have Kt := chain K9 bt
            have x0 := (HX4.out wt Kt).1.c0
            have y0 := (HX4.out wt Kt).2.1.c0
            clear d19 bB9
            go_wp2_with (fail)
            go_ret
            exact ⟨rfl, B4.trans (Kt.mono hn4)⟩
theorem walk {a : Mc} {pa : Mp} {w : World} (hMa : MAt (In w) w a pa) {b : Mc} {pb : Mp} (hMb : MAt (In w) w b pb) {s : ByteArray} (hs : s.size ≤ 140737488351232) (w0 : World) (hw0 : w0 = w := by rfl) :
    Calls Try.prog 5 #[.agg (mv a pa), .agg (mv b pb), .string s] w0 fun e w' => e = .returned (.bool true) ∧ Below w0.heap.size w0 w' := by
  subst hw0
  cases ha : right a with
  | false => exact bad hMa hMb hs (.inl ha)
  | true =>
    cases hb : right b with
    | false => exact bad hMa hMb hs (.inr hb)
    | true => exact good hMa hMb hs (right_iff.1 ha) (right_iff.1 hb)

set_option maxRecDepth 100000 in
theorem lifted (os : Os) (started : os.Started) (H : Type) (enc : TypeId × Value → H) :
    ReturnsInHanded {} Try.checked os 5 .any (Rows.transThenSpec.pre6 enc Try.prog Try.f5 Rows.transThenRow.domain false) (Rows.transThenSpec.post enc Try.prog Try.f5 false true false false) := by
  refine returnsInHanded_of_change_sized (C := Try.checked) own started (by kernel_rfl) Try.func5
    (ChangeSpec.witness6 (enc := enc) (C := Try.checked) false ⟨#[], #[.agg #[.slice none 0 0, .slice none 0 0, .slice none 0 0, .slice none 0 0], .agg #[.slice none 0 0, .slice none 0 0, .slice none 0 0, .slice none 0 0], .string ByteArray.empty], []⟩ 8 (by kernel_rfl) (by kernel_rfl) (by kernel_rfl) (by kernel_rfl)) ?_
  intro W base args ds gs before hval0 hW hcnd hsz0 _
  have hsz : (DataW.weightsEach Try.prog (Try.f5.params.toList ++ Rows.transThenSpec.plain.varTypes Try.prog) (ds ++ gs)).all (· ≤ reachBytes) = true := hsz0
  have hval : ∀ (j : Nat) t v, Try.f5.params[j]? = some t → args[j]? = some v → Value.okWide Try.prog W .any base t v := hval0
  have hW' := hW
  obtain ⟨p, q, hA0, hV, rfl, hfz, hnd⟩ := hW
  have hA : DataW.TrodAll enc Try.prog W 0 (fun _ => true) true Try.f5.params.toList args.toList ds p := hA0
  rw [Try.params5] at hA hval hsz
  obtain ⟨v0, vs0, d0, ds0, p0, q0, hargs, rfl, rfl, h0, r0⟩ := trodAll_cons hA
  obtain ⟨v1, vs1, d1, ds1, p1, q1, rfl, rfl, rfl, h1, r1⟩ := trodAll_cons r0
  obtain ⟨v2, vs2, d2, ds2, p2, q2, rfl, rfl, rfl, h2, r2⟩ := trodAll_cons r1
  obtain ⟨rfl, rfl, rfl⟩ := trodAll_nil r2
  obtain rfl : args = #[v0, v1, v2] := by cases args; simp_all
  obtain ⟨rfl, rfl⟩ := trodVars_none hV
  have k0 := h0
  have lt0 : ∀ x ∈ p0, x.block < W.heap.size := by obtain ⟨m, hm⟩ := k0; exact DataW.trod_lt m _ _ _ hm
  obtain ⟨m0, mp0, rfl, F0⟩ := tr.open26 (hval 0 26 v0 rfl rfl) h0
  have k1 := h1
  have lt1 : ∀ x ∈ p1, x.block < W.heap.size := by obtain ⟨m, hm⟩ := k1; exact DataW.trod_lt m _ _ _ hm
  obtain ⟨m1, mp1, rfl, F1⟩ := tr.open26 (hval 1 26 v1 rfl rfl) h1
  obtain ⟨a2, rfl, rfl, rfl, w2⟩ := open_string Try.underlying9 (hval 2 9 v2 rfl rfl) h2
  have F2 : a2.size ≤ 140737488351232 := by
    have := sized_string hsz (j := 2) (t := 9) rfl rfl
    simpa [reachBytes] using this
  clear hA0 hval0
  refine (walk F0 F1 F2 W).mono fun e W' ⟨he, bel⟩ => ?_
  subst he
  exact ⟨_, rfl, _, _, _, [], _, [], hW', trodAll_mk1 (shut_bool Try.underlying4 _), (trodAll_cons_mk (Below.trod laidOut (by kernel_rfl) (of_decide_eq_true (by kernel_rfl)) k0 bel lt0) (trodAll_cons_mk (Below.trod laidOut (by kernel_rfl) (of_decide_eq_true (by kernel_rfl)) k1 bel lt1) (trodAll_cons_mk (shut_string Try.underlying9 w2) trodAll_mk0))), rfl, bel.frame _, fun h => by cases h⟩

theorem over : Rows.transThenRow.holds Try.pinned (OpenSpec.ofChange Rows.transThenSpec) :=
  OpenClaim.holds_of_wide 5 Try.f5 rfl rfl rfl rfl rfl rfl rfl ⟨rfl, rfl, rfl, rfl, rfl⟩ rfl rfl rfl rfl rfl (by kernel_rfl) Try.func5 (by kernel_rfl)
    (of_decide_eq_true (by kernel_rfl)) (by unfold Func.isWrapper; first | (rw [if_pos (by decide +kernel)]; kernel_rfl) | (rw [if_neg (by decide +kernel)]; exact ⟨rfl, rfl⟩))
    (fun os started H enc _ => lifted os started H enc)

theorem proved : Rows.TransThenSaid :=
  over
#print axioms proved
end Go.Proofs.Ytafcekognhkmgaa.transThen
