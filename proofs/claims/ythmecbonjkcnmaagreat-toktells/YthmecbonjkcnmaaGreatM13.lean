/-
  Texts put together: Contracts over this program: the size of an expression (config.size, the document's Size), rightSplit. Contracts over this program: config.size.
-/
import Derived.Test.YthmecbonjkcnmaaGreatM12
import Derived.Test.YthmecbonjkcnmaaGreatM08
import Derived.Test.YthmecbonjkcnmaaGreatM01
namespace Go.Proofs.YthmecbonjkcnmaaGreat.cf
open Go.ChangeShapes Go.WideShapes Go.ChangeAt Go.RowKit
open st (Tr Q4 nodesOf goods okNode nthT Is UpIs)
open mg (chain below_alloc)
set_option linter.unusedVariables false

theorem times_of (t : Tr) (h : okNode t = true) (hk : t.kind = 4) : t.kids.length = 1 ∧ 0 ≤ t.min ∧ t.min ≤ 20 ∧ (t.max = -1 ∨ 0 ≤ t.max ∧ t.max ≤ 20) := by
  unfold okNode st.timesOk at h
  rw [if_neg (by omega), if_neg (by omega), if_neg (by omega), if_pos hk] at h
  simp at h
  omega
/-- what comes of one more -/
theorem size_step (T n m most s : Nat) (hT : 1 ≤ T) (hT2 : T ≤ 20) (hn : 2 ≤ n) (hnm : n ≤ most) (hm : m = Min.min s most) (hmost : most ≤ 1001) : ∃ P : Nat, (m : Int) * (T : Int) = (P : Int) ∧ P ≤ 20020 ∧ (most < n + P → most < n + T * s) ∧ (n + P ≤ most → n + P = n + T * s) := by
  have p1 : m * T ≤ 1001 * 20 := Nat.mul_le_mul (by omega) hT2
  have p2 : T * m ≤ T * s := Nat.mul_le_mul (Nat.le_refl _) (by omega)
  have p3 : m * T = T * m := Nat.mul_comm _ _
  have p4 : m * 1 ≤ m * T := Nat.mul_le_mul (Nat.le_refl _) hT
  refine ⟨m * T, by rw [Int.natCast_mul], by omega, by omega, fun h => ?_⟩
  have : m = s := by omega
  subst this
  omega
set_option maxHeartbeats 4000000 in
set_option maxRecDepth 100000 in
theorem size_any (d : Nat) : ∀ (t : Tr) (most r : Nat), t.depth ≤ d → t.good = true → 2 ≤ most → most ≤ 1001 → r = Min.min (szT t) most → UpIs 27 t most r := by
  induction d with
  | zero => intro t most r hd; have := t.depth_eq; omega
  | succ d ih =>
    intro t most r hd hg hm1 hm2 hr v w P0 hi
    rw [Tr.good_eq, Bool.and_eq_true] at hg
    have HK : Hid (∀ i, i < t.kids.length → (nthT t.kids i).depth ≤ d ∧ (nthT t.kids i).good = true) := fun i hi => by
      have := st.depth_nth t.kids i hi
      rw [Tr.depth_eq] at hd
      exact ⟨by omega, goods_mem t.kids hg.2 _ (st.nthT_mem t.kids i hi)⟩
    obtain ⟨T, hT⟩ : ∃ T, T = tms t.kind t.min t.max := ⟨_, rfl⟩
    have HR : Hid (r = Min.min (2 + T * szs t.kids) most) := by show _ = _; rw [hr, szT_eq, hT]
    have hT1 : 1 ≤ T := by rw [hT]; exact tms_one _ _ _
    have htm := times_of t hg.1
    have hT2 : T ≤ 20 := by
      rw [hT]
      unfold tms
      split
      · next h4 => have := htm h4; omega
      · omega
    obtain ⟨o, cap, b, off, vs, rfl, hcap, hk⟩ := hi.form
    have hll : t.kids.length ≤ 9223372036854775807 := by
      by_cases h0 : 0 < t.kids.length
      · have := (hk 0 h0).2.1; omega
      · omega
    obtain ⟨w1, HW1⟩ : ∃ w1, Hid (w1 = w.alloc (.cells #[.int .i64 t.kind, .int .u64 t.set.a, .int .u64 t.set.b, .int .u64 t.set.c, .int .u64 t.set.d, .int .i64 t.min, .int .i64 t.max, .slice o t.kids.length cap] 29)) := ⟨_, rfl⟩
    have hb1 : Below w.heap.size w w1 := by rw [HW1.out]; exact below_alloc _ _
    have hbx : st.Box w1 w.heap.size t (.slice o t.kids.length cap) := by rw [HW1.out]; exact st.box_new w t _
    have HT : Hid (T = tms t.kind t.min t.max) := hT
    clear hd hr hi hg htm hT
    go_enter Tryz.func27, Tryz.ntmps27
    go_wp2_with (fail)
    rw [← HW1.out]
    go_loopw [5, 13] (fun u x wr => ∃ (i n : Nat), u = .int .i64 n ∧ x = .int .i64 i ∧ i ≤ t.kids.length ∧ 2 ≤ n ∧ n ≤ most ∧ Below w1.heap.size w1 wr ∧ Hid (n = 2 + T * szs (t.kids.take i))) (fun _ x _ => t.kids.length - (intOf x).toNat)
    case atStart => exact ⟨0, 2, rfl, rfl, by omega, by omega, by omega, Below.refl _ _, by show _ = _; simp [szs]⟩
    case round =>
      obtain ⟨i, n, rfl, rfl, hil, hn2, hnp, hB, HI⟩ := hrel
      by_cases hend : i < t.kids.length
      · obtain ⟨rfl, hcm, hb, hne, hcells, hkid⟩ := hk i hend
        have hBw := chain hb1 hB
        have hcells2 := hcells.same (hBw.block b hb)
        have hkid2 := hkid.later hBw
        obtain ⟨o2, n2, cap2, hv2⟩ := hkid.shape
        rw [hv2] at hcells2 hkid2
        obtain ⟨k0, k1, k2, k3, k4, k5, k6, k7⟩ := hcells2
        clear hcells hkid hk hv2
        obtain ⟨m, hm⟩ : ∃ m, m = Min.min (szT (nthT t.kids i)) most := ⟨_, rfl⟩
        have hcall := ih (nthT t.kids i) most m (HK.out i hend).1 (HK.out i hend).2 hm1 hm2 hm
        have hmp : m ≤ 1001 := by omega
        obtain ⟨P, hP, hP2, hP3, hP4⟩ := size_step T n m most (szT (nthT t.kids i)) hT1 hT2 hn2 hnp hm hm2
        have e1 : szs (t.kids.take (i + 1)) = szs (t.kids.take i) + szT (nthT t.kids i) := szs_take _ _ hend
        have e2 : T * szs (t.kids.take (i + 1)) = T * szs (t.kids.take i) + T * szT (nthT t.kids i) := by rw [e1, Nat.mul_add]
        have e3 : T * szs (t.kids.take (i + 1)) ≤ T * szs t.kids := Nat.mul_le_mul (Nat.le_refl _) (szs_le _ _)
        have HF : Hid (most < n + P → r = most) := fun h => by
          have := hP3 h
          have := HI.out
          rw [HR.out]; omega
        have HJ : Hid (n + P ≤ most → n + P = 2 + T * szs (t.kids.take (i + 1))) := fun h => by
          have := hP4 h
          have := HI.out
          omega
        have HBX := (show Hid (∀ W, Below w1.heap.size w1 W → W.cell? ⟨w.heap.size, 0, none⟩ = some (.int .i64 t.kind) ∧ W.cell? ⟨w.heap.size, 5, none⟩ = some (.int .i64 t.min) ∧ W.cell? ⟨w.heap.size, 6, none⟩ = some (.int .i64 t.max)) from fun W h => by
          obtain ⟨b0, b1, b2, b3, b4, b5, b6, b7⟩ := (hbx.below h).cells
          exact ⟨b0, b5, b6⟩)
        have hTT := HT.out
        clear hm hP3 hP4 e1 e2 e3 hbx HW1 HT HK HR HI
        generalize nthT t.kids i = x at *
        generalize t.kids.length = ln at *
        generalize t.kind = k at *
        generalize t.min = mn at *
        generalize t.max = mx at *
        unfold tms at hTT
        by_cases h4 : k = 4
        · subst h4
          rw [if_pos rfl] at hTT
          by_cases hx1 : 1 < mx
          · by_cases hx2 : mx < mn
            · obtain rfl : mn = (T : Int) := by omega
              clear hTT
              by_cases hover : most < n + P
              · have hoi : (most : Int) < (n : Int) + (P : Int) := by omega
                go_wp2_with (go_at_call 27; refine (hcall _ _ _ (hkid2.later (below_alloc _ _))).mono ?_; rintro e w2 ⟨rfl, b2⟩; obtain ⟨q0, q5, q6⟩ := HBX.out w2 (chain hB (chain (below_alloc _ _) b2)))
                go_ret
                exact ⟨by rw [HF.out hover]; rfl, chain hb1 (chain hB (chain (below_alloc _ _) b2))⟩
              · have hoi : ¬ (most : Int) < (n : Int) + (P : Int) := by omega
                go_wp2_with (go_at_call 27; refine (hcall _ _ _ (hkid2.later (below_alloc _ _))).mono ?_; rintro e w2 ⟨rfl, b2⟩; obtain ⟨q0, q5, q6⟩ := HBX.out w2 (chain hB (chain (below_alloc _ _) b2)))
                go_roundw
                case rel => exact ⟨i + 1, n + P, by go_num, by go_num, by omega, by omega, by omega, chain hB (chain (below_alloc _ _) b2), HJ.out (by omega)⟩
                case measure => simp [intOf]; omega
            · obtain rfl : mx = (T : Int) := by omega
              clear hTT
              by_cases hover : most < n + P
              · have hoi : (most : Int) < (n : Int) + (P : Int) := by omega
                go_wp2_with (go_at_call 27; refine (hcall _ _ _ (hkid2.later (below_alloc _ _))).mono ?_; rintro e w2 ⟨rfl, b2⟩; obtain ⟨q0, q5, q6⟩ := HBX.out w2 (chain hB (chain (below_alloc _ _) b2)))
                go_ret
                exact ⟨by rw [HF.out hover]; rfl, chain hb1 (chain hB (chain (below_alloc _ _) b2))⟩
              · have hoi : ¬ (most : Int) < (n : Int) + (P : Int) := by omega
                go_wp2_with (go_at_call 27; refine (hcall _ _ _ (hkid2.later (below_alloc _ _))).mono ?_; rintro e w2 ⟨rfl, b2⟩; obtain ⟨q0, q5, q6⟩ := HBX.out w2 (chain hB (chain (below_alloc _ _) b2)))
                go_roundw
                case rel => exact ⟨i + 1, n + P, by go_num, by go_num, by omega, by omega, by omega, chain hB (chain (below_alloc _ _) b2), HJ.out (by omega)⟩
                case measure => simp [intOf]; omega
          · by_cases hx2 : 1 < mn
            · obtain rfl : mn = (T : Int) := by omega
              clear hTT
              by_cases hover : most < n + P
              · have hoi : (most : Int) < (n : Int) + (P : Int) := by omega
                go_wp2_with (go_at_call 27; refine (hcall _ _ _ (hkid2.later (below_alloc _ _))).mono ?_; rintro e w2 ⟨rfl, b2⟩; obtain ⟨q0, q5, q6⟩ := HBX.out w2 (chain hB (chain (below_alloc _ _) b2)))
                go_ret
                exact ⟨by rw [HF.out hover]; rfl, chain hb1 (chain hB (chain (below_alloc _ _) b2))⟩
              · have hoi : ¬ (most : Int) < (n : Int) + (P : Int) := by omega
                go_wp2_with (go_at_call 27; refine (hcall _ _ _ (hkid2.later (below_alloc _ _))).mono ?_; rintro e w2 ⟨rfl, b2⟩; obtain ⟨q0, q5, q6⟩ := HBX.out w2 (chain hB (chain (below_alloc _ _) b2)))
                go_roundw
                case rel => exact ⟨i + 1, n + P, by go_num, by go_num, by omega, by omega, by omega, chain hB (chain (below_alloc _ _) b2), HJ.out (by omega)⟩
                case measure => simp [intOf]; omega
            · obtain rfl : T = 1 := by omega
              clear hTT
              obtain rfl : P = m := by omega
              clear hP
              by_cases hover : most < n + P
              · have hoi : (most : Int) < (n : Int) + (P : Int) := by omega
                go_wp2_with (go_at_call 27; refine (hcall _ _ _ (hkid2.later (below_alloc _ _))).mono ?_; rintro e w2 ⟨rfl, b2⟩; obtain ⟨q0, q5, q6⟩ := HBX.out w2 (chain hB (chain (below_alloc _ _) b2)))
                go_ret
                exact ⟨by rw [HF.out hover]; rfl, chain hb1 (chain hB (chain (below_alloc _ _) b2))⟩
              · have hoi : ¬ (most : Int) < (n : Int) + (P : Int) := by omega
                go_wp2_with (go_at_call 27; refine (hcall _ _ _ (hkid2.later (below_alloc _ _))).mono ?_; rintro e w2 ⟨rfl, b2⟩; obtain ⟨q0, q5, q6⟩ := HBX.out w2 (chain hB (chain (below_alloc _ _) b2)))
                go_roundw
                case rel => exact ⟨i + 1, n + P, by go_num, by go_num, by omega, by omega, by omega, chain hB (chain (below_alloc _ _) b2), HJ.out (by omega)⟩
                case measure => simp [intOf]; omega
        · have h4b : (k == 4) = false := beq_eq_false_iff_ne.2 h4
          rw [if_neg h4] at hTT
          subst hTT
          obtain rfl : P = m := by omega
          clear hP
          by_cases hover : most < n + P
          · have hoi : (most : Int) < (n : Int) + (P : Int) := by omega
            go_wp2_with (go_at_call 27; refine (hcall _ _ _ (hkid2.later (below_alloc _ _))).mono ?_; rintro e w2 ⟨rfl, b2⟩; obtain ⟨q0, q5, q6⟩ := HBX.out w2 (chain hB (chain (below_alloc _ _) b2)))
            go_ret
            exact ⟨by rw [HF.out hover]; rfl, chain hb1 (chain hB (chain (below_alloc _ _) b2))⟩
          · have hoi : ¬ (most : Int) < (n : Int) + (P : Int) := by omega
            go_wp2_with (go_at_call 27; refine (hcall _ _ _ (hkid2.later (below_alloc _ _))).mono ?_; rintro e w2 ⟨rfl, b2⟩; obtain ⟨q0, q5, q6⟩ := HBX.out w2 (chain hB (chain (below_alloc _ _) b2)))
            go_roundw
            case rel => exact ⟨i + 1, n + P, by go_num, by go_num, by omega, by omega, by omega, chain hB (chain (below_alloc _ _) b2), HJ.out (by omega)⟩
            case measure => simp [intOf]; omega
      · have HF : Hid (r = n) := by
          have h := HI.out
          rw [List.take_of_length_le (by omega)] at h
          show _ = _
          rw [HR.out]; omega
        go_wp2_with (fail)
        go_ret
        exact ⟨by rw [HF.out]; rfl, chain hb1 hB⟩
end Go.Proofs.YthmecbonjkcnmaaGreat.cf

namespace Go.Proofs.YthmecbonjkcnmaaGreat.cf
open Go.ChangeShapes Go.WideShapes Go.ChangeAt Go.RowKit
open st (Tr Q4 nodesOf goods okNode nthT Is UpIs)
open mg (chain below_alloc)
set_option linter.unusedVariables false

/-- config.size -/
def SzIs (t : Tr) (r : Nat) : Prop := ∀ v w P, Is w P t v → Calls Tryz.prog 79 #[.agg #[.int .i64 t.kind, .int .u64 t.set.a, .int .u64 t.set.b, .int .u64 t.set.c, .int .u64 t.set.d, .int .i64 t.min, .int .i64 t.max, v]] w fun e w' => e = .returned (.int .i64 (r : Int)) ∧ Below w.heap.size w w'
set_option maxHeartbeats 4000000 in
set_option maxRecDepth 100000 in
theorem sz_any (d : Nat) : ∀ (t : Tr) (r : Nat), t.depth ≤ d → t.good = true → t.nodes ≤ 512 → r = Min.min (szT t) 1001 → SzIs t r := by
  induction d with
  | zero => intro t r hd; have := t.depth_eq; omega
  | succ d ih =>
    intro t r hd hg hno hr v w P0 hi
    rw [Tr.good_eq, Bool.and_eq_true] at hg
    have hln : t.kids.length ≤ 511 := by
      have := len_nodes t.kids
      have := t.nodes_eq
      omega
    have HK : Hid (∀ i, i < t.kids.length → (nthT t.kids i).depth ≤ d ∧ (nthT t.kids i).good = true ∧ (nthT t.kids i).nodes ≤ 512) := fun i hi => by
      have := st.depth_nth t.kids i hi
      have := st.nodes_nth t.kids i hi
      have := t.nodes_eq
      rw [Tr.depth_eq] at hd
      exact ⟨by omega, goods_mem t.kids hg.2 _ (st.nthT_mem t.kids i hi), by omega⟩
    obtain ⟨T, hT⟩ : ∃ T, T = tms t.kind t.min t.max := ⟨_, rfl⟩
    have hT1 : 1 ≤ T := by rw [hT]; exact tms_one _ _ _
    have htm := times_of t hg.1
    have hT2 : T ≤ 20 := by
      rw [hT]
      unfold tms
      split
      · next h4 => have := htm h4; omega
      · omega
    have HR : Hid (∀ n : Nat, n = cap t.kids → r = Min.min (n * T + 2) 1001) := fun n hn => by
      have h1 := cap_le t.kids t.kids.length (Nat.le_refl _)
      rw [List.take_length] at h1
      rw [hr, szT_eq, ← hT, hn]
      exact (size_end T _ _ hT1 h1.2.1 h1.2.2).symm
    obtain ⟨o, cp, b, off, vs, rfl, hcap, hk⟩ := hi.form
    obtain ⟨w1, HW1⟩ : ∃ w1, Hid (w1 = w.alloc (.cells #[.int .i64 t.kind, .int .u64 t.set.a, .int .u64 t.set.b, .int .u64 t.set.c, .int .u64 t.set.d, .int .i64 t.min, .int .i64 t.max, .slice o t.kids.length cp] 29)) := ⟨_, rfl⟩
    have hb1 : Below w.heap.size w w1 := by rw [HW1.out]; exact below_alloc _ _
    have hbx : st.Box w1 w.heap.size t (.slice o t.kids.length cp) := by rw [HW1.out]; exact st.box_new w t _
    have HT : Hid (T = tms t.kind t.min t.max) := hT
    clear hd hr hi hg htm hT
    go_enter Tryz.func79, Tryz.ntmps79
    go_wp2_with (fail)
    rw [← HW1.out]
    go_loopw [3, 9] (fun u x wr => ∃ (i n : Nat), u = .int .i64 n ∧ x = .int .i64 i ∧ i ≤ t.kids.length ∧ n ≤ 1001 * i ∧ Below w1.heap.size w1 wr ∧ Hid (n = cap (t.kids.take i))) (fun _ x _ => t.kids.length - (intOf x).toNat)
    case atStart => exact ⟨0, 0, rfl, rfl, by omega, by omega, Below.refl _ _, by show _ = _; simp [cap]⟩
    case round =>
      obtain ⟨i, n, rfl, rfl, hil, hnp, hB, HI⟩ := hrel
      by_cases hend : i < t.kids.length
      · obtain ⟨rfl, hcm, hb, hne, hcells, hkid⟩ := hk i hend
        have hBw := chain hb1 hB
        have hcells2 := hcells.same (hBw.block b hb)
        have hkid2 := hkid.later hBw
        obtain ⟨o2, n2, cap2, hv2⟩ := hkid.shape
        rw [hv2] at hcells2 hkid2
        obtain ⟨k0, k1, k2, k3, k4, k5, k6, k7⟩ := hcells2
        clear hcells hkid hk hv2
        obtain ⟨m, hm⟩ : ∃ m, m = Min.min (szT (nthT t.kids i)) 1001 := ⟨_, rfl⟩
        have hcall := ih (nthT t.kids i) m (HK.out i hend).1 (HK.out i hend).2.1 (HK.out i hend).2.2 hm
        have hmp : m ≤ 1001 := by omega
        have HJ : Hid (n + m = cap (t.kids.take (i + 1))) := by
          show _ = _
          rw [cap_take _ _ hend, ← HI.out, hm]
        clear hm hbx HW1 HT HK HR HI
        generalize nthT t.kids i = x at *
        generalize t.kids.length = ln at *
        go_wp2_with (go_at_call 79; refine (hcall _ _ _ (hkid2.later (below_alloc _ _))).mono ?_; rintro e w2 ⟨rfl, b2⟩)
        go_roundw
        case rel => exact ⟨i + 1, n + m, by go_num, by go_num, by omega, by omega, chain hB (chain (below_alloc _ _) b2), HJ.out⟩
        case measure => simp [intOf]; omega
      · have HE : Hid (r = Min.min (n * T + 2) 1001) := HR.out n (by
          have h := HI.out
          rwa [List.take_of_length_le (by omega)] at h)
        obtain ⟨c0, _, _, _, _, c5, c6, _⟩ := (hbx.below hB).cells
        have hTT := HT.out
        have hn2 : n ≤ 1001 * 511 := by omega
        clear HR HI HK HT HW1 hk hbx
        generalize t.kind = k at *
        generalize t.min = mn at *
        generalize t.max = mx at *
        unfold tms at hTT
        by_cases h4 : k = 4
        · subst h4
          rw [if_pos rfl] at hTT
          obtain ⟨Pn, hP, hP2⟩ : ∃ Pn : Nat, (n : Int) * (T : Int) = (Pn : Int) ∧ Pn = n * T := ⟨n * T, by rw [Int.natCast_mul], rfl⟩
          have hP3 : Pn ≤ 1001 * 511 * 20 := by rw [hP2]; exact Nat.mul_le_mul hn2 hT2
          rw [← hP2] at HE
          clear hP2
          by_cases hx : mn < mx
          · by_cases h1 : mx < 1
            · obtain rfl : T = 1 := by omega
              obtain rfl : Pn = n := by omega
              clear hTT hP
              by_cases hov : 1001 < Pn + 2
              · obtain rfl : r = 1001 := by rw [HE.out]; omega
                clear HE
                go_wp2_with (fail)
                go_ret
                exact ⟨rfl, chain hb1 hB⟩
              · obtain rfl : r = Pn + 2 := by rw [HE.out]; omega
                clear HE
                go_wp2_with (fail)
                go_ret
                exact ⟨by go_num, chain hb1 hB⟩
            · obtain rfl : mx = (T : Int) := by omega
              clear hTT
              by_cases hov : 1001 < Pn + 2
              · obtain rfl : r = 1001 := by rw [HE.out]; omega
                clear HE
                go_wp2_with (fail)
                go_ret
                exact ⟨rfl, chain hb1 hB⟩
              · obtain rfl : r = Pn + 2 := by rw [HE.out]; omega
                clear HE
                go_wp2_with (fail)
                go_ret
                exact ⟨by go_num, chain hb1 hB⟩
          · by_cases h1 : mn < 1
            · obtain rfl : T = 1 := by omega
              obtain rfl : Pn = n := by omega
              clear hTT hP
              by_cases hov : 1001 < Pn + 2
              · obtain rfl : r = 1001 := by rw [HE.out]; omega
                clear HE
                go_wp2_with (fail)
                go_ret
                exact ⟨rfl, chain hb1 hB⟩
              · obtain rfl : r = Pn + 2 := by rw [HE.out]; omega
                clear HE
                go_wp2_with (fail)
                go_ret
                exact ⟨by go_num, chain hb1 hB⟩
            · obtain rfl : mn = (T : Int) := by omega
              clear hTT
              by_cases hov : 1001 < Pn + 2
              · obtain rfl : r = 1001 := by rw [HE.out]; omega
                clear HE
                go_wp2_with (fail)
                go_ret
                exact ⟨rfl, chain hb1 hB⟩
              · obtain rfl : r = Pn + 2 := by rw [HE.out]; omega
                clear HE
                go_wp2_with (fail)
                go_ret
                exact ⟨by go_num, chain hb1 hB⟩
        · have h4b : (k == 4) = false := beq_eq_false_iff_ne.2 h4
          rw [if_neg h4] at hTT
          subst hTT
          by_cases hov : 1001 < n + 2
          · obtain rfl : r = 1001 := by rw [HE.out]; omega
            go_wp2_with (fail)
            go_ret
            exact ⟨rfl, chain hb1 hB⟩
          · obtain rfl : r = n + 2 := by rw [HE.out]; omega
            go_wp2_with (fail)
            go_ret
            exact ⟨by go_num, chain hb1 hB⟩
end Go.Proofs.YthmecbonjkcnmaaGreat.cf
