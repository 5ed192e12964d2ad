/-
  Contracts over this program: Get of package hash.
-/
import Derived.Test.YtfpkjgalokbkcaaIc
namespace Go.Proofs.Ytfpkjgalokbkcaa.hs
open Go.ChangeShapes Go.WideShapes Go.ChangeAt Go.RowKit
set_option linter.unusedVariables false

def getIs (h : Hh) (k v : Nat) (r : Bool) : Prop := ∀ p w, HAt (In w) w h p → Calls Try.prog 8 #[.agg (hv h p), .int .u64 (k : Int)] w fun e w' => e = .returned (.tuple #[.int .u64 (v : Int), .bool r]) ∧ Below w.heap.size w w'
set_option maxHeartbeats 4000000 in
theorem get_any (h : Hh) (k : Nat) (hk1 : k < 18446744073709551616) (v : Nat) (r : Bool) (hv0 : v = getV h k) (hr : r = getB h k) : getIs h k v r := by
  intro p w hA
  have B0 := below_alloc w (.cells (hv h p) 25)
  have b0 := box_new w h p
  have hA1 := hA.later B0
  obtain ⟨g1, g2, g3⟩ := hA.len
  have k1 := b0.c1
  have k2 := b0.c2
  by_cases h0 : h.keys.length = 0
  · have d0 : ((h.keys.length : Int) == 0) = true := by rw [h0]; rfl
    have e2 : getB h k = false := by unfold getB; rw [if_pos (.inl h0)]
    rw [getV_no e2] at hv0
    rw [e2] at hr
    subst hv0 hr
    clear hA hA1
    go_enter Try.func8, Try.ntmps8
    go_wp2_with (fail)
    go_ret2
    exact ⟨rfl, B0⟩
  · have d0 : ((h.keys.length : Int) == 0) = false := by rw [beq_eq_false_iff_ne]; omega
    by_cases h1 : h.vals.length = h.keys.length
    · have d1 : ((h.vals.length : Int) != (h.keys.length : Int)) = false := by rw [h1]; simp
      have hn : 0 < h.keys.length := by omega
      have hle := place_le h k hn
      have cp := place_any h g1 hA.ds hn g2 k hk1 p _ hA1
      have HX : Hid (HAt (In (w.alloc (.cells (hv h p) 25))) (w.alloc (.cells (hv h p) 25)) h p) := hA1
      have HB : Hid (Box (w.alloc (.cells (hv h p) 25)) w.heap.size h p) := b0
      have HI : Hid (r = true ↔ h.keys.length ≠ 0 ∧ h.vals.length = h.keys.length ∧ place h k < h.keys.length ∧ h.keys.getD (place h k) 0 = k) := show (_ ↔ _) from by rw [hr]; exact getB_iff
      have HV : Hid ((r = true → v = h.vals.getD (place h k) 0) ∧ (r = false → v = 0)) := ⟨fun hh => by rw [hv0]; exact getV_yes (by rw [← hr]; exact hh), fun hh => by rw [hv0]; exact getV_no (by rw [← hr]; exact hh)⟩
      clear hv0 hr hA hA1
      generalize place h k = q at *
      by_cases hq : q < h.keys.length
      · have dq : ((q : Int) == (h.keys.length : Int)) = false := by rw [beq_eq_false_iff_ne]; omega
        have dl : decide ((q : Int) < (h.keys.length : Int)) = true := by rw [decide_eq_true_iff]; omega
        have hqv : q < h.vals.length := by omega
        obtain ⟨bb, off, ho, hbb, hc⟩ := HX.out.rk.at hq
        obtain ⟨b2, off2, ho2, hb2, hc2⟩ := HX.out.rv.at hqv
        have hx := getD_lt HX.out.dk (by omega) q
        have hy := getD_lt HX.out.dv (by omega) q
        generalize hg : h.keys.getD q 0 = x at *
        generalize hg2 : h.vals.getD q 0 = y at *
        clear hg hg2
        by_cases hxk : x = k
        · have e2 : r = true := HI.out.2 ⟨h0, h1, hq, hxk⟩
          subst e2
          obtain rfl : v = y := HV.out.1 rfl
          subst hxk
          have dx : ((x : Int) != (x : Int)) = false := by simp
          have dy : ((x : Int) == (x : Int)) = true := by simp
          clear HI HV
          go_enter Try.func8, Try.ntmps8
          go_wp2_with (first | (refine wpList_load_row rfl 25 (.tmp 2) rfl w.heap.size rfl 25 (hv h p) (0, 0) _ b0 Try.underlying25 rfl info25 ?_) | (go_at_call 19; refine cp.mono ?_; rintro e w1 ⟨rfl, b1⟩; have bx1 := HB.out.later b1; have m1 := bx1.c1; have m2 := bx1.c2; rw [ho] at m1; rw [ho2] at m2; have n1 := (b1.cell (p := ⟨bb, off + q, none⟩) hbb).trans hc; have n2 := (b1.cell (p := ⟨b2, off2 + q, none⟩) hb2).trans hc2))
          go_ret2
          exact ⟨rfl, chain B0 b1⟩
        · have e2 : r = false := by
            cases r with
            | false => rfl
            | true => exact absurd (HI.out.1 rfl).2.2.2 hxk
          subst e2
          obtain rfl : v = 0 := HV.out.2 rfl
          have dx : ((x : Int) != (k : Int)) = true := by rw [bne_iff_ne]; omega
          have dy : ((x : Int) == (k : Int)) = false := by rw [beq_eq_false_iff_ne]; omega
          clear HI HV
          go_enter Try.func8, Try.ntmps8
          go_wp2_with (first | (refine wpList_load_row rfl 25 (.tmp 2) rfl w.heap.size rfl 25 (hv h p) (0, 0) _ b0 Try.underlying25 rfl info25 ?_) | (go_at_call 19; refine cp.mono ?_; rintro e w1 ⟨rfl, b1⟩; have bx1 := HB.out.later b1; have m1 := bx1.c1; have m2 := bx1.c2; rw [ho] at m1; rw [ho2] at m2; have n1 := (b1.cell (p := ⟨bb, off + q, none⟩) hbb).trans hc; have n2 := (b1.cell (p := ⟨b2, off2 + q, none⟩) hb2).trans hc2))
          go_ret2
          exact ⟨rfl, chain B0 b1⟩
      · have dq : ((q : Int) == (h.keys.length : Int)) = true := by rw [beq_iff_eq]; omega
        have dl : decide ((q : Int) < (h.keys.length : Int)) = false := by rw [decide_eq_false_iff_not]; omega
        have e2 : r = false := by
          cases r with
          | false => rfl
          | true => exact absurd (HI.out.1 rfl).2.2.1 hq
        subst e2
        obtain rfl : v = 0 := HV.out.2 rfl
        clear HI HV
        go_enter Try.func8, Try.ntmps8
        go_wp2_with (first | (refine wpList_load_row rfl 25 (.tmp 2) rfl w.heap.size rfl 25 (hv h p) (0, 0) _ b0 Try.underlying25 rfl info25 ?_) | (go_at_call 19; refine cp.mono ?_; rintro e w1 ⟨rfl, b1⟩; have bx1 := HB.out.later b1; have m1 := bx1.c1; have m2 := bx1.c2))
        go_ret2
        exact ⟨rfl, chain B0 b1⟩
    · have d1 : ((h.vals.length : Int) != (h.keys.length : Int)) = true := by rw [bne_iff_ne]; omega
      have e2 : getB h k = false := by unfold getB; rw [if_pos (.inr h1)]
      rw [getV_no e2] at hv0
      rw [e2] at hr
      subst hv0 hr
      clear hA hA1
      go_enter Try.func8, Try.ntmps8
      go_wp2_with (fail)
      go_ret2
      exact ⟨rfl, B0⟩
end Go.Proofs.Ytfpkjgalokbkcaa.hs
