/-
  Contracts over this program: the nfa's builder: lay of a repetition; lay as a whole.
-/
import Derived.Test.YtfilndgbgdnpiaaKVi
namespace Go.Proofs.Ytfilndgbgdnpiaa.nb
open Go.ChangeShapes Go.WideShapes Go.ChangeAt Go.RowKit
open st (Tr Q4 nodesOf goods okNode Is Box nthT)
open nf (Ed)
set_option linter.unusedVariables false
set_option maxRecDepth 100000

section
variable {t : Tr} {f to : Nat} {x : St} {a B g : Nat} {v : Value} {w : World} {tv : Value}
theorem below_drew' {w W : World} (h : Below w.heap.size w W) : Below w.heap.size w W.drew := Below.drew h
set_option maxHeartbeats 2000000 in
theorem lay_4 (hg : t.good = true) (hA : ∀ i, i < t.kids.length → AgainIs (nthT t.kids i)) (hU : ∀ i, i < t.kids.length → UpToIs (nthT t.kids i)) (hm : Most x a a) (hr : Room t a) (hx : Bx w B g x v) (hB : B ≤ w.heap.size) (ht : Is w (· < B) t tv) (hf : x.full = false) (hk : t.kind = 4) : Goal t f to x B g v w tv := by
  obtain ⟨w1, hw1, _, bx, x1, b1, t1, m1⟩ := beg_of (a := a) hx hB ht
  have he : x.es.length ≤ 1000000 := by have := hm.e; have := hr.hi; omega
  have h28 := full_any x (by have := hm.n; have := hr.hi; omega) he B g v w1 x1
  rw [hf, hw1] at h28
  have HW := (show Hid _ from hw1)
  clear hw1
  unfold Goal
  have hok : okNode t = true := by rw [Tr.good_eq, Bool.and_eq_true] at hg; exact hg.1
  obtain ⟨hl1, hmn0, hmn1, hmx⟩ := times_of t hok hk
  rw [layT_eq, if_neg (by rw [hf]; decide), if_neg (by omega), if_neg (by omega), if_neg (by omega), if_pos hk]
  obtain ⟨k0, k1, k2, k3, k4, k5, k6, k7⟩ := box_cells bx
  rw [hk] at k0
  clear hk
  obtain ⟨o, cap, b, off, vs, rfl, hcap, hkk⟩ := t1.form
  obtain ⟨ho, hc9, hb, hp, hcells, hkid⟩ := hkk 0 (by omega)
  subst ho
  have hnd := hr.nd
  have hne := t.nodes_eq
  have hde := t.depth_eq
  have hhi := hr.hi
  have hlo := hr.lo
  have hu1 := st.nodes_nth t.kids 0 (by omega)
  have hu2 := st.depth_nth t.kids 0 (by omega)
  have hun : 1 ≤ (nthT t.kids 0).nodes := by rw [Tr.nodes_eq]; omega
  have hroom : Room (nthT t.kids 0) (a + (30 * (nthT t.kids 0).nodes - 5) + 60) := ⟨by omega, by omega, by rw [hde] at hhi; omega⟩
  have hmost : Most x (a + (30 * (nthT t.kids 0).nodes - 5)) (a + (30 * (nthT t.kids 0).nodes - 5)) := hm.up (by omega) (by omega)
  have hhd : headT t.kids = layT (nthT t.kids 0) := by
    match hh : t.kids, hl1 with
    | [u], _ => rfl
  obtain ⟨mn, hmn⟩ : ∃ mn : Nat, t.min = (mn : Int) := ⟨t.min.toNat, by omega⟩
  have e1 : t.min.toNat = mn := by omega
  rw [hhd, e1]
  rw [hmn] at k5
  obtain ⟨o2, n2, cap2, hv2⟩ := hkid.shape
  rw [hv2] at hcells hkid
  obtain ⟨j0, j1, j2, j3, j4, j5, j6, j7⟩ := hcells
  simp only [Nat.zero_mul, Nat.add_zero] at j0 j1 j2 j3 j4 j5 j6 j7
  have c51 := fun (W : World) (h : Below w1.heap.size w1 W) => hA 0 (by omega) mn f to x _ (by omega) hmost (by omega) hroom B g v W (.slice o2 n2 cap2) (x1.later h) (Nat.le_trans b1 h.size) (is_mv hkid x1 b1 (Mv.of (g := g) (v := v) h))
  have c52 := fun (mx : Nat) (hmx : mx ≤ 20) (W : World) (h : Below w1.heap.size w1 W) => hU 0 (by omega) mn mx f to x _ (by omega) hmx hmost (by omega) hroom B g v W (.slice o2 n2 cap2) (x1.later h) (Nat.le_trans b1 h.size) (is_mv hkid x1 b1 (Mv.of (g := g) (v := v) h))
  have HM := (show Hid _ from m1)
  have HD := (show Hid (Below w1.heap.size w1 w1.drew) from below_drew' (Below.refl _ _))
  have hlb : t.kids.length ≤ cap := hcap
  by_cases hx1 : t.max = -1
  · rw [if_pos hx1]
    rw [hx1] at k6
    have d51 := c51 _ HD.out
    have HMd := (show Hid (Mv g v v w1 w1.drew) from Mv.of HD.out)
    clear hkk ht hx hm hr hA hU hg x1 m1 t1 bx hv2 hkid hmost hroom hhd hmn e1 hx1 hmx hmn0 hmn1 hok hne hde hu1 hu2 hun hnd hhi c51 c52
    rw [hl1] at *
    generalize nthT t.kids 0 = u at *
    go_enter Try.func27, Try.ntmps27
    go_wp2_with (first | (go_at_call 28; refine h28.mono ?_; rintro e w2 ⟨rfl, hw2⟩; have hw3 : w1 = w2 := HW.out.trans hw2.symm; subst hw3; clear hw2 h28))
    go_region_with (go_at_call 51; refine d51.mono ?_; rintro e w3 ⟨rfl, v3, hx3, m3⟩)
    all_goals
      go_end0
      exact ⟨rfl, v3, hx3, HM.out.trans (HMd.out.trans m3)⟩
  · have hq20 : 0 ≤ t.max ∧ t.max ≤ 20 := hmx.resolve_left hx1
    obtain ⟨mx, hmxe⟩ : ∃ mx : Nat, t.max = (mx : Int) := ⟨t.max.toNat, by omega⟩
    have e2 : t.max.toNat = mx := by omega
    rw [if_neg hx1, e2]
    rw [hmxe] at k6
    have q1 : ((mx : Int) == -1) = false := beq_eq_false_iff_ne.2 (by omega)
    have d52 := c52 mx (by omega) _ HD.out
    have HMd := (show Hid (Mv g v v w1 w1.drew) from Mv.of HD.out)
    clear hkk ht hx hm hr hA hU hg x1 m1 t1 bx hv2 hkid hmost hroom hhd hmn e1 hx1 hmxe e2 hmx hmn0 hmn1 hok hne hde hu1 hu2 hun hnd hhi c51 c52 hq20
    rw [hl1] at *
    generalize nthT t.kids 0 = u at *
    go_enter Try.func27, Try.ntmps27
    go_wp2_with (first | (go_at_call 28; refine h28.mono ?_; rintro e w2 ⟨rfl, hw2⟩; have hw3 : w1 = w2 := HW.out.trans hw2.symm; subst hw3; clear hw2 h28))
    go_region_with (go_at_call 52; refine d52.mono ?_; rintro e w3 ⟨rfl, v3, hx3, m3⟩)
    all_goals
      go_end0
      exact ⟨rfl, v3, hx3, HM.out.trans (HMd.out.trans m3)⟩
end
/-- an expression is laid as the plain words say -/
theorem lay_any : ∀ (d : Nat) (t : Tr), t.depth ≤ d → t.good = true → LayIs t
  | 0, t, h, _ => by rw [Tr.depth_eq] at h; omega
  | d + 1, t, h, hg => by
    intro f to x a hm hr B g v w tv hx hB ht
    have hgk : ∀ i, i < t.kids.length → (nthT t.kids i).good = true := fun i hi => goods_mem t.kids (by rw [Tr.good_eq, Bool.and_eq_true] at hg; exact hg.2) _ (st.nthT_mem t.kids i hi)
    have hL : ∀ i, i < t.kids.length → LayIs (nthT t.kids i) := fun i hi => lay_any d _ (by have := st.depth_nth t.kids i hi; rw [Tr.depth_eq] at h; omega) (hgk i hi)
    cases hf : x.full with
    | true => exact lay_full hm hr hx hB ht hf
    | false =>
      by_cases h1 : t.kind = 1
      · exact lay_1 hm hr hx hB ht hf h1
      · by_cases h2 : t.kind = 2
        · exact lay_2 hg (row_any t hg fun i hi => one_any _ (hL i hi)) hm hr hx hB ht hf h2
        · by_cases h3 : t.kind = 3
          · exact lay_3 hg hL hm hr hx hB ht hf h3
          · by_cases h4 : t.kind = 4
            · exact lay_4 hg (fun i hi => again_any _ (hgk i hi) (hL i hi)) (fun i hi => upTo_any _ (hgk i hi) (one_any _ (hL i hi))) hm hr hx hB ht hf h4
            · rw [Tr.good_eq, Bool.and_eq_true] at hg
              have := hg.1
              unfold okNode at this
              rw [if_neg h1, if_neg h2, if_neg h3, if_neg h4] at this
              cases this
end Go.Proofs.Ytfilndgbgdnpiaa.nb
