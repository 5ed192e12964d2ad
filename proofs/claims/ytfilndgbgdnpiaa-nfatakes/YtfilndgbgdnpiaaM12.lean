/-
  Texts put together: Plain mathematics: how large an expression is, and that what is laid for it is no larger. Contracts over this program: fretsawref07's Size.
-/
import Derived.Test.YtfilndgbgdnpiaaM00
import Derived.Test.YtfilndgbgdnpiaaKDp
import Derived.Test.YtfilndgbgdnpiaaKXj
namespace Go.Proofs.Ytfilndgbgdnpiaa.nb
open st (Tr Q4 nodesOf goods okNode nthT)
open nf (Ed)
set_option linter.unusedVariables false

def tms (k mn mx : Int) : Nat := if k = 4 then Max.max (Max.max 1 mx.toNat) mn.toNat else 1
mutual
def szT : Tr → Nat
  | .node k q mn mx l => 2 + tms k mn mx * szs l
def szs : List Tr → Nat
  | [] => 0
  | t :: l => szT t + szs l
end
theorem szT_eq (t : Tr) : szT t = 2 + tms t.kind t.min t.max * szs t.kids := by
  cases t
  rw [szT]
  rfl
theorem sz_two (t : Tr) : 2 ≤ szT t := by rw [szT_eq]; omega
theorem tms_one (k mn mx : Int) : 1 ≤ tms k mn mx := by
  unfold tms
  split <;> omega
theorem szs_take : ∀ (l : List Tr) (i : Nat), i < l.length → szs (l.take (i + 1)) = szs (l.take i) + szT (nthT l i)
  | [], i, h => by simp at h
  | t :: l, 0, h => by
    simp only [List.take_succ_cons, List.take_zero, szs]
    show szT t + 0 = 0 + szT t
    omega
  | t :: l, i + 1, h => by
    have := szs_take l i (by simpa using h)
    simp only [List.take_succ_cons, szs]
    rw [this]
    show szT t + (szs (l.take i) + szT (nthT l i)) = szT t + szs (l.take i) + szT (nthT l i)
    omega
theorem szs_le : ∀ (l : List Tr) (i : Nat), szs (l.take i) ≤ szs l
  | [], i => by simp
  | t :: l, 0 => by simp [szs]
  | t :: l, i + 1 => by
    have := szs_le l i
    simp only [List.take_succ_cons, szs]
    omega
/-- what a lay adds at most -/
structure Adds (L : Lay) (a b : Nat) : Prop where
  n : ∀ f t x, (L f t x).n ≤ x.n + a
  e : ∀ f t x, (L f t x).es.length ≤ x.es.length + b
theorem times_adds {L : Lay} {a b : Nat} (h : Adds L a b) : ∀ (k f : Nat) (x : St), (times L k f x).2.n ≤ x.n + k * (a + 1) ∧ (times L k f x).2.es.length ≤ x.es.length + k * b
  | 0, f, x => by simp [times]
  | k + 1, f, x => by
    have h1 := times_adds h k x.n (L f x.n x.new)
    have h2 := h.n f x.n x.new
    have h3 := h.e f x.n x.new
    have e1 : x.new.n = x.n + 1 := rfl
    have e2 : x.new.es = x.es := rfl
    rw [e1] at h2
    rw [e2] at h3
    rw [times, Nat.succ_mul, Nat.succ_mul]
    omega
theorem free_n (x : St) (f t : Nat) : (x.free f t).n = x.n := rfl
theorem free_e (x : St) (f t : Nat) : (x.free f t).es.length = x.es.length + 1 := by simp [St.free]
theorem new_n (x : St) : x.new.n = x.n + 1 := rfl
theorem new_e (x : St) : x.new.es.length = x.es.length := rfl
theorem upTo_adds {L : Lay} {a b : Nat} (h : Adds L a b) (least to : Nat) : ∀ (k i f : Nat) (x : St), (upTo L least to k i f x).n ≤ x.n + k * (a + 1) ∧ (upTo L least to k i f x).es.length ≤ x.es.length + k * (b + 1) + 1
  | 0, i, f, x => by
    rw [upTo, free_n, free_e]
    omega
  | k + 1, i, f, x => by
    obtain ⟨y, hy⟩ : ∃ y, y = if least ≤ i then x.free f to else x := ⟨_, rfl⟩
    have hyn : y.n = x.n := by rw [hy]; split <;> rfl
    have hye : y.es.length ≤ x.es.length + 1 := by
      rw [hy]
      split
      · rw [free_e]; omega
      · omega
    have h1 := upTo_adds h least to k (i + 1) y.n (L f y.n y.new)
    have h2 := h.n f y.n y.new
    have h3 := h.e f y.n y.new
    rw [new_n] at h2
    rw [new_e] at h3
    unfold upTo
    dsimp only
    rw [← hy, Nat.succ_mul, Nat.succ_mul]
    omega
theorem again_adds {L : Lay} {a b : Nat} (h : Adds L a b) (least f to : Nat) (x : St) : (again L least f to x).n ≤ x.n + (least - 1) * (a + 1) + (if 0 < least then 2 else 1) + a ∧ (again L least f to x).es.length ≤ x.es.length + (least - 1) * b + b + 3 := by
  have h1 := times_adds h (least - 1) f x
  unfold again
  dsimp only
  generalize times L (least - 1) f x = y at *
  by_cases hl : 0 < least
  · rw [if_pos hl, if_pos hl]
    have h2 := h.n y.2.n (y.2.new.free y.1 y.2.n).n ((y.2.new.free y.1 y.2.n).new.free (y.2.new.free y.1 y.2.n).n y.2.n)
    have h3 := h.e y.2.n (y.2.new.free y.1 y.2.n).n ((y.2.new.free y.1 y.2.n).new.free (y.2.new.free y.1 y.2.n).n y.2.n)
    rw [free_n, free_e]
    simp only [free_n, new_n] at h2 ⊢
    simp only [free_n, new_n, free_e, new_e] at h3 ⊢
    omega
  · rw [if_neg hl, if_neg hl]
    have h2 := h.n y.2.n y.2.n (y.2.new.free y.1 y.2.n)
    have h3 := h.e y.2.n y.2.n (y.2.new.free y.1 y.2.n)
    rw [free_n, free_e]
    simp only [free_n, new_n] at h2 ⊢
    simp only [free_e, new_e] at h3 ⊢
    omega
/-- so many times so large -/
theorem mul_room (k T a s : Nat) (hk : k ≤ T) (ha : a + 1 ≤ s) : k * (a + 1) ≤ T * s := Nat.mul_le_mul hk ha
mutual
theorem lay_adds : ∀ (t : Tr), t.good = true → Adds (layT t) (szT t - 2) (2 * szT t - 3)
  | .node k q mn mx l, hg => by
    rw [Tr.good_eq, Bool.and_eq_true] at hg
    have htm := times_of _ hg.1
    have hgl : goods l = true := hg.2
    have hrow := row_adds l hgl
    have halt := alt_adds l hgl
    have hsz := sz_two (.node k q mn mx l)
    have he : szT (.node k q mn mx l) = 2 + tms k mn mx * szs l := by rw [szT]
    have hT := tms_one k mn mx
    simp only [Tr.kind, Tr.min, Tr.max, Tr.kids] at htm
    suffices hh : ∀ f t x, ((layT (.node k q mn mx l) f t x).n ≤ x.n + (szT (.node k q mn mx l) - 2)) ∧ ((layT (.node k q mn mx l) f t x).es.length ≤ x.es.length + (2 * szT (.node k q mn mx l) - 3)) from ⟨fun f t x => (hh f t x).1, fun f t x => (hh f t x).2⟩
    intro f t x
    rw [he]
    rw [layT]
    split
    · omega
    · split
      · simp only [St.over, List.length_append, List.length_singleton]
        omega
      · split
        · next h2 =>
          have hq : tms k mn mx = 1 := by unfold tms; rw [if_neg (by omega)]
          have := hrow f x
          rw [hq, free_n, free_e]
          omega
        · split
          · next h3 =>
            have hq : tms k mn mx = 1 := by unfold tms; rw [if_neg (by omega)]
            have := halt f t x
            rw [hq]
            omega
          · split
            · next h4 =>
              obtain ⟨g1, g2, g3, g4⟩ := htm h4
              have hq : tms k mn mx = Max.max (Max.max 1 mx.toNat) mn.toNat := by unfold tms; rw [if_pos h4]
              have hd := head_adds l hgl g1
              have hs2 : 2 ≤ szs l := by
                cases l with
                | nil => simp at g1
                | cons u l => have := sz_two u; rw [szs]; omega
              split
              · next h5 =>
                have ha := again_adds hd mn.toNat f t x
                obtain ⟨S, hS⟩ : ∃ S, szs l = S := ⟨_, rfl⟩
                rw [hS] at ha hs2 ⊢
                rw [hq]
                by_cases hm : 0 < mn.toNat
                · rw [if_pos hm] at ha
                  have e1 : Max.max (Max.max 1 mx.toNat) mn.toNat = mn.toNat := by omega
                  rw [e1]
                  obtain ⟨m, hm2⟩ : ∃ m, mn.toNat = m + 1 := ⟨mn.toNat - 1, by omega⟩
                  rw [hm2] at ha ⊢
                  rw [Nat.add_sub_cancel] at ha
                  have p1 : m * (S - 2 + 1) ≤ m * S := Nat.mul_le_mul (Nat.le_refl _) (by omega)
                  have p2 : m * (2 * S - 3) ≤ m * (2 * S) := Nat.mul_le_mul (Nat.le_refl _) (by omega)
                  have p3 : m * (2 * S) = 2 * (m * S) := by rw [Nat.mul_left_comm]
                  rw [Nat.succ_mul]
                  omega
                · rw [if_neg hm] at ha
                  have e0 : mn.toNat = 0 := by omega
                  rw [e0] at ha ⊢
                  have e1 : Max.max (Max.max 1 mx.toNat) 0 = 1 := by omega
                  rw [e1]
                  omega
              · next h5 =>
                have ha := upTo_adds hd mn.toNat t mx.toNat 0 f x
                obtain ⟨S, hS⟩ : ∃ S, szs l = S := ⟨_, rfl⟩
                rw [hS] at ha hs2 ⊢
                obtain ⟨T, hTT⟩ : ∃ T, tms k mn mx = T := ⟨_, rfl⟩
                rw [hTT]
                rw [hTT] at hq hT
                have p1 : mx.toNat * (S - 2 + 1) ≤ T * S := Nat.mul_le_mul (by omega) (by omega)
                have p2 : mx.toNat * (2 * S - 3 + 1) ≤ T * (2 * S) := Nat.mul_le_mul (by omega) (by omega)
                have p3 : T * (2 * S) = 2 * (T * S) := by rw [Nat.mul_left_comm]
                omega
            · omega
theorem row_adds : ∀ (l : List Tr), goods l = true → ∀ (f : Nat) (x : St), (rowT l f x).2.n ≤ x.n + szs l ∧ (rowT l f x).2.es.length ≤ x.es.length + 2 * szs l
  | [], _, f, x => by simp [rowT, szs]
  | t :: l, hg, f, x => by
    rw [goods, Bool.and_eq_true] at hg
    have h1 := lay_adds t hg.1
    have h2 := row_adds l hg.2 x.n (layT t f x.n x.new)
    have h3 := h1.n f x.n x.new
    have h4 := h1.e f x.n x.new
    rw [new_n] at h3
    rw [new_e] at h4
    have := sz_two t
    rw [rowT, szs]
    omega
theorem alt_adds : ∀ (l : List Tr), goods l = true → ∀ (f to : Nat) (x : St), (altT l f to x).n ≤ x.n + szs l ∧ (altT l f to x).es.length ≤ x.es.length + 2 * szs l
  | [], _, f, to, x => by simp [altT, szs]
  | t :: l, hg, f, to, x => by
    rw [goods, Bool.and_eq_true] at hg
    have h1 := lay_adds t hg.1
    have h2 := alt_adds l hg.2 f to (layT t f to x)
    have h3 := h1.n f to x
    have h4 := h1.e f to x
    have := sz_two t
    rw [altT, szs]
    omega
theorem head_adds : ∀ (l : List Tr), goods l = true → l.length = 1 → Adds (headT l) (szs l - 2) (2 * szs l - 3)
  | [], _, h => by simp at h
  | [t], hg, _ => by
    rw [goods, Bool.and_eq_true] at hg
    have h1 := lay_adds t hg.1
    have e : szs [t] = szT t := by rw [szs, szs, Nat.add_zero]
    rw [e]
    exact ⟨fun f to x => by rw [headT]; exact h1.n f to x, fun f to x => by rw [headT]; exact h1.e f to x⟩
  | t :: u :: l, _, h => by simp at h
end
theorem built_small (t : Tr) (hg : t.good = true) (h : (built t).full = true) : 1000 < szT t := by
  have h1 := lay_adds t hg
  have h2 := h1.n 0 1 ⟨2, []⟩
  have h3 := h1.e 0 1 ⟨2, []⟩
  have h4 := sz_two t
  have e : built t = layT t 0 1 ⟨2, []⟩ := rfl
  rw [← e] at h2 h3
  unfold St.full at h
  rw [Bool.or_eq_true, decide_eq_true_eq, decide_eq_true_eq] at h
  simp only [List.length_nil] at h2 h3
  omega
end Go.Proofs.Ytfilndgbgdnpiaa.nb

namespace Go.Proofs.Ytfilndgbgdnpiaa.nb
open Go.ChangeShapes Go.WideShapes Go.ChangeAt Go.RowKit
open st (Tr Q4 nodesOf goods okNode nthT Is UpIs)
set_option linter.unusedVariables false

/-- what comes of one more -/
theorem size_step (T n m most s : Nat) (hT : 1 ≤ T) (hT2 : T ≤ 20) (hn : 2 ≤ n) (hnm : n ≤ most) (hm : m = Min.min s most) (hmost : most ≤ 1001) : ∃ P : Nat, (m : Int) * (T : Int) = (P : Int) ∧ P ≤ 20020 ∧ (most < n + P → most < n + T * s) ∧ (n + P ≤ most → n + P = n + T * s) := by
  have p1 : m * T ≤ 1001 * 20 := Nat.mul_le_mul (by omega) hT2
  have p2 : T * m ≤ T * s := Nat.mul_le_mul (Nat.le_refl _) (by omega)
  have p3 : m * T = T * m := Nat.mul_comm _ _
  have p4 : m * 1 ≤ m * T := Nat.mul_le_mul (Nat.le_refl _) hT
  refine ⟨m * T, by rw [Int.natCast_mul], by omega, by omega, fun h => ?_⟩
  have : m = s := by omega
  subst this
  omega
set_option maxHeartbeats 4000000 in
set_option maxRecDepth 100000 in
theorem size_any (d : Nat) : ∀ (t : Tr) (most r : Nat), t.depth ≤ d → t.good = true → 2 ≤ most → most ≤ 1001 → r = Min.min (szT t) most → UpIs 9 t most r := by
  induction d with
  | zero => intro t most r hd; have := t.depth_eq; omega
  | succ d ih =>
    intro t most r hd hg hm1 hm2 hr v w P0 hi
    rw [Tr.good_eq, Bool.and_eq_true] at hg
    have HK : Hid (∀ i, i < t.kids.length → (nthT t.kids i).depth ≤ d ∧ (nthT t.kids i).good = true) := fun i hi => by
      have := st.depth_nth t.kids i hi
      rw [Tr.depth_eq] at hd
      exact ⟨by omega, goods_mem t.kids hg.2 _ (st.nthT_mem t.kids i hi)⟩
    obtain ⟨T, hT⟩ : ∃ T, T = tms t.kind t.min t.max := ⟨_, rfl⟩
    have HR : Hid (r = Min.min (2 + T * szs t.kids) most) := by show _ = _; rw [hr, szT_eq, hT]
    have hT1 : 1 ≤ T := by rw [hT]; exact tms_one _ _ _
    have htm := times_of t hg.1
    have hT2 : T ≤ 20 := by
      rw [hT]
      unfold tms
      split
      · next h4 => have := htm h4; omega
      · omega
    obtain ⟨o, cap, b, off, vs, rfl, hcap, hk⟩ := hi.form
    have hll : t.kids.length ≤ 9223372036854775807 := by
      by_cases h0 : 0 < t.kids.length
      · have := (hk 0 h0).2.1; omega
      · omega
    obtain ⟨w1, HW1⟩ : ∃ w1, Hid (w1 = w.alloc (.cells #[.int .i64 t.kind, .int .u64 t.set.a, .int .u64 t.set.b, .int .u64 t.set.c, .int .u64 t.set.d, .int .i64 t.min, .int .i64 t.max, .slice o t.kids.length cap] 28)) := ⟨_, rfl⟩
    have hb1 : Below w.heap.size w w1 := by rw [HW1.out]; exact nf.below_alloc _ _
    have hbx : st.Box w1 w.heap.size t (.slice o t.kids.length cap) := by rw [HW1.out]; exact st.box_new w t _
    have HT : Hid (T = tms t.kind t.min t.max) := hT
    clear hd hr hi hg htm hT
    go_enter Try.func9, Try.ntmps9
    go_wp2_with (fail)
    rw [← HW1.out]
    go_loopw [5, 13] (fun u x wr => ∃ (i n : Nat), u = .int .i64 n ∧ x = .int .i64 i ∧ i ≤ t.kids.length ∧ 2 ≤ n ∧ n ≤ most ∧ Below w1.heap.size w1 wr ∧ Hid (n = 2 + T * szs (t.kids.take i))) (fun _ x _ => t.kids.length - (intOf x).toNat)
    case atStart => exact ⟨0, 2, rfl, rfl, by omega, by omega, by omega, Below.refl _ _, by show _ = _; simp [szs]⟩
    case round =>
      obtain ⟨i, n, rfl, rfl, hil, hn2, hnp, hB, HI⟩ := hrel
      by_cases hend : i < t.kids.length
      · obtain ⟨rfl, hcm, hb, hne, hcells, hkid⟩ := hk i hend
        have hBw := nf.chain hb1 hB
        have hcells2 := hcells.same (hBw.block b hb)
        have hkid2 := hkid.later hBw
        obtain ⟨o2, n2, cap2, hv2⟩ := hkid.shape
        rw [hv2] at hcells2 hkid2
        obtain ⟨k0, k1, k2, k3, k4, k5, k6, k7⟩ := hcells2
        clear hcells hkid hk hv2
        obtain ⟨m, hm⟩ : ∃ m, m = Min.min (szT (nthT t.kids i)) most := ⟨_, rfl⟩
        have hcall := ih (nthT t.kids i) most m (HK.out i hend).1 (HK.out i hend).2 hm1 hm2 hm
        have hmp : m ≤ 1001 := by omega
        obtain ⟨P, hP, hP2, hP3, hP4⟩ := size_step T n m most (szT (nthT t.kids i)) hT1 hT2 hn2 hnp hm hm2
        have e1 : szs (t.kids.take (i + 1)) = szs (t.kids.take i) + szT (nthT t.kids i) := szs_take _ _ hend
        have e2 : T * szs (t.kids.take (i + 1)) = T * szs (t.kids.take i) + T * szT (nthT t.kids i) := by rw [e1, Nat.mul_add]
        have e3 : T * szs (t.kids.take (i + 1)) ≤ T * szs t.kids := Nat.mul_le_mul (Nat.le_refl _) (szs_le _ _)
        have HF : Hid (most < n + P → r = most) := fun h => by
          have := hP3 h
          have := HI.out
          rw [HR.out]; omega
        have HJ : Hid (n + P ≤ most → n + P = 2 + T * szs (t.kids.take (i + 1))) := fun h => by
          have := hP4 h
          have := HI.out
          omega
        have HBX := (show Hid (∀ W, Below w1.heap.size w1 W → W.cell? ⟨w.heap.size, 0, none⟩ = some (.int .i64 t.kind) ∧ W.cell? ⟨w.heap.size, 5, none⟩ = some (.int .i64 t.min) ∧ W.cell? ⟨w.heap.size, 6, none⟩ = some (.int .i64 t.max)) from fun W h => by
          obtain ⟨b0, b1, b2, b3, b4, b5, b6, b7⟩ := (hbx.below h).cells
          exact ⟨b0, b5, b6⟩)
        have hTT := HT.out
        clear hm hP3 hP4 e1 e2 e3 hbx HW1 HT HK HR HI
        generalize nthT t.kids i = x at *
        generalize t.kids.length = ln at *
        generalize t.kind = k at *
        generalize t.min = mn at *
        generalize t.max = mx at *
        unfold tms at hTT
        by_cases h4 : k = 4
        · subst h4
          rw [if_pos rfl] at hTT
          by_cases hx1 : 1 < mx
          · by_cases hx2 : mx < mn
            · obtain rfl : mn = (T : Int) := by omega
              clear hTT
              by_cases hover : most < n + P
              · have hoi : (most : Int) < (n : Int) + (P : Int) := by omega
                go_wp2_with (go_at_call 9; refine (hcall _ _ _ (hkid2.later (nf.below_alloc _ _))).mono ?_; rintro e w2 ⟨rfl, b2⟩; obtain ⟨q0, q5, q6⟩ := HBX.out w2 (nf.chain hB (nf.chain (nf.below_alloc _ _) b2)))
                go_ret
                exact ⟨by rw [HF.out hover]; rfl, nf.chain hb1 (nf.chain hB (nf.chain (nf.below_alloc _ _) b2))⟩
              · have hoi : ¬ (most : Int) < (n : Int) + (P : Int) := by omega
                go_wp2_with (go_at_call 9; refine (hcall _ _ _ (hkid2.later (nf.below_alloc _ _))).mono ?_; rintro e w2 ⟨rfl, b2⟩; obtain ⟨q0, q5, q6⟩ := HBX.out w2 (nf.chain hB (nf.chain (nf.below_alloc _ _) b2)))
                go_roundw
                case rel => exact ⟨i + 1, n + P, by go_num, by go_num, by omega, by omega, by omega, nf.chain hB (nf.chain (nf.below_alloc _ _) b2), HJ.out (by omega)⟩
                case measure => simp [intOf]; omega
            · obtain rfl : mx = (T : Int) := by omega
              clear hTT
              by_cases hover : most < n + P
              · have hoi : (most : Int) < (n : Int) + (P : Int) := by omega
                go_wp2_with (go_at_call 9; refine (hcall _ _ _ (hkid2.later (nf.below_alloc _ _))).mono ?_; rintro e w2 ⟨rfl, b2⟩; obtain ⟨q0, q5, q6⟩ := HBX.out w2 (nf.chain hB (nf.chain (nf.below_alloc _ _) b2)))
                go_ret
                exact ⟨by rw [HF.out hover]; rfl, nf.chain hb1 (nf.chain hB (nf.chain (nf.below_alloc _ _) b2))⟩
              · have hoi : ¬ (most : Int) < (n : Int) + (P : Int) := by omega
                go_wp2_with (go_at_call 9; refine (hcall _ _ _ (hkid2.later (nf.below_alloc _ _))).mono ?_; rintro e w2 ⟨rfl, b2⟩; obtain ⟨q0, q5, q6⟩ := HBX.out w2 (nf.chain hB (nf.chain (nf.below_alloc _ _) b2)))
                go_roundw
                case rel => exact ⟨i + 1, n + P, by go_num, by go_num, by omega, by omega, by omega, nf.chain hB (nf.chain (nf.below_alloc _ _) b2), HJ.out (by omega)⟩
                case measure => simp [intOf]; omega
          · by_cases hx2 : 1 < mn
            · obtain rfl : mn = (T : Int) := by omega
              clear hTT
              by_cases hover : most < n + P
              · have hoi : (most : Int) < (n : Int) + (P : Int) := by omega
                go_wp2_with (go_at_call 9; refine (hcall _ _ _ (hkid2.later (nf.below_alloc _ _))).mono ?_; rintro e w2 ⟨rfl, b2⟩; obtain ⟨q0, q5, q6⟩ := HBX.out w2 (nf.chain hB (nf.chain (nf.below_alloc _ _) b2)))
                go_ret
                exact ⟨by rw [HF.out hover]; rfl, nf.chain hb1 (nf.chain hB (nf.chain (nf.below_alloc _ _) b2))⟩
              · have hoi : ¬ (most : Int) < (n : Int) + (P : Int) := by omega
                go_wp2_with (go_at_call 9; refine (hcall _ _ _ (hkid2.later (nf.below_alloc _ _))).mono ?_; rintro e w2 ⟨rfl, b2⟩; obtain ⟨q0, q5, q6⟩ := HBX.out w2 (nf.chain hB (nf.chain (nf.below_alloc _ _) b2)))
                go_roundw
                case rel => exact ⟨i + 1, n + P, by go_num, by go_num, by omega, by omega, by omega, nf.chain hB (nf.chain (nf.below_alloc _ _) b2), HJ.out (by omega)⟩
                case measure => simp [intOf]; omega
            · obtain rfl : T = 1 := by omega
              clear hTT
              obtain rfl : P = m := by omega
              clear hP
              by_cases hover : most < n + P
              · have hoi : (most : Int) < (n : Int) + (P : Int) := by omega
                go_wp2_with (go_at_call 9; refine (hcall _ _ _ (hkid2.later (nf.below_alloc _ _))).mono ?_; rintro e w2 ⟨rfl, b2⟩; obtain ⟨q0, q5, q6⟩ := HBX.out w2 (nf.chain hB (nf.chain (nf.below_alloc _ _) b2)))
                go_ret
                exact ⟨by rw [HF.out hover]; rfl, nf.chain hb1 (nf.chain hB (nf.chain (nf.below_alloc _ _) b2))⟩
              · have hoi : ¬ (most : Int) < (n : Int) + (P : Int) := by omega
                go_wp2_with (go_at_call 9; refine (hcall _ _ _ (hkid2.later (nf.below_alloc _ _))).mono ?_; rintro e w2 ⟨rfl, b2⟩; obtain ⟨q0, q5, q6⟩ := HBX.out w2 (nf.chain hB (nf.chain (nf.below_alloc _ _) b2)))
                go_roundw
                case rel => exact ⟨i + 1, n + P, by go_num, by go_num, by omega, by omega, by omega, nf.chain hB (nf.chain (nf.below_alloc _ _) b2), HJ.out (by omega)⟩
                case measure => simp [intOf]; omega
        · have h4b : (k == 4) = false := beq_eq_false_iff_ne.2 h4
          rw [if_neg h4] at hTT
          subst hTT
          obtain rfl : P = m := by omega
          clear hP
          by_cases hover : most < n + P
          · have hoi : (most : Int) < (n : Int) + (P : Int) := by omega
            go_wp2_with (go_at_call 9; refine (hcall _ _ _ (hkid2.later (nf.below_alloc _ _))).mono ?_; rintro e w2 ⟨rfl, b2⟩; obtain ⟨q0, q5, q6⟩ := HBX.out w2 (nf.chain hB (nf.chain (nf.below_alloc _ _) b2)))
            go_ret
            exact ⟨by rw [HF.out hover]; rfl, nf.chain hb1 (nf.chain hB (nf.chain (nf.below_alloc _ _) b2))⟩
          · have hoi : ¬ (most : Int) < (n : Int) + (P : Int) := by omega
            go_wp2_with (go_at_call 9; refine (hcall _ _ _ (hkid2.later (nf.below_alloc _ _))).mono ?_; rintro e w2 ⟨rfl, b2⟩; obtain ⟨q0, q5, q6⟩ := HBX.out w2 (nf.chain hB (nf.chain (nf.below_alloc _ _) b2)))
            go_roundw
            case rel => exact ⟨i + 1, n + P, by go_num, by go_num, by omega, by omega, by omega, nf.chain hB (nf.chain (nf.below_alloc _ _) b2), HJ.out (by omega)⟩
            case measure => simp [intOf]; omega
      · have HF : Hid (r = n) := by
          have h := HI.out
          rw [List.take_of_length_le (by omega)] at h
          show _ = _
          rw [HR.out]; omega
        go_wp2_with (fail)
        go_ret
        exact ⟨by rw [HF.out]; rfl, nf.chain hb1 hB⟩
end Go.Proofs.Ytfilndgbgdnpiaa.nb
