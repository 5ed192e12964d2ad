/-
  Texts put together: Contracts over this program: the nfa's builder: lay, kind by kind. Contracts over this program: the nfa's builder: lay of a repetition; lay as a whole.
-/
import Derived.Test.YthmecbonjkcnmaaGreatM28
import Derived.Deep.RegionWith
namespace Go.Proofs.YthmecbonjkcnmaaGreat.nb
open Go.ChangeShapes Go.WideShapes Go.ChangeAt Go.RowKit
open st (Tr Q4 nodesOf goods okNode Is Box nthT)
open nf (Ed)
set_option linter.unusedVariables false
set_option maxRecDepth 100000

theorem layT_eq (t : Tr) (f to : Nat) (x : St) : layT t f to x = if x.full = true then x else if t.kind = 1 then x.over t.set f to else if t.kind = 2 then (rowT t.kids f x).2.free (rowT t.kids f x).1 to else if t.kind = 3 then altT t.kids f to x
    else if t.kind = 4 then (if t.max = -1 then again (headT t.kids) t.min.toNat f to x else upTo (headT t.kids) t.min.toNat to t.max.toNat 0 f x) else x := by
  cases t
  rw [layT]
  rfl
/-- as lay has put its tree into a cell -/
structure Beg (t : Tr) (x : St) (a B g : Nat) (v : Value) (w : World) (tv : Value) (w1 : World) : Prop where
  ws : w1 = w.alloc (.cells #[.int .i64 t.kind, .int .u64 t.set.a, .int .u64 t.set.b, .int .u64 t.set.c, .int .u64 t.set.d, .int .i64 t.min, .int .i64 t.max, tv] 29)
  bl : Below w.heap.size w w1
  bx : Box w1 w.heap.size t tv
  x1 : Bx w1 B g x v
  b1 : B ≤ w1.heap.size
  t1 : Is w1 (· < B) t tv
  m1 : Mv g v v w w1
theorem beg_of {t : Tr} {x : St} {a B g : Nat} {v : Value} {w : World} {tv : Value} (hx : Bx w B g x v) (hB : B ≤ w.heap.size) (ht : Is w (· < B) t tv) : ∃ w1, Beg t x a B g v w tv w1 :=
  ⟨_, rfl, (Below.refl _ _).alloc (Nat.le_refl _) _, st.box_new w t tv, hx.later ((Below.refl _ _).alloc (Nat.le_refl _) _), by simp; omega, is_mv ht hx hB (Mv.of (g := g) (v := v) ((Below.refl _ _).alloc (Nat.le_refl _) _)), Mv.of ((Below.refl _ _).alloc (Nat.le_refl _) _)⟩
theorem box_cells {w : World} {k : Nat} {t : Tr} {tv : Value} (h : Box w k t tv) : w.cell? ⟨k, 0, none⟩ = some (.int .i64 t.kind) ∧ w.cell? ⟨k, 1, none⟩ = some (.int .u64 (t.set.a : Int)) ∧ w.cell? ⟨k, 2, none⟩ = some (.int .u64 (t.set.b : Int)) ∧ w.cell? ⟨k, 3, none⟩ = some (.int .u64 (t.set.c : Int)) ∧ w.cell? ⟨k, 4, none⟩ = some (.int .u64 (t.set.d : Int)) ∧ w.cell? ⟨k, 5, none⟩ = some (.int .i64 t.min) ∧ w.cell? ⟨k, 6, none⟩ = some (.int .i64 t.max) ∧ w.cell? ⟨k, 7, none⟩ = some tv := by
  unfold Box at h
  refine ⟨?_, ?_, ?_, ?_, ?_, ?_, ?_, ?_⟩ <;> (rw [Lib.cell_of_heap h]; rfl)
section
variable {t : Tr} {f to : Nat} {x : St} {a B g : Nat} {v : Value} {w : World} {tv : Value}
def Goal (t : Tr) (f to : Nat) (x : St) (B g : Nat) (v : Value) (w : World) (tv : Value) : Prop := Calls Tryz.prog 66 #[.pointer (some ⟨g, 0, none⟩), trV t tv, .int .i64 (f : Int), .int .i64 (to : Int)] w fun e w' => e = .returned (.tuple #[]) ∧ ∃ v', Bx w' B g (layT t f to x) v' ∧ Mv g v v' w w'
theorem lay_full (hm : Most x a a) (hr : Room t a) (hx : Bx w B g x v) (hB : B ≤ w.heap.size) (ht : Is w (· < B) t tv) (hf : x.full = true) : Goal t f to x B g v w tv := by
  obtain ⟨w1, hw1, _, _, x1, _, _, m1⟩ := beg_of (a := a) hx hB ht
  have h28 := full_any x (by have := hm.n; have := hr.hi; omega) (by have := hm.e; have := hr.hi; omega) B g v w1 x1
  rw [hf, hw1] at h28
  have HW := (show Hid _ from hw1)
  clear hw1
  unfold Goal
  rw [layT_full t f to x hf]
  have HX := (show Hid _ from x1)
  have HM := (show Hid _ from m1)
  clear x1 m1 hx ht hm hr
  go_enter Tryz.func66, Tryz.ntmps66
  go_wp2_with (go_at_call 67; refine h28.mono ?_; rintro e w2 ⟨rfl, hw2⟩; have hw3 : w1 = w2 := HW.out.trans hw2.symm; subst hw3; clear hw2 h28)
  (try simp only [Exit.inBlock, Exit.then]); refine bodyPost_ret (results_none rfl _ _ _) rfl ?_
  exact ⟨rfl, v, HX.out, HM.out⟩
set_option maxHeartbeats 1000000 in
theorem lay_1 (hm : Most x a a) (hr : Room t a) (hx : Bx w B g x v) (hB : B ≤ w.heap.size) (ht : Is w (· < B) t tv) (hf : x.full = false) (hk : t.kind = 1) : Goal t f to x B g v w tv := by
  obtain ⟨w1, hw1, _, bx, x1, b1, _, m1⟩ := beg_of (a := a) hx hB ht
  have he : x.es.length ≤ 1000000 := by have := hm.e; have := hr.hi; omega
  have h28 := full_any x (by have := hm.n; have := hr.hi; omega) he B g v w1 x1
  rw [hf, hw1] at h28
  have HW := (show Hid _ from hw1)
  clear hw1
  unfold Goal
  rw [layT_eq, if_neg (by rw [hf]; decide), if_pos hk]
  have c48 := over_any x t.set f to he B g v w1 x1 b1
  obtain ⟨k0, k1, k2, k3, k4, k5, k6, k7⟩ := box_cells bx
  rw [hk] at k0
  clear hk
  have HM := (show Hid _ from m1)
  clear x1 m1 hx ht hm hr bx
  go_enter Tryz.func66, Tryz.ntmps66
  go_wp2_with (first | (go_at_call 67; refine h28.mono ?_; rintro e w2 ⟨rfl, hw2⟩; have hw3 : w1 = w2 := HW.out.trans hw2.symm; subst hw3; clear hw2 h28) | (go_at_call 90; refine c48.mono ?_; rintro e w3 ⟨rfl, v3, hx3, m3⟩))
  go_end0
  exact ⟨rfl, v3, hx3, HM.out.trans m3⟩
set_option maxHeartbeats 1000000 in
theorem lay_2 (hg : t.good = true) (hR : RowIs t) (hm : Most x a a) (hr : Room t a) (hx : Bx w B g x v) (hB : B ≤ w.heap.size) (ht : Is w (· < B) t tv) (hf : x.full = false) (hk : t.kind = 2) : Goal t f to x B g v w tv := by
  obtain ⟨w1, hw1, _, bx, x1, b1, t1, m1⟩ := beg_of (a := a) hx hB ht
  have he : x.es.length ≤ 1000000 := by have := hm.e; have := hr.hi; omega
  have h28 := full_any x (by have := hm.n; have := hr.hi; omega) he B g v w1 x1
  rw [hf, hw1] at h28
  have HW := (show Hid _ from hw1)
  clear hw1
  unfold Goal
  rw [layT_eq, if_neg (by rw [hf]; decide), if_neg (by omega), if_pos hk]
  have c50 := hR f x a hm hr B g v w1 tv x1 b1 t1
  have hmo := (row_most t.kids (kid_lim t hg) f x a a (by have := hr.lo; omega) hr.lo hm).e
  have hnd : 30 * nodesOf t.kids ≤ 15360 := by have := hr.nd; have := t.nodes_eq; omega
  have he2 : (rowT t.kids f x).2.es.length ≤ 1000000 := by have := hr.hi; omega
  have c49 := fun v1 W h => free_any (rowT t.kids f x).2 (rowT t.kids f x).1 to he2 B g v1 W h
  obtain ⟨k0, k1, k2, k3, k4, k5, k6, k7⟩ := box_cells bx
  rw [hk] at k0
  clear hk
  obtain ⟨o, n, cap, rfl⟩ := t1.shape
  have HM := (show Hid _ from m1)
  have hB1 := b1
  clear x1 m1 hx ht hm hr bx t1 hR hmo hnd he2
  generalize rowT t.kids f x = y at *
  go_enter Tryz.func66, Tryz.ntmps66
  go_wp2_with (first | (go_at_call 67; refine h28.mono ?_; rintro e w2 ⟨rfl, hw2⟩; have hw3 : w1 = w2 := HW.out.trans hw2.symm; subst hw3; clear hw2 h28) | (go_at_call 92; refine c50.mono ?_; rintro e w3 ⟨rfl, v3, hx3, m3⟩; clear c50; have a49 := c49 v3 w3 hx3 (Nat.le_trans hB1 m3.size); clear c49) | (go_at_call 91; refine a49.mono ?_; rintro e w4 ⟨rfl, v4, hx4, m4⟩))
  go_end0
  exact ⟨rfl, v4, hx4, HM.out.trans (m3.trans m4)⟩
set_option maxHeartbeats 2000000 in
theorem lay_3 (hg : t.good = true) (hL : ∀ i, i < t.kids.length → LayIs (nthT t.kids i)) (hm : Most x a a) (hr : Room t a) (hx : Bx w B g x v) (hB : B ≤ w.heap.size) (ht : Is w (· < B) t tv) (hf : x.full = false) (hk : t.kind = 3) : Goal t f to x B g v w tv := by
  obtain ⟨w1, hw1, _, bx, x1, b1, t1, m1⟩ := beg_of (a := a) hx hB ht
  have he : x.es.length ≤ 1000000 := by have := hm.e; have := hr.hi; omega
  have h28 := full_any x (by have := hm.n; have := hr.hi; omega) he B g v w1 x1
  rw [hf, hw1] at h28
  have HW := (show Hid _ from hw1)
  clear hw1
  unfold Goal
  rw [layT_eq, if_neg (by rw [hf]; decide), if_neg (by omega), if_neg (by omega), if_pos hk]
  have HMo := (show Hid (∀ i, Most (altT (t.kids.take i) f to x) (a + 30 * nodesOf (t.kids.take i)) (a + 30 * nodesOf (t.kids.take i))) from fun i => alt_most (t.kids.take i) (fun u hu => kid_lim t hg u (List.mem_of_mem_take hu)) f to x a a (by have := hr.lo; omega) hr.lo hm)
  obtain ⟨k0, k1, k2, k3, k4, k5, k6, k7⟩ := box_cells bx
  rw [hk] at k0
  clear hk
  obtain ⟨o, cap, b, off, vs, rfl, hcap, hkk⟩ := t1.form
  have hll : t.kids.length ≤ 9223372036854775807 := by
    by_cases h0 : 0 < t.kids.length
    · have := (hkk 0 h0).2.1; omega
    · omega
  have HO := (show Hid (∀ (i : Nat) (hi : i < t.kids.length) (v1 : Value) (W : World), Bx W B g (altT (t.kids.take i) f to x) v1 → Mv g v v1 w1 W → Calls Tryz.prog 66 #[.pointer (some ⟨g, 0, none⟩), trV (nthT t.kids i) (vs i), .int .i64 (f : Int), .int .i64 (to : Int)] W fun e w' => e = .returned (.tuple #[]) ∧ ∃ v', Bx w' B g (altT (t.kids.take (i + 1)) f to x) v' ∧ Mv g v1 v' W w') from fun i hi v1 W h m => by
    have h1 := hL i hi f to (altT (t.kids.take i) f to x) (a + 30 * nodesOf (t.kids.take i)) (HMo.out i) (kid_room hr i hi _ (by omega)) B g v1 W (vs i) h (Nat.le_trans b1 m.size) (is_mv (hkk i hi).2.2.2.2.2 x1 b1 m)
    rw [altT_take t.kids i hi]
    exact h1)
  have HC := (show Hid (∀ (i : Nat) (hi : i < t.kids.length) (v1 : Value) (W : World), Mv g v v1 w1 W → st.Cells W b (off + i * 8) (nthT t.kids i) (vs i)) from fun i hi v1 W m => cells_mv (hkk i hi).2.2.2.2.1 (hkk i hi).2.2.1 (hkk i hi).2.2.2.1 x1 m)
  have HSh := (show Hid (∀ (i : Nat) (hi : i < t.kids.length), o = some ⟨b, off, none⟩ ∧ cap ≤ 9223372036854775807 ∧ ∃ (o : Option Addr) (n c : Nat), vs i = .slice o n c) from fun i hi => ⟨(hkk i hi).1, (hkk i hi).2.1, (hkk i hi).2.2.2.2.2.shape⟩)
  have HX := (show Hid (Bx w1 B g x v) from x1)
  have HR0 := (show Hid (altT (t.kids.take 0) f to x = x) from by show _ = _; rw [List.take_zero, altT])
  have HRn := (show Hid (t.kids.take t.kids.length = t.kids) from List.take_length)
  have HM := (show Hid _ from m1)
  clear hkk ht hx hm hr HMo hL hg x1 m1 t1 bx
  generalize t.kids = l at *
  go_enter Tryz.func66, Tryz.ntmps66
  go_wp2_with (first | (go_at_call 67; refine h28.mono ?_; rintro e w2 ⟨rfl, hw2⟩; have hw3 : w1 = w2 := HW.out.trans hw2.symm; subst hw3; clear hw2 h28))
  go_loopw [37] (fun y wr => ∃ (i : Nat) (v1 : Value), y = .int .i64 (i : Int) ∧ i ≤ l.length ∧ Hid (Bx wr B g (altT (l.take i) f to x) v1) ∧ Hid (Mv g v v1 w1 wr)) (fun y _ => l.length - (intOf y).toNat)
  case atStart => exact ⟨0, v, rfl, by omega, by rw [HR0.out]; exact HX, Mv.refl _ _ _⟩
  case round =>
    obtain ⟨i, v1, rfl, hil, H1, H2⟩ := hrel
    by_cases hend : i < l.length
    · obtain ⟨rfl, hcm, o2, n2, cap2, hv2⟩ := HSh.out i hend
      have hcells := HC.out i hend v1 wr H2.out
      rw [hv2] at hcells
      obtain ⟨j0, j1, j2, j3, j4, j5, j6, j7⟩ := hcells
      have HO1 := (show Hid (∀ (W : World), Below wr.heap.size wr W → Calls Tryz.prog 66 #[.pointer (some ⟨g, 0, none⟩), trV (nthT l i) (.slice o2 n2 cap2), .int .i64 (f : Int), .int .i64 (to : Int)] W fun e w' => e = .returned (.tuple #[]) ∧ ∃ v', Bx w' B g (altT (l.take (i + 1)) f to x) v' ∧ Mv g v1 v' W w') from fun W hW => by
        have := HO.out i hend v1 W (H1.out.later hW) (H2.out.trans (Mv.of hW))
        rw [hv2] at this
        exact this)
      have HM2 := (show Hid (∀ (W W' : World) (v' : Value), Below wr.heap.size wr W → Mv g v1 v' W W' → Mv g v v' w1 W') from fun W W' v' hW m => H2.out.trans ((Mv.of hW).trans m))
      clear hv2 HC HSh HO
      obtain ⟨y2, hy2⟩ : ∃ y2, y2 = altT (l.take (i + 1)) f to x := ⟨_, rfl⟩
      rw [← hy2] at HO1
      have HY := (show Hid (altT (l.take (i + 1)) f to x = y2) from hy2.symm)
      clear hy2
      generalize nthT l i = u at *
      go_wp2_with (go_at_call 66; refine (HO1.out _ (nf.below_alloc _ _)).mono ?_; rintro e w2 ⟨rfl, v2, hx2, m2⟩)
      go_roundw
      case rel => exact ⟨i + 1, v2, by go_num, by omega, by rw [HY.out]; exact hx2, HM2.out _ _ _ (nf.below_alloc _ _) m2⟩
      case measure => simp [intOf]; omega
    · have e : i = l.length := by omega
      subst e
      rw [HRn.out] at H1
      go_wp2_with (fail)
      go_end0
      exact ⟨rfl, v1, H1.out, HM.out.trans H2.out⟩
end
end Go.Proofs.YthmecbonjkcnmaaGreat.nb

namespace Go.Proofs.YthmecbonjkcnmaaGreat.nb
open Go.ChangeShapes Go.WideShapes Go.ChangeAt Go.RowKit
open st (Tr Q4 nodesOf goods okNode Is Box nthT)
open nf (Ed)
set_option linter.unusedVariables false
set_option maxRecDepth 100000

section
variable {t : Tr} {f to : Nat} {x : St} {a B g : Nat} {v : Value} {w : World} {tv : Value}
theorem below_drew' {w W : World} (h : Below w.heap.size w W) : Below w.heap.size w W.drew := Below.drew h
set_option maxHeartbeats 2000000 in
theorem lay_4 (hg : t.good = true) (hA : ∀ i, i < t.kids.length → AgainIs (nthT t.kids i)) (hU : ∀ i, i < t.kids.length → UpToIs (nthT t.kids i)) (hm : Most x a a) (hr : Room t a) (hx : Bx w B g x v) (hB : B ≤ w.heap.size) (ht : Is w (· < B) t tv) (hf : x.full = false) (hk : t.kind = 4) : Goal t f to x B g v w tv := by
  obtain ⟨w1, hw1, _, bx, x1, b1, t1, m1⟩ := beg_of (a := a) hx hB ht
  have he : x.es.length ≤ 1000000 := by have := hm.e; have := hr.hi; omega
  have h28 := full_any x (by have := hm.n; have := hr.hi; omega) he B g v w1 x1
  rw [hf, hw1] at h28
  have HW := (show Hid _ from hw1)
  clear hw1
  unfold Goal
  have hok : okNode t = true := by rw [Tr.good_eq, Bool.and_eq_true] at hg; exact hg.1
  obtain ⟨hl1, hmn0, hmn1, hmx⟩ := times_of t hok hk
  rw [layT_eq, if_neg (by rw [hf]; decide), if_neg (by omega), if_neg (by omega), if_neg (by omega), if_pos hk]
  obtain ⟨k0, k1, k2, k3, k4, k5, k6, k7⟩ := box_cells bx
  rw [hk] at k0
  clear hk
  obtain ⟨o, cap, b, off, vs, rfl, hcap, hkk⟩ := t1.form
  obtain ⟨ho, hc9, hb, hp, hcells, hkid⟩ := hkk 0 (by omega)
  subst ho
  have hnd := hr.nd
  have hne := t.nodes_eq
  have hde := t.depth_eq
  have hhi := hr.hi
  have hlo := hr.lo
  have hu1 := st.nodes_nth t.kids 0 (by omega)
  have hu2 := st.depth_nth t.kids 0 (by omega)
  have hun : 1 ≤ (nthT t.kids 0).nodes := by rw [Tr.nodes_eq]; omega
  have hroom : Room (nthT t.kids 0) (a + (30 * (nthT t.kids 0).nodes - 5) + 60) := ⟨by omega, by omega, by rw [hde] at hhi; omega⟩
  have hmost : Most x (a + (30 * (nthT t.kids 0).nodes - 5)) (a + (30 * (nthT t.kids 0).nodes - 5)) := hm.up (by omega) (by omega)
  have hhd : headT t.kids = layT (nthT t.kids 0) := by
    match hh : t.kids, hl1 with
    | [u], _ => rfl
  obtain ⟨mn, hmn⟩ : ∃ mn : Nat, t.min = (mn : Int) := ⟨t.min.toNat, by omega⟩
  have e1 : t.min.toNat = mn := by omega
  rw [hhd, e1]
  rw [hmn] at k5
  obtain ⟨o2, n2, cap2, hv2⟩ := hkid.shape
  rw [hv2] at hcells hkid
  obtain ⟨j0, j1, j2, j3, j4, j5, j6, j7⟩ := hcells
  simp only [Nat.zero_mul, Nat.add_zero] at j0 j1 j2 j3 j4 j5 j6 j7
  have c51 := fun (W : World) (h : Below w1.heap.size w1 W) => hA 0 (by omega) mn f to x _ (by omega) hmost (by omega) hroom B g v W (.slice o2 n2 cap2) (x1.later h) (Nat.le_trans b1 h.size) (is_mv hkid x1 b1 (Mv.of (g := g) (v := v) h))
  have c52 := fun (mx : Nat) (hmx : mx ≤ 20) (W : World) (h : Below w1.heap.size w1 W) => hU 0 (by omega) mn mx f to x _ (by omega) hmx hmost (by omega) hroom B g v W (.slice o2 n2 cap2) (x1.later h) (Nat.le_trans b1 h.size) (is_mv hkid x1 b1 (Mv.of (g := g) (v := v) h))
  have HM := (show Hid _ from m1)
  have HD := (show Hid (Below w1.heap.size w1 w1.drew) from below_drew' (Below.refl _ _))
  have hlb : t.kids.length ≤ cap := hcap
  by_cases hx1 : t.max = -1
  · rw [if_pos hx1]
    rw [hx1] at k6
    have d51 := c51 _ HD.out
    have HMd := (show Hid (Mv g v v w1 w1.drew) from Mv.of HD.out)
    clear hkk ht hx hm hr hA hU hg x1 m1 t1 bx hv2 hkid hmost hroom hhd hmn e1 hx1 hmx hmn0 hmn1 hok hne hde hu1 hu2 hun hnd hhi c51 c52
    rw [hl1] at *
    generalize nthT t.kids 0 = u at *
    go_enter Tryz.func66, Tryz.ntmps66
    go_wp2_with (first | (go_at_call 67; refine h28.mono ?_; rintro e w2 ⟨rfl, hw2⟩; have hw3 : w1 = w2 := HW.out.trans hw2.symm; subst hw3; clear hw2 h28))
    go_region_with (go_at_call 93; refine d51.mono ?_; rintro e w3 ⟨rfl, v3, hx3, m3⟩)
    all_goals
      go_end0
      exact ⟨rfl, v3, hx3, HM.out.trans (HMd.out.trans m3)⟩
  · have hq20 : 0 ≤ t.max ∧ t.max ≤ 20 := hmx.resolve_left hx1
    obtain ⟨mx, hmxe⟩ : ∃ mx : Nat, t.max = (mx : Int) := ⟨t.max.toNat, by omega⟩
    have e2 : t.max.toNat = mx := by omega
    rw [if_neg hx1, e2]
    rw [hmxe] at k6
    have q1 : ((mx : Int) == -1) = false := beq_eq_false_iff_ne.2 (by omega)
    have d52 := c52 mx (by omega) _ HD.out
    have HMd := (show Hid (Mv g v v w1 w1.drew) from Mv.of HD.out)
    clear hkk ht hx hm hr hA hU hg x1 m1 t1 bx hv2 hkid hmost hroom hhd hmn e1 hx1 hmxe e2 hmx hmn0 hmn1 hok hne hde hu1 hu2 hun hnd hhi c51 c52 hq20
    rw [hl1] at *
    generalize nthT t.kids 0 = u at *
    go_enter Tryz.func66, Tryz.ntmps66
    go_wp2_with (first | (go_at_call 67; refine h28.mono ?_; rintro e w2 ⟨rfl, hw2⟩; have hw3 : w1 = w2 := HW.out.trans hw2.symm; subst hw3; clear hw2 h28))
    go_region_with (go_at_call 94; refine d52.mono ?_; rintro e w3 ⟨rfl, v3, hx3, m3⟩)
    all_goals
      go_end0
      exact ⟨rfl, v3, hx3, HM.out.trans (HMd.out.trans m3)⟩
end
/-- an expression is laid as the plain words say -/
theorem lay_any : ∀ (d : Nat) (t : Tr), t.depth ≤ d → t.good = true → LayIs t
  | 0, t, h, _ => by rw [Tr.depth_eq] at h; omega
  | d + 1, t, h, hg => by
    intro f to x a hm hr B g v w tv hx hB ht
    have hgk : ∀ i, i < t.kids.length → (nthT t.kids i).good = true := fun i hi => goods_mem t.kids (by rw [Tr.good_eq, Bool.and_eq_true] at hg; exact hg.2) _ (st.nthT_mem t.kids i hi)
    have hL : ∀ i, i < t.kids.length → LayIs (nthT t.kids i) := fun i hi => lay_any d _ (by have := st.depth_nth t.kids i hi; rw [Tr.depth_eq] at h; omega) (hgk i hi)
    cases hf : x.full with
    | true => exact lay_full hm hr hx hB ht hf
    | false =>
      by_cases h1 : t.kind = 1
      · exact lay_1 hm hr hx hB ht hf h1
      · by_cases h2 : t.kind = 2
        · exact lay_2 hg (row_any t hg fun i hi => one_any _ (hL i hi)) hm hr hx hB ht hf h2
        · by_cases h3 : t.kind = 3
          · exact lay_3 hg hL hm hr hx hB ht hf h3
          · by_cases h4 : t.kind = 4
            · exact lay_4 hg (fun i hi => again_any _ (hgk i hi) (hL i hi)) (fun i hi => upTo_any _ (hgk i hi) (one_any _ (hL i hi))) hm hr hx hB ht hf h4
            · rw [Tr.good_eq, Bool.and_eq_true] at hg
              have := hg.1
              unfold okNode at this
              rw [if_neg h1, if_neg h2, if_neg h3, if_neg h4] at this
              cases this
end Go.Proofs.YthmecbonjkcnmaaGreat.nb
