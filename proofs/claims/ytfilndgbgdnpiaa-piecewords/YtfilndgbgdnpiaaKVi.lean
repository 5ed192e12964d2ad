/-
  Contracts over this program: the nfa's builder: lay, kind by kind.
-/
import Derived.Test.YtfilndgbgdnpiaaM16
import Derived.Deep.RegionWith
namespace Go.Proofs.Ytfilndgbgdnpiaa.nb
open Go.ChangeShapes Go.WideShapes Go.ChangeAt Go.RowKit
open st (Tr Q4 nodesOf goods okNode Is Box nthT)
open nf (Ed)
set_option linter.unusedVariables false
set_option maxRecDepth 100000

theorem layT_eq (t : Tr) (f to : Nat) (x : St) : layT t f to x = if x.full = true then x else if t.kind = 1 then x.over t.set f to else if t.kind = 2 then (rowT t.kids f x).2.free (rowT t.kids f x).1 to else if t.kind = 3 then altT t.kids f to x
    else if t.kind = 4 then (if t.max = -1 then again (headT t.kids) t.min.toNat f to x else upTo (headT t.kids) t.min.toNat to t.max.toNat 0 f x) else x := by
  cases t
  rw [layT]
  rfl
/-- as lay has put its tree into a cell -/
structure Beg (t : Tr) (x : St) (a B g : Nat) (v : Value) (w : World) (tv : Value) (w1 : World) : Prop where
  ws : w1 = w.alloc (.cells #[.int .i64 t.kind, .int .u64 t.set.a, .int .u64 t.set.b, .int .u64 t.set.c, .int .u64 t.set.d, .int .i64 t.min, .int .i64 t.max, tv] 28)
  bl : Below w.heap.size w w1
  bx : Box w1 w.heap.size t tv
  x1 : Bx w1 B g x v
  b1 : B ≤ w1.heap.size
  t1 : Is w1 (· < B) t tv
  m1 : Mv g v v w w1
theorem beg_of {t : Tr} {x : St} {a B g : Nat} {v : Value} {w : World} {tv : Value} (hx : Bx w B g x v) (hB : B ≤ w.heap.size) (ht : Is w (· < B) t tv) : ∃ w1, Beg t x a B g v w tv w1 :=
  ⟨_, rfl, (Below.refl _ _).alloc (Nat.le_refl _) _, st.box_new w t tv, hx.later ((Below.refl _ _).alloc (Nat.le_refl _) _), by simp; omega, is_mv ht hx hB (Mv.of (g := g) (v := v) ((Below.refl _ _).alloc (Nat.le_refl _) _)), Mv.of ((Below.refl _ _).alloc (Nat.le_refl _) _)⟩
theorem box_cells {w : World} {k : Nat} {t : Tr} {tv : Value} (h : Box w k t tv) : w.cell? ⟨k, 0, none⟩ = some (.int .i64 t.kind) ∧ w.cell? ⟨k, 1, none⟩ = some (.int .u64 (t.set.a : Int)) ∧ w.cell? ⟨k, 2, none⟩ = some (.int .u64 (t.set.b : Int)) ∧ w.cell? ⟨k, 3, none⟩ = some (.int .u64 (t.set.c : Int)) ∧ w.cell? ⟨k, 4, none⟩ = some (.int .u64 (t.set.d : Int)) ∧ w.cell? ⟨k, 5, none⟩ = some (.int .i64 t.min) ∧ w.cell? ⟨k, 6, none⟩ = some (.int .i64 t.max) ∧ w.cell? ⟨k, 7, none⟩ = some tv := by
  unfold Box at h
  refine ⟨?_, ?_, ?_, ?_, ?_, ?_, ?_, ?_⟩ <;> (rw [Lib.cell_of_heap h]; rfl)
section
variable {t : Tr} {f to : Nat} {x : St} {a B g : Nat} {v : Value} {w : World} {tv : Value}
def Goal (t : Tr) (f to : Nat) (x : St) (B g : Nat) (v : Value) (w : World) (tv : Value) : Prop := Calls Try.prog 27 #[.pointer (some ⟨g, 0, none⟩), trV t tv, .int .i64 (f : Int), .int .i64 (to : Int)] w fun e w' => e = .returned (.tuple #[]) ∧ ∃ v', Bx w' B g (layT t f to x) v' ∧ Mv g v v' w w'
theorem lay_full (hm : Most x a a) (hr : Room t a) (hx : Bx w B g x v) (hB : B ≤ w.heap.size) (ht : Is w (· < B) t tv) (hf : x.full = true) : Goal t f to x B g v w tv := by
  obtain ⟨w1, hw1, _, _, x1, _, _, m1⟩ := beg_of (a := a) hx hB ht
  have h28 := full_any x (by have := hm.n; have := hr.hi; omega) (by have := hm.e; have := hr.hi; omega) B g v w1 x1
  rw [hf, hw1] at h28
  have HW := (show Hid _ from hw1)
  clear hw1
  unfold Goal
  rw [layT_full t f to x hf]
  have HX := (show Hid _ from x1)
  have HM := (show Hid _ from m1)
  clear x1 m1 hx ht hm hr
  go_enter Try.func27, Try.ntmps27
  go_wp2_with (go_at_call 28; refine h28.mono ?_; rintro e w2 ⟨rfl, hw2⟩; have hw3 : w1 = w2 := HW.out.trans hw2.symm; subst hw3; clear hw2 h28)
  (try simp only [Exit.inBlock, Exit.then]); refine bodyPost_ret (results_none rfl _ _ _) rfl ?_
  exact ⟨rfl, v, HX.out, HM.out⟩
set_option maxHeartbeats 1000000 in
theorem lay_1 (hm : Most x a a) (hr : Room t a) (hx : Bx w B g x v) (hB : B ≤ w.heap.size) (ht : Is w (· < B) t tv) (hf : x.full = false) (hk : t.kind = 1) : Goal t f to x B g v w tv := by
  obtain ⟨w1, hw1, _, bx, x1, b1, _, m1⟩ := beg_of (a := a) hx hB ht
  have he : x.es.length ≤ 1000000 := by have := hm.e; have := hr.hi; omega
  have h28 := full_any x (by have := hm.n; have := hr.hi; omega) he B g v w1 x1
  rw [hf, hw1] at h28
  have HW := (show Hid _ from hw1)
  clear hw1
  unfold Goal
  rw [layT_eq, if_neg (by rw [hf]; decide), if_pos hk]
  have c48 := over_any x t.set f to he B g v w1 x1 b1
  obtain ⟨k0, k1, k2, k3, k4, k5, k6, k7⟩ := box_cells bx
  rw [hk] at k0
  clear hk
  have HM := (show Hid _ from m1)
  clear x1 m1 hx ht hm hr bx
  go_enter Try.func27, Try.ntmps27
  go_wp2_with (first | (go_at_call 28; refine h28.mono ?_; rintro e w2 ⟨rfl, hw2⟩; have hw3 : w1 = w2 := HW.out.trans hw2.symm; subst hw3; clear hw2 h28) | (go_at_call 48; refine c48.mono ?_; rintro e w3 ⟨rfl, v3, hx3, m3⟩))
  go_end0
  exact ⟨rfl, v3, hx3, HM.out.trans m3⟩
set_option maxHeartbeats 1000000 in
theorem lay_2 (hg : t.good = true) (hR : RowIs t) (hm : Most x a a) (hr : Room t a) (hx : Bx w B g x v) (hB : B ≤ w.heap.size) (ht : Is w (· < B) t tv) (hf : x.full = false) (hk : t.kind = 2) : Goal t f to x B g v w tv := by
  obtain ⟨w1, hw1, _, bx, x1, b1, t1, m1⟩ := beg_of (a := a) hx hB ht
  have he : x.es.length ≤ 1000000 := by have := hm.e; have := hr.hi; omega
  have h28 := full_any x (by have := hm.n; have := hr.hi; omega) he B g v w1 x1
  rw [hf, hw1] at h28
  have HW := (show Hid _ from hw1)
  clear hw1
  unfold Goal
  rw [layT_eq, if_neg (by rw [hf]; decide), if_neg (by omega), if_pos hk]
  have c50 := hR f x a hm hr B g v w1 tv x1 b1 t1
  have hmo := (row_most t.kids (kid_lim t hg) f x a a (by have := hr.lo; omega) hr.lo hm).e
  have hnd : 30 * nodesOf t.kids ≤ 15360 := by have := hr.nd; have := t.nodes_eq; omega
  have he2 : (rowT t.kids f x).2.es.length ≤ 1000000 := by have := hr.hi; omega
  have c49 := fun v1 W h => free_any (rowT t.kids f x).2 (rowT t.kids f x).1 to he2 B g v1 W h
  obtain ⟨k0, k1, k2, k3, k4, k5, k6, k7⟩ := box_cells bx
  rw [hk] at k0
  clear hk
  obtain ⟨o, n, cap, rfl⟩ := t1.shape
  have HM := (show Hid _ from m1)
  have hB1 := b1
  clear x1 m1 hx ht hm hr bx t1 hR hmo hnd he2
  generalize rowT t.kids f x = y at *
  go_enter Try.func27, Try.ntmps27
  go_wp2_with (first | (go_at_call 28; refine h28.mono ?_; rintro e w2 ⟨rfl, hw2⟩; have hw3 : w1 = w2 := HW.out.trans hw2.symm; subst hw3; clear hw2 h28) | (go_at_call 50; refine c50.mono ?_; rintro e w3 ⟨rfl, v3, hx3, m3⟩; clear c50; have a49 := c49 v3 w3 hx3 (Nat.le_trans hB1 m3.size); clear c49) | (go_at_call 49; refine a49.mono ?_; rintro e w4 ⟨rfl, v4, hx4, m4⟩))
  go_end0
  exact ⟨rfl, v4, hx4, HM.out.trans (m3.trans m4)⟩
set_option maxHeartbeats 2000000 in
theorem lay_3 (hg : t.good = true) (hL : ∀ i, i < t.kids.length → LayIs (nthT t.kids i)) (hm : Most x a a) (hr : Room t a) (hx : Bx w B g x v) (hB : B ≤ w.heap.size) (ht : Is w (· < B) t tv) (hf : x.full = false) (hk : t.kind = 3) : Goal t f to x B g v w tv := by
  obtain ⟨w1, hw1, _, bx, x1, b1, t1, m1⟩ := beg_of (a := a) hx hB ht
  have he : x.es.length ≤ 1000000 := by have := hm.e; have := hr.hi; omega
  have h28 := full_any x (by have := hm.n; have := hr.hi; omega) he B g v w1 x1
  rw [hf, hw1] at h28
  have HW := (show Hid _ from hw1)
  clear hw1
  unfold Goal
  rw [layT_eq, if_neg (by rw [hf]; decide), if_neg (by omega), if_neg (by omega), if_pos hk]
  have HMo := (show Hid (∀ i, Most (altT (t.kids.take i) f to x) (a + 30 * nodesOf (t.kids.take i)) (a + 30 * nodesOf (t.kids.take i))) from fun i => alt_most (t.kids.take i) (fun u hu => kid_lim t hg u (List.mem_of_mem_take hu)) f to x a a (by have := hr.lo; omega) hr.lo hm)
  obtain ⟨k0, k1, k2, k3, k4, k5, k6, k7⟩ := box_cells bx
  rw [hk] at k0
  clear hk
  obtain ⟨o, cap, b, off, vs, rfl, hcap, hkk⟩ := t1.form
  have hll : t.kids.length ≤ 9223372036854775807 := by
    by_cases h0 : 0 < t.kids.length
    · have := (hkk 0 h0).2.1; omega
    · omega
  have HO := (show Hid (∀ (i : Nat) (hi : i < t.kids.length) (v1 : Value) (W : World), Bx W B g (altT (t.kids.take i) f to x) v1 → Mv g v v1 w1 W → Calls Try.prog 27 #[.pointer (some ⟨g, 0, none⟩), trV (nthT t.kids i) (vs i), .int .i64 (f : Int), .int .i64 (to : Int)] W fun e w' => e = .returned (.tuple #[]) ∧ ∃ v', Bx w' B g (altT (t.kids.take (i + 1)) f to x) v' ∧ Mv g v1 v' W w') from fun i hi v1 W h m => by
    have h1 := hL i hi f to (altT (t.kids.take i) f to x) (a + 30 * nodesOf (t.kids.take i)) (HMo.out i) (kid_room hr i hi _ (by omega)) B g v1 W (vs i) h (Nat.le_trans b1 m.size) (is_mv (hkk i hi).2.2.2.2.2 x1 b1 m)
    rw [altT_take t.kids i hi]
    exact h1)
  have HC := (show Hid (∀ (i : Nat) (hi : i < t.kids.length) (v1 : Value) (W : World), Mv g v v1 w1 W → st.Cells W b (off + i * 8) (nthT t.kids i) (vs i)) from fun i hi v1 W m => cells_mv (hkk i hi).2.2.2.2.1 (hkk i hi).2.2.1 (hkk i hi).2.2.2.1 x1 m)
  have HSh := (show Hid (∀ (i : Nat) (hi : i < t.kids.length), o = some ⟨b, off, none⟩ ∧ cap ≤ 9223372036854775807 ∧ ∃ (o : Option Addr) (n c : Nat), vs i = .slice o n c) from fun i hi => ⟨(hkk i hi).1, (hkk i hi).2.1, (hkk i hi).2.2.2.2.2.shape⟩)
  have HX := (show Hid (Bx w1 B g x v) from x1)
  have HR0 := (show Hid (altT (t.kids.take 0) f to x = x) from by show _ = _; rw [List.take_zero, altT])
  have HRn := (show Hid (t.kids.take t.kids.length = t.kids) from List.take_length)
  have HM := (show Hid _ from m1)
  clear hkk ht hx hm hr HMo hL hg x1 m1 t1 bx
  generalize t.kids = l at *
  go_enter Try.func27, Try.ntmps27
  go_wp2_with (first | (go_at_call 28; refine h28.mono ?_; rintro e w2 ⟨rfl, hw2⟩; have hw3 : w1 = w2 := HW.out.trans hw2.symm; subst hw3; clear hw2 h28))
  go_loopw [37] (fun y wr => ∃ (i : Nat) (v1 : Value), y = .int .i64 (i : Int) ∧ i ≤ l.length ∧ Hid (Bx wr B g (altT (l.take i) f to x) v1) ∧ Hid (Mv g v v1 w1 wr)) (fun y _ => l.length - (intOf y).toNat)
  case atStart => exact ⟨0, v, rfl, by omega, by rw [HR0.out]; exact HX, Mv.refl _ _ _⟩
  case round =>
    obtain ⟨i, v1, rfl, hil, H1, H2⟩ := hrel
    by_cases hend : i < l.length
    · obtain ⟨rfl, hcm, o2, n2, cap2, hv2⟩ := HSh.out i hend
      have hcells := HC.out i hend v1 wr H2.out
      rw [hv2] at hcells
      obtain ⟨j0, j1, j2, j3, j4, j5, j6, j7⟩ := hcells
      have HO1 := (show Hid (∀ (W : World), Below wr.heap.size wr W → Calls Try.prog 27 #[.pointer (some ⟨g, 0, none⟩), trV (nthT l i) (.slice o2 n2 cap2), .int .i64 (f : Int), .int .i64 (to : Int)] W fun e w' => e = .returned (.tuple #[]) ∧ ∃ v', Bx w' B g (altT (l.take (i + 1)) f to x) v' ∧ Mv g v1 v' W w') from fun W hW => by
        have := HO.out i hend v1 W (H1.out.later hW) (H2.out.trans (Mv.of hW))
        rw [hv2] at this
        exact this)
      have HM2 := (show Hid (∀ (W W' : World) (v' : Value), Below wr.heap.size wr W → Mv g v1 v' W W' → Mv g v v' w1 W') from fun W W' v' hW m => H2.out.trans ((Mv.of hW).trans m))
      clear hv2 HC HSh HO
      obtain ⟨y2, hy2⟩ : ∃ y2, y2 = altT (l.take (i + 1)) f to x := ⟨_, rfl⟩
      rw [← hy2] at HO1
      have HY := (show Hid (altT (l.take (i + 1)) f to x = y2) from hy2.symm)
      clear hy2
      generalize nthT l i = u at *
      go_wp2_with (go_at_call 27; refine (HO1.out _ (nf.below_alloc _ _)).mono ?_; rintro e w2 ⟨rfl, v2, hx2, m2⟩)
      go_roundw
      case rel => exact ⟨i + 1, v2, by go_num, by omega, by rw [HY.out]; exact hx2, HM2.out _ _ _ (nf.below_alloc _ _) m2⟩
      case measure => simp [intOf]; omega
    · have e : i = l.length := by omega
      subst e
      rw [HRn.out] at H1
      go_wp2_with (fail)
      go_end0
      exact ⟨rfl, v1, H1.out, HM.out.trans H2.out⟩
end
end Go.Proofs.Ytfilndgbgdnpiaa.nb
