/-
  Texts put together: Contracts over this program: the nfa's builder: one; what laying a tree asks and gives. Contracts over this program: the nfa's builder: row.
-/
import Derived.Test.YtfilndgbgdnpiaaM11
import Derived.Test.YtfilndgbgdnpiaaM14
namespace Go.Proofs.Ytfilndgbgdnpiaa.nb
open Go.ChangeShapes Go.WideShapes Go.ChangeAt Go.RowKit
open st (Tr Q4 nodesOf goods okNode Is Box)
open nf (Ed)
set_option linter.unusedVariables false
set_option maxRecDepth 100000

abbrev trV (t : Tr) (v : Value) : Value := .agg #[.int .i64 t.kind, .int .u64 t.set.a, .int .u64 t.set.b, .int .u64 t.set.c, .int .u64 t.set.d, .int .i64 t.min, .int .i64 t.max, v]
/-- room for a tree -/
structure Room (t : Tr) (a : Nat) : Prop where
  lo : 16000 ≤ a
  nd : t.nodes ≤ 512
  hi : a + 16000 * t.depth ≤ 900000
def LayIs (t : Tr) : Prop := ∀ (f to : Nat) (x : St) (a : Nat), Most x a a → Room t a → ∀ B g v w tv, Bx w B g x v → B ≤ w.heap.size → Is w (· < B) t tv →
  Calls Try.prog 27 #[.pointer (some ⟨g, 0, none⟩), trV t tv, .int .i64 (f : Int), .int .i64 (to : Int)] w fun e w' => e = .returned (.tuple #[]) ∧ ∃ v', Bx w' B g (layT t f to x) v' ∧ Mv g v v' w w'
def OneIs (t : Tr) : Prop := ∀ (f : Nat) (x : St) (a : Nat), Most x.new a a → Room t a → ∀ B g v w tv, Bx w B g x v → B ≤ w.heap.size → Is w (· < B) t tv →
  Calls Try.prog 74 #[.pointer (some ⟨g, 0, none⟩), trV t tv, .int .i64 (f : Int)] w fun e w' => e = .returned (.int .i64 (x.n : Int)) ∧ ∃ v', Bx w' B g (layT t f x.n x.new) v' ∧ Mv g v v' w w'
theorem info28 : (Try.prog.info? 28).map (·.size) = some 8 := by kernel_rfl
theorem is_mv {w w' : World} {B g : Nat} {x : St} {v v' : Value} {t : Tr} {tv : Value} (h : Is w (· < B) t tv) (hx : Bx w B g x v) (hB : B ≤ w.heap.size) (m : Mv g v v' w w') : Is w' (· < B) t tv :=
  h.carry m.size (fun _ p _ => p) (fun b p hlt => m.block b hlt (by have := hx.bg; omega) (fun e => by have := (ow.lt hx.own e.symm).1; omega))
theorem box_mv {w w' : World} {B g k : Nat} {x : St} {v v' : Value} {t : Tr} {tv : Value} (h : Box w k t tv) (hx : Bx w B g x v) (m : Mv g v v' w w') : Box w' k t tv := by
  unfold Box at h ⊢
  rw [m.block k (Array.getElem?_eq_some_iff.1 h).1 (fun e => by subst e; rw [hx.blk] at h; simp at h) (ow.type hx.own h (by decide))]
  exact h
set_option maxHeartbeats 1000000 in
theorem one_any (t : Tr) (hL : LayIs t) : OneIs t := by
  intro f x a hm hr B g v w tv hx hB ht
  obtain ⟨w1, hw1⟩ : ∃ w1, w1 = w.alloc (.cells #[.int .i64 t.kind, .int .u64 t.set.a, .int .u64 t.set.b, .int .u64 t.set.c, .int .u64 t.set.d, .int .i64 t.min, .int .i64 t.max, tv] 28) := ⟨_, rfl⟩
  have b1 : Below w.heap.size w w1 := by rw [hw1]; exact (Below.refl _ _).alloc (Nat.le_refl _) _
  have bx1 : Box w1 w.heap.size t tv := by rw [hw1]; exact st.box_new w t tv
  have hx1 := hx.later b1
  have hB1 : B ≤ w1.heap.size := Nat.le_trans hB b1.size
  have ht1 := is_mv ht hx hB (Mv.of (g := g) (v := v) b1)
  have HM := (show Hid (Mv g v v w w1) from Mv.of b1)
  have hlo := hr.lo
  have hhi := hr.hi
  have hn : x.n ≤ 1000000 := by have := hm.n; simp [St.new] at this; omega
  have h75 := state_any x hn B g v w1 hx1
  have HL := (show Hid (∀ W, Bx W B g x.new v → Mv g v v w1 W → Calls Try.prog 27 #[.pointer (some ⟨g, 0, none⟩), trV t tv, .int .i64 (f : Int), .int .i64 (x.n : Int)] W fun e w' => e = .returned (.tuple #[]) ∧ ∃ v', Bx w' B g (layT t f x.n x.new) v' ∧ Mv g v v' W w') from fun W h m => hL f x.n x.new a hm hr B g v W tv h (Nat.le_trans hB1 m.size) (is_mv ht1 hx1 hB1 m))
  have HB := (show Hid (∀ W, Mv g v v w1 W → Box W w.heap.size t tv) from fun W m => box_mv bx1 hx1 m)
  clear ht ht1 hx hm hr b1 bx1 hx1
  go_enter Try.func74, Try.ntmps74
  go_wp2_with (first | (go_at_call 75; (try rw [← hw1]); refine h75.mono ?_; rintro e w2 ⟨rfl, hx2, m2⟩; clear h75; have b2 := HB.out w2 m2; have c27 := HL.out w2 hx2 m2) | (refine wpList_load_row rfl 28 (.tmp 4) rfl w.heap.size rfl 28 _ (0, 0) _ b2 Try.underlying28 rfl info28 ?_) | (go_at_call 27; refine c27.mono ?_; rintro e w3 ⟨rfl, v3, hx3, m3⟩))
  go_ret
  exact ⟨rfl, v3, hx3, HM.out.trans (m2.trans m3)⟩
end Go.Proofs.Ytfilndgbgdnpiaa.nb

namespace Go.Proofs.Ytfilndgbgdnpiaa.nb
open Go.ChangeShapes Go.WideShapes Go.ChangeAt Go.RowKit
open st (Tr Q4 nodesOf goods okNode Is Box nthT)
open nf (Ed)
set_option linter.unusedVariables false
set_option maxRecDepth 100000

theorem rowT_append : ∀ (l m : List Tr) (f : Nat) (x : St), rowT (l ++ m) f x = rowT m (rowT l f x).1 (rowT l f x).2
  | [], m, f, x => by rw [rowT]; rfl
  | t :: l, m, f, x => by
    rw [List.cons_append, rowT, rowT_append l m, rowT]
theorem rowT_take (l : List Tr) (i : Nat) (h : i < l.length) (f : Nat) (x : St) : rowT (l.take (i + 1)) f x = ((rowT (l.take i) f x).2.n, layT (nthT l i) (rowT (l.take i) f x).1 (rowT (l.take i) f x).2.n (rowT (l.take i) f x).2.new) := by
  rw [st.take_nthT l i h, rowT_append, rowT, rowT]
theorem altT_append : ∀ (l m : List Tr) (f to : Nat) (x : St), altT (l ++ m) f to x = altT m f to (altT l f to x)
  | [], m, f, to, x => by rw [altT]; rfl
  | t :: l, m, f, to, x => by
    rw [List.cons_append, altT, altT_append l m, altT]
theorem altT_take (l : List Tr) (i : Nat) (h : i < l.length) (f to : Nat) (x : St) : altT (l.take (i + 1)) f to x = layT (nthT l i) f to (altT (l.take i) f to x) := by
  rw [st.take_nthT l i h, altT_append, altT, altT]
theorem kid_lim (t : Tr) (hg : t.good = true) : ∀ u ∈ t.kids, Lim (layT u) (30 * u.nodes - 5) := fun u hu => lay_lim u.depth u (Nat.le_refl _) (goods_mem t.kids (by rw [Tr.good_eq, Bool.and_eq_true] at hg; exact hg.2) u hu)
theorem take_nodes (l : List Tr) (i : Nat) : nodesOf (l.take i) ≤ nodesOf l := st.nodesOf_le l i
/-- room for a kid, behind those ahead of it -/
theorem kid_room {t : Tr} {a : Nat} (h : Room t a) (i : Nat) (hi : i < t.kids.length) (c : Nat) (hc : c ≤ 30 * nodesOf (t.kids.take i) + 30) : Room (nthT t.kids i) (a + c) := by
  have h1 := st.nodes_nth t.kids i hi
  have h2 := st.depth_nth t.kids i hi
  have h3 := t.nodes_eq
  have h4 := t.depth_eq
  have h5 := h.nd
  have h6 := h.hi
  have h7 : 1 ≤ (nthT t.kids i).nodes := by rw [Tr.nodes_eq]; omega
  exact ⟨by have := h.lo; omega, by omega, by rw [h4] at h6; omega⟩
theorem cells_mv {w w' : World} {B g b o : Nat} {x : St} {v v' : Value} {t : Tr} {tv : Value} (h : st.Cells w b o t tv) (hb : b < w.heap.size) (hp : b < B) (hx : Bx w B g x v) (m : Mv g v v' w w') : st.Cells w' b o t tv :=
  h.same (m.block b hb (by have := hx.bg; omega) (fun e => by have := (ow.lt hx.own e.symm).1; omega))
def RowIs (t : Tr) : Prop := ∀ (f : Nat) (x : St) (a : Nat), Most x a a → Room t a → ∀ B g v w tv, Bx w B g x v → B ≤ w.heap.size → Is w (· < B) t tv →
  Calls Try.prog 50 #[.pointer (some ⟨g, 0, none⟩), tv, .int .i64 (f : Int)] w fun e w' => e = .returned (.int .i64 ((rowT t.kids f x).1 : Int)) ∧ ∃ v', Bx w' B g (rowT t.kids f x).2 v' ∧ Mv g v v' w w'
set_option maxHeartbeats 1000000 in
theorem row_any (t : Tr) (hg : t.good = true) (hO : ∀ i, i < t.kids.length → OneIs (nthT t.kids i)) : RowIs t := by
  intro f x a hm hr B g v w tv hx hB ht
  have HMo := (show Hid (∀ i, Most (rowT (t.kids.take i) f x).2 (a + 30 * nodesOf (t.kids.take i)) (a + 30 * nodesOf (t.kids.take i))) from fun i => row_most (t.kids.take i) (fun u hu => kid_lim t hg u (List.mem_of_mem_take hu)) f x a a (by have := hr.lo; omega) hr.lo hm)
  obtain ⟨o, cap, b, off, vs, rfl, hcap, hk⟩ := ht.form
  have hll : t.kids.length ≤ 9223372036854775807 := by
    by_cases h0 : 0 < t.kids.length
    · have := (hk 0 h0).2.1; omega
    · omega
  have HO := (show Hid (∀ (i : Nat) (hi : i < t.kids.length) (v1 : Value) (W : World), Bx W B g (rowT (t.kids.take i) f x).2 v1 → Mv g v v1 w W → Calls Try.prog 74 #[.pointer (some ⟨g, 0, none⟩), trV (nthT t.kids i) (vs i), .int .i64 ((rowT (t.kids.take i) f x).1 : Int)] W fun e w' => e = .returned (.int .i64 ((rowT (t.kids.take (i + 1)) f x).1 : Int)) ∧ ∃ v', Bx w' B g (rowT (t.kids.take (i + 1)) f x).2 v' ∧ Mv g v1 v' W w') from fun i hi v1 W h m => by
    have h1 := hO i hi (rowT (t.kids.take i) f x).1 (rowT (t.kids.take i) f x).2 (a + (30 * nodesOf (t.kids.take i) + 1)) ((HMo.out i).new.up (by omega) (by omega)) (kid_room hr i hi _ (by omega)) B g v1 W (vs i) h (Nat.le_trans hB m.size) (is_mv (hk i hi).2.2.2.2.2 hx hB m)
    rw [rowT_take t.kids i hi]
    exact h1)
  have HC := (show Hid (∀ (i : Nat) (hi : i < t.kids.length) (v1 : Value) (W : World), Mv g v v1 w W → st.Cells W b (off + i * 8) (nthT t.kids i) (vs i)) from fun i hi v1 W m => cells_mv (hk i hi).2.2.2.2.1 (hk i hi).2.2.1 (hk i hi).2.2.2.1 hx m)
  have HSh := (show Hid (∀ (i : Nat) (hi : i < t.kids.length), o = some ⟨b, off, none⟩ ∧ cap ≤ 9223372036854775807 ∧ ∃ (o : Option Addr) (n c : Nat), vs i = .slice o n c) from fun i hi => ⟨(hk i hi).1, (hk i hi).2.1, (hk i hi).2.2.2.2.2.shape⟩)
  have HX := (show Hid (Bx w B g x v) from hx)
  have HR0 := (show Hid (rowT (t.kids.take 0) f x = (f, x)) from by show _ = _; rw [List.take_zero, rowT])
  have HRn := (show Hid (t.kids.take t.kids.length = t.kids) from List.take_length)
  clear hk ht hx hm hr HMo hO hg
  generalize t.kids = l at *
  go_enter Try.func50, Try.ntmps50
  go_wp2_with (fail)
  go_loopw [2, 11] (fun u y wr => ∃ (i : Nat) (v1 : Value), u = .int .i64 ((rowT (l.take i) f x).1 : Int) ∧ y = .int .i64 (i : Int) ∧ i ≤ l.length ∧ Hid (Bx wr B g (rowT (l.take i) f x).2 v1) ∧ Hid (Mv g v v1 w wr)) (fun _ y _ => l.length - (intOf y).toNat)
  case atStart => exact ⟨0, v, by rw [HR0.out], rfl, by omega, by rw [HR0.out]; exact HX, Mv.refl _ _ _⟩
  case round =>
    obtain ⟨i, v1, rfl, rfl, hil, H1, H2⟩ := hrel
    by_cases hend : i < l.length
    · obtain ⟨rfl, hcm, o2, n2, cap2, hv2⟩ := HSh.out i hend
      have hcells := HC.out i hend v1 wr H2.out
      rw [hv2] at hcells
      obtain ⟨k0, k1, k2, k3, k4, k5, k6, k7⟩ := hcells
      have HO1 := (show Hid (∀ (W : World), Below wr.heap.size wr W → Calls Try.prog 74 #[.pointer (some ⟨g, 0, none⟩), trV (nthT l i) (.slice o2 n2 cap2), .int .i64 ((rowT (l.take i) f x).1 : Int)] W fun e w' => e = .returned (.int .i64 ((rowT (l.take (i + 1)) f x).1 : Int)) ∧ ∃ v', Bx w' B g (rowT (l.take (i + 1)) f x).2 v' ∧ Mv g v1 v' W w') from fun W hW => by
        have := HO.out i hend v1 W (H1.out.later hW) (H2.out.trans (Mv.of hW))
        rw [hv2] at this
        exact this)
      have HM2 := (show Hid (∀ (W W' : World) (v' : Value), Below wr.heap.size wr W → Mv g v1 v' W W' → Mv g v v' w W') from fun W W' v' hW m => H2.out.trans ((Mv.of hW).trans m))
      clear hv2 HC HSh HO
      generalize rowT (l.take i) f x = y at *
      obtain ⟨y2, hy2⟩ : ∃ y2, y2 = rowT (l.take (i + 1)) f x := ⟨_, rfl⟩
      rw [← hy2] at HO1
      have HY := (show Hid (rowT (l.take (i + 1)) f x = y2) from hy2.symm)
      clear hy2
      generalize nthT l i = u at *
      go_wp2_with (go_at_call 74; refine (HO1.out _ (nf.below_alloc _ _)).mono ?_; rintro e w2 ⟨rfl, v2, hx2, m2⟩)
      go_roundw
      case rel => exact ⟨i + 1, v2, by rw [HY.out], by go_num, by omega, by rw [HY.out]; exact hx2, HM2.out _ _ _ (nf.below_alloc _ _) m2⟩
      case measure => simp [intOf]; omega
    · have e : i = l.length := by omega
      subst e
      rw [HRn.out] at H1 ⊢
      go_wp2_with (fail)
      go_ret
      exact ⟨rfl, v1, H1.out, H2.out⟩
end Go.Proofs.Ytfilndgbgdnpiaa.nb
