/-
  Texts put together: Contracts over this program: the nfa's builder: row. Contracts over this program: the nfa's builder: upTo. Contracts over this program: the nfa's builder: again.
-/
import Derived.Test.YtfilndgbgdnpiaaM10
namespace Go.Proofs.Ytfilndgbgdnpiaa.nb
open Go.ChangeShapes Go.WideShapes Go.ChangeAt Go.RowKit
open st (Tr Q4 nodesOf goods okNode Is Box nthT)
open nf (Ed)
set_option linter.unusedVariables false
set_option maxRecDepth 100000

theorem rowT_append : ∀ (l m : List Tr) (f : Nat) (x : St), rowT (l ++ m) f x = rowT m (rowT l f x).1 (rowT l f x).2
  | [], m, f, x => by rw [rowT]; rfl
  | t :: l, m, f, x => by
    rw [List.cons_append, rowT, rowT_append l m, rowT]
theorem rowT_take (l : List Tr) (i : Nat) (h : i < l.length) (f : Nat) (x : St) : rowT (l.take (i + 1)) f x = ((rowT (l.take i) f x).2.n, layT (nthT l i) (rowT (l.take i) f x).1 (rowT (l.take i) f x).2.n (rowT (l.take i) f x).2.new) := by
  rw [st.take_nthT l i h, rowT_append, rowT, rowT]
theorem altT_append : ∀ (l m : List Tr) (f to : Nat) (x : St), altT (l ++ m) f to x = altT m f to (altT l f to x)
  | [], m, f, to, x => by rw [altT]; rfl
  | t :: l, m, f, to, x => by
    rw [List.cons_append, altT, altT_append l m, altT]
theorem altT_take (l : List Tr) (i : Nat) (h : i < l.length) (f to : Nat) (x : St) : altT (l.take (i + 1)) f to x = layT (nthT l i) f to (altT (l.take i) f to x) := by
  rw [st.take_nthT l i h, altT_append, altT, altT]
theorem kid_lim (t : Tr) (hg : t.good = true) : ∀ u ∈ t.kids, Lim (layT u) (30 * u.nodes - 5) := fun u hu => lay_lim u.depth u (Nat.le_refl _) (goods_mem t.kids (by rw [Tr.good_eq, Bool.and_eq_true] at hg; exact hg.2) u hu)
theorem take_nodes (l : List Tr) (i : Nat) : nodesOf (l.take i) ≤ nodesOf l := st.nodesOf_le l i
/-- room for a kid, behind those ahead of it -/
theorem kid_room {t : Tr} {a : Nat} (h : Room t a) (i : Nat) (hi : i < t.kids.length) (c : Nat) (hc : c ≤ 30 * nodesOf (t.kids.take i) + 30) : Room (nthT t.kids i) (a + c) := by
  have h1 := st.nodes_nth t.kids i hi
  have h2 := st.depth_nth t.kids i hi
  have h3 := t.nodes_eq
  have h4 := t.depth_eq
  have h5 := h.nd
  have h6 := h.hi
  have h7 : 1 ≤ (nthT t.kids i).nodes := by rw [Tr.nodes_eq]; omega
  exact ⟨by have := h.lo; omega, by omega, by rw [h4] at h6; omega⟩
theorem cells_mv {w w' : World} {B g b o : Nat} {x : St} {v v' : Value} {t : Tr} {tv : Value} (h : st.Cells w b o t tv) (hb : b < w.heap.size) (hp : b < B) (hx : Bx w B g x v) (m : Mv g v v' w w') : st.Cells w' b o t tv :=
  h.same (m.block b hb (by have := hx.bg; omega) (fun e => by have := (ow.lt hx.own e.symm).1; omega))
def RowIs (t : Tr) : Prop := ∀ (f : Nat) (x : St) (a : Nat), Most x a a → Room t a → ∀ B g v w tv, Bx w B g x v → B ≤ w.heap.size → Is w (· < B) t tv →
  Calls Try.prog 50 #[.pointer (some ⟨g, 0, none⟩), tv, .int .i64 (f : Int)] w fun e w' => e = .returned (.int .i64 ((rowT t.kids f x).1 : Int)) ∧ ∃ v', Bx w' B g (rowT t.kids f x).2 v' ∧ Mv g v v' w w'
set_option maxHeartbeats 1000000 in
theorem row_any (t : Tr) (hg : t.good = true) (hO : ∀ i, i < t.kids.length → OneIs (nthT t.kids i)) : RowIs t := by
  intro f x a hm hr B g v w tv hx hB ht
  have HMo := (show Hid (∀ i, Most (rowT (t.kids.take i) f x).2 (a + 30 * nodesOf (t.kids.take i)) (a + 30 * nodesOf (t.kids.take i))) from fun i => row_most (t.kids.take i) (fun u hu => kid_lim t hg u (List.mem_of_mem_take hu)) f x a a (by have := hr.lo; omega) hr.lo hm)
  obtain ⟨o, cap, b, off, vs, rfl, hcap, hk⟩ := ht.form
  have hll : t.kids.length ≤ 9223372036854775807 := by
    by_cases h0 : 0 < t.kids.length
    · have := (hk 0 h0).2.1; omega
    · omega
  have HO := (show Hid (∀ (i : Nat) (hi : i < t.kids.length) (v1 : Value) (W : World), Bx W B g (rowT (t.kids.take i) f x).2 v1 → Mv g v v1 w W → Calls Try.prog 74 #[.pointer (some ⟨g, 0, none⟩), trV (nthT t.kids i) (vs i), .int .i64 ((rowT (t.kids.take i) f x).1 : Int)] W fun e w' => e = .returned (.int .i64 ((rowT (t.kids.take (i + 1)) f x).1 : Int)) ∧ ∃ v', Bx w' B g (rowT (t.kids.take (i + 1)) f x).2 v' ∧ Mv g v1 v' W w') from fun i hi v1 W h m => by
    have h1 := hO i hi (rowT (t.kids.take i) f x).1 (rowT (t.kids.take i) f x).2 (a + (30 * nodesOf (t.kids.take i) + 1)) ((HMo.out i).new.up (by omega) (by omega)) (kid_room hr i hi _ (by omega)) B g v1 W (vs i) h (Nat.le_trans hB m.size) (is_mv (hk i hi).2.2.2.2.2 hx hB m)
    rw [rowT_take t.kids i hi]
    exact h1)
  have HC := (show Hid (∀ (i : Nat) (hi : i < t.kids.length) (v1 : Value) (W : World), Mv g v v1 w W → st.Cells W b (off + i * 8) (nthT t.kids i) (vs i)) from fun i hi v1 W m => cells_mv (hk i hi).2.2.2.2.1 (hk i hi).2.2.1 (hk i hi).2.2.2.1 hx m)
  have HSh := (show Hid (∀ (i : Nat) (hi : i < t.kids.length), o = some ⟨b, off, none⟩ ∧ cap ≤ 9223372036854775807 ∧ ∃ (o : Option Addr) (n c : Nat), vs i = .slice o n c) from fun i hi => ⟨(hk i hi).1, (hk i hi).2.1, (hk i hi).2.2.2.2.2.shape⟩)
  have HX := (show Hid (Bx w B g x v) from hx)
  have HR0 := (show Hid (rowT (t.kids.take 0) f x = (f, x)) from by show _ = _; rw [List.take_zero, rowT])
  have HRn := (show Hid (t.kids.take t.kids.length = t.kids) from List.take_length)
  clear hk ht hx hm hr HMo hO hg
  generalize t.kids = l at *
  go_enter Try.func50, Try.ntmps50
  go_wp2_with (fail)
  go_loopw [2, 11] (fun u y wr => ∃ (i : Nat) (v1 : Value), u = .int .i64 ((rowT (l.take i) f x).1 : Int) ∧ y = .int .i64 (i : Int) ∧ i ≤ l.length ∧ Hid (Bx wr B g (rowT (l.take i) f x).2 v1) ∧ Hid (Mv g v v1 w wr)) (fun _ y _ => l.length - (intOf y).toNat)
  case atStart => exact ⟨0, v, by rw [HR0.out], rfl, by omega, by rw [HR0.out]; exact HX, Mv.refl _ _ _⟩
  case round =>
    obtain ⟨i, v1, rfl, rfl, hil, H1, H2⟩ := hrel
    by_cases hend : i < l.length
    · obtain ⟨rfl, hcm, o2, n2, cap2, hv2⟩ := HSh.out i hend
      have hcells := HC.out i hend v1 wr H2.out
      rw [hv2] at hcells
      obtain ⟨k0, k1, k2, k3, k4, k5, k6, k7⟩ := hcells
      have HO1 := (show Hid (∀ (W : World), Below wr.heap.size wr W → Calls Try.prog 74 #[.pointer (some ⟨g, 0, none⟩), trV (nthT l i) (.slice o2 n2 cap2), .int .i64 ((rowT (l.take i) f x).1 : Int)] W fun e w' => e = .returned (.int .i64 ((rowT (l.take (i + 1)) f x).1 : Int)) ∧ ∃ v', Bx w' B g (rowT (l.take (i + 1)) f x).2 v' ∧ Mv g v1 v' W w') from fun W hW => by
        have := HO.out i hend v1 W (H1.out.later hW) (H2.out.trans (Mv.of hW))
        rw [hv2] at this
        exact this)
      have HM2 := (show Hid (∀ (W W' : World) (v' : Value), Below wr.heap.size wr W → Mv g v1 v' W W' → Mv g v v' w W') from fun W W' v' hW m => H2.out.trans ((Mv.of hW).trans m))
      clear hv2 HC HSh HO
      generalize rowT (l.take i) f x = y at *
      obtain ⟨y2, hy2⟩ : ∃ y2, y2 = rowT (l.take (i + 1)) f x := ⟨_, rfl⟩
      rw [← hy2] at HO1
      have HY := (show Hid (rowT (l.take (i + 1)) f x = y2) from hy2.symm)
      clear hy2
      generalize nthT l i = u at *
      go_wp2_with (go_at_call 74; refine (HO1.out _ (nf.below_alloc _ _)).mono ?_; rintro e w2 ⟨rfl, v2, hx2, m2⟩)
      go_roundw
      case rel => exact ⟨i + 1, v2, by rw [HY.out], by go_num, by omega, by rw [HY.out]; exact hx2, HM2.out _ _ _ (nf.below_alloc _ _) m2⟩
      case measure => simp [intOf]; omega
    · have e : i = l.length := by omega
      subst e
      rw [HRn.out] at H1 ⊢
      go_wp2_with (fail)
      go_ret
      exact ⟨rfl, v1, H1.out, H2.out⟩
end Go.Proofs.Ytfilndgbgdnpiaa.nb

namespace Go.Proofs.Ytfilndgbgdnpiaa.nb
open Go.ChangeShapes Go.WideShapes Go.ChangeAt Go.RowKit
open st (Tr Q4 nodesOf goods okNode Is Box nthT)
open nf (Ed)
set_option linter.unusedVariables false
set_option maxRecDepth 100000

/-- a time more, ahead of which one may leave -/
def upStep (L : Lay) (least to i : Nat) (y : Nat × St) : Nat × St :=
  let z := if least ≤ i then y.2.free y.1 to else y.2
  (z.n, L y.1 z.n z.new)
/-- behind so many times -/
def upN (L : Lay) (least to f : Nat) (x : St) : Nat → Nat × St
  | 0 => (f, x)
  | k + 1 => upStep L least to k (upN L least to f x k)
theorem upTo_from (L : Lay) (least to : Nat) (f : Nat) (x : St) : ∀ (k i : Nat), upTo L least to k i (upN L least to f x i).1 (upN L least to f x i).2 = (upN L least to f x (i + k)).2.free (upN L least to f x (i + k)).1 to
  | 0, i => rfl
  | k + 1, i => by
    have := upTo_from L least to f x k (i + 1)
    rw [upTo]
    rw [show i + (k + 1) = i + 1 + k by omega]
    exact this
theorem upTo_eq (L : Lay) (least to most f : Nat) (x : St) : upTo L least to most 0 f x = (upN L least to f x most).2.free (upN L least to f x most).1 to := by
  have := upTo_from L least to f x most 0
  rw [Nat.zero_add] at this
  exact this
theorem upN_most {L : Lay} {G : Nat} (h : Lim L G) (least to f : Nat) (x : St) (a b : Nat) (hx : Most x a b) (ha : 2000 + G ≤ a) (hb : 16000 + G ≤ b) : ∀ k, Most (upN L least to f x k).2 (a + k) (b + k)
  | 0 => hx
  | k + 1 => by
    have ih := upN_most h least to f x a b hx ha hb k
    have hy : Most (if least ≤ k then (upN L least to f x k).2.free (upN L least to f x k).1 to else (upN L least to f x k).2) (a + k) (b + k + 1) := by
      split
      · exact ih.free _ to
      · exact ih.up (Nat.le_refl _) (by omega)
    exact (h.step _ _ _ (a + k + 1) (b + k + 1) hy.new (by omega) (by omega)).up (by omega) (by omega)
def UpToIs (u : Tr) : Prop := ∀ (least most f to : Nat) (x : St) (a : Nat), least ≤ 20 → most ≤ 20 → Most x a a → 16000 + (30 * u.nodes - 5) ≤ a → Room u (a + 60) → ∀ B g v w tv, Bx w B g x v → B ≤ w.heap.size → Is w (· < B) u tv →
  Calls Try.prog 52 #[.pointer (some ⟨g, 0, none⟩), trV u tv, .int .i64 (least : Int), .int .i64 (most : Int), .int .i64 (f : Int), .int .i64 (to : Int)] w fun e w' => e = .returned (.tuple #[]) ∧ ∃ v', Bx w' B g (upTo (layT u) least to most 0 f x) v' ∧ Mv g v v' w w'
set_option maxHeartbeats 2000000 in
theorem upTo_any (u : Tr) (hg : u.good = true) (hO : OneIs u) : UpToIs u := by
  intro least most f to x a hl20 hm20 hm ha hr B g v w tv hx hB ht
  have hr1 := hr.hi
  have HMo := (show Hid (∀ k, Most (upN (layT u) least to f x k).2 (a + k) (a + k)) from upN_most (lay_lim u.depth u (Nat.le_refl _) hg) least to f x a a hm (by omega) ha)
  obtain ⟨w1, hw1⟩ : ∃ w1, w1 = w.alloc (.cells #[.int .i64 u.kind, .int .u64 u.set.a, .int .u64 u.set.b, .int .u64 u.set.c, .int .u64 u.set.d, .int .i64 u.min, .int .i64 u.max, tv] 28) := ⟨_, rfl⟩
  have b1 : Below w.heap.size w w1 := by rw [hw1]; exact (Below.refl _ _).alloc (Nat.le_refl _) _
  have bx1 : Box w1 w.heap.size u tv := by rw [hw1]; exact st.box_new w u tv
  have hx1 := hx.later b1
  have hB1 : B ≤ w1.heap.size := Nat.le_trans hB b1.size
  have ht1 := is_mv ht hx hB (Mv.of (g := g) (v := v) b1)
  have HM := (show Hid (Mv g v v w w1) from Mv.of b1)
  have HX1 := (show Hid (Bx w1 B g x v) from hx1)
  have HBx := (show Hid (∀ W v1, Mv g v v1 w1 W → Box W w.heap.size u tv) from fun W v1 m => box_mv bx1 hx1 m)
  have HO := (show Hid (∀ (k : Nat) (z : St), k ≤ 20 → Most z (a + k) (a + k + 1) → ∀ (v1 : Value) (W : World) (f : Nat), Bx W B g z v1 → Mv g v v1 w1 W → Calls Try.prog 74 #[.pointer (some ⟨g, 0, none⟩), trV u tv, .int .i64 (f : Int)] W fun e w' => e = .returned (.int .i64 (z.n : Int)) ∧ ∃ v', Bx w' B g (layT u f z.n z.new) v' ∧ Mv g v1 v' W w') from fun k z hk hz v1 W f h m => hO f z (a + 60) (hz.new.up (by omega) (by omega)) hr B g v1 W tv h (Nat.le_trans hB1 m.size) (is_mv ht1 hx1 hB1 m))
  have HFr := (show Hid (∀ (k : Nat) (z : St) (f : Nat), k ≤ 20 → Most z (a + k) (a + k) → ∀ (v1 : Value) (W : World), Bx W B g z v1 → Mv g v v1 w1 W → Calls Try.prog 49 #[.pointer (some ⟨g, 0, none⟩), .int .i64 (f : Int), .int .i64 (to : Int)] W fun e w' => e = .returned (.tuple #[]) ∧ ∃ v', Bx w' B g (z.free f to) v' ∧ Mv g v1 v' W w') from fun k z f hk hz v1 W h m => free_any z f to (by have := hz.e; omega) B g v1 W h (Nat.le_trans hB1 m.size))
  have HEq := (show Hid (upTo (layT u) least to most 0 f x = (upN (layT u) least to f x most).2.free (upN (layT u) least to f x most).1 to) from upTo_eq _ _ _ _ _ _)
  clear ht ht1 hx hm hr b1 bx1 hx1 hO hg hB hB1
  go_enter Try.func52, Try.ntmps52
  go_wp2_with (fail)
  rw [← hw1]
  clear hw1
  go_loopw [4, 14] (fun p y wr => ∃ (i : Nat) (v1 : Value), p = .int .i64 ((upN (layT u) least to f x i).1 : Int) ∧ y = .int .i64 (i : Int) ∧ i ≤ most ∧ Hid (Bx wr B g (upN (layT u) least to f x i).2 v1) ∧ Hid (Mv g v v1 w1 wr)) (fun _ y _ => most - (intOf y).toNat)
  case atStart => exact ⟨0, v, rfl, rfl, by omega, HX1, Mv.refl _ _ _⟩
  case round =>
    obtain ⟨i, v1, rfl, rfl, him, H1, H2⟩ := hrel
    have hmo := HMo.out i
    by_cases hend : i < most
    · by_cases hli : least ≤ i
      · have HS := (show Hid (upN (layT u) least to f x (i + 1) = ((upN (layT u) least to f x i).2.n, layT u (upN (layT u) least to f x i).1 (upN (layT u) least to f x i).2.n ((upN (layT u) least to f x i).2.free (upN (layT u) least to f x i).1 to).new)) from by show _ = _; rw [upN]; simp only [upStep, if_pos hli]; rfl)
        have c49 := HFr.out i (upN (layT u) least to f x i).2 (upN (layT u) least to f x i).1 (by omega) hmo v1 wr H1.out H2.out
        have c74 := fun v2 W h m => HO.out i ((upN (layT u) least to f x i).2.free (upN (layT u) least to f x i).1 to) (by omega) (hmo.free _ _) v2 W (upN (layT u) least to f x i).1 h m
        generalize upN (layT u) least to f x i = y at *
        clear HFr HO HMo hmo
        go_wp2_with (first | (go_at_call 49; refine c49.mono ?_; rintro e w2 ⟨rfl, v2, hx2, m2⟩; clear c49; have c5 := c74 v2 w2 hx2 (H2.out.trans m2); clear c74; have b2 := HBx.out w2 v2 (H2.out.trans m2)) | (refine wpList_load_row rfl 28 (.tmp 7) rfl w.heap.size rfl 28 _ (0, 0) _ b2 Try.underlying28 rfl info28 ?_) | (go_at_call 74; refine c5.mono ?_; rintro e w3 ⟨rfl, v3, hx3, m3⟩))
        go_roundw
        case rel => exact ⟨i + 1, v3, by (rw [HS.out]; try rfl), by go_num, by omega, by rw [HS.out]; exact hx3, H2.out.trans (m2.trans m3)⟩
        case measure => simp [intOf]; omega
      · have HS := (show Hid (upN (layT u) least to f x (i + 1) = ((upN (layT u) least to f x i).2.n, layT u (upN (layT u) least to f x i).1 (upN (layT u) least to f x i).2.n (upN (layT u) least to f x i).2.new)) from by show _ = _; rw [upN]; simp only [upStep, if_neg hli])
        have c5 := HO.out i (upN (layT u) least to f x i).2 (by omega) (hmo.up (Nat.le_refl _) (by omega)) v1 wr (upN (layT u) least to f x i).1 H1.out H2.out
        have b2 := HBx.out wr v1 H2.out
        generalize upN (layT u) least to f x i = y at *
        clear HFr HO HMo hmo
        go_wp2_with (first | (refine wpList_load_row rfl 28 (.tmp 7) rfl w.heap.size rfl 28 _ (0, 0) _ b2 Try.underlying28 rfl info28 ?_) | (go_at_call 74; refine c5.mono ?_; rintro e w3 ⟨rfl, v3, hx3, m3⟩))
        go_roundw
        case rel => exact ⟨i + 1, v3, by (rw [HS.out]; try rfl), by go_num, by omega, by rw [HS.out]; exact hx3, H2.out.trans m3⟩
        case measure => simp [intOf]; omega
    · have e : i = most := by omega
      subst e
      have c49 := HFr.out i (upN (layT u) least to f x i).2 (upN (layT u) least to f x i).1 (by omega) hmo v1 wr H1.out H2.out
      rw [← HEq.out] at c49
      generalize upN (layT u) least to f x i = y at *
      clear HFr HO HMo hmo HEq
      go_wp2_with (go_at_call 49; refine c49.mono ?_; rintro e w2 ⟨rfl, v2, hx2, m2⟩)
      go_end0
      exact ⟨rfl, v2, hx2, HM.out.trans (H2.out.trans m2)⟩
end Go.Proofs.Ytfilndgbgdnpiaa.nb

namespace Go.Proofs.Ytfilndgbgdnpiaa.nb
open Go.ChangeShapes Go.WideShapes Go.ChangeAt Go.RowKit
open st (Tr Q4 nodesOf goods okNode Is Box nthT)
open nf (Ed)
set_option linter.unusedVariables false
set_option maxRecDepth 100000

theorem times_snoc (L : Lay) : ∀ (k f : Nat) (x : St), times L (k + 1) f x = ((times L k f x).2.n, L (times L k f x).1 (times L k f x).2.n (times L k f x).2.new)
  | 0, f, x => rfl
  | k + 1, f, x => by
    rw [times, times_snoc L k]
    rfl
def AgainIs (u : Tr) : Prop := ∀ (least f to : Nat) (x : St) (a : Nat), least ≤ 20 → Most x a a → 16000 + (30 * u.nodes - 5) ≤ a → Room u (a + 60) → ∀ B g v w tv, Bx w B g x v → B ≤ w.heap.size → Is w (· < B) u tv →
  Calls Try.prog 51 #[.pointer (some ⟨g, 0, none⟩), trV u tv, .int .i64 (least : Int), .int .i64 (f : Int), .int .i64 (to : Int)] w fun e w' => e = .returned (.tuple #[]) ∧ ∃ v', Bx w' B g (again (layT u) least f to x) v' ∧ Mv g v v' w w'
set_option maxHeartbeats 4000000 in
theorem again_any (u : Tr) (hg : u.good = true) (hL : LayIs u) : AgainIs u := by
  intro least f to x a hl20 hm ha hr B g v w tv hx hB ht
  have hr1 := hr.hi
  have hr2 := hr.nd
  have hlim := lay_lim u.depth u (Nat.le_refl _) hg
  have HMo := (show Hid (∀ k, Most (times (layT u) k f x).2 (a + k) a) from fun k => times_most hlim k f x a a hm (by omega) ha)
  obtain ⟨w1, hw1⟩ : ∃ w1, w1 = w.alloc (.cells #[.int .i64 u.kind, .int .u64 u.set.a, .int .u64 u.set.b, .int .u64 u.set.c, .int .u64 u.set.d, .int .i64 u.min, .int .i64 u.max, tv] 28) := ⟨_, rfl⟩
  have b1 : Below w.heap.size w w1 := by rw [hw1]; exact (Below.refl _ _).alloc (Nat.le_refl _) _
  have bx1 : Box w1 w.heap.size u tv := by rw [hw1]; exact st.box_new w u tv
  have hx1 := hx.later b1
  have hB1 : B ≤ w1.heap.size := Nat.le_trans hB b1.size
  have ht1 := is_mv ht hx hB (Mv.of (g := g) (v := v) b1)
  have HM := (show Hid (Mv g v v w w1) from Mv.of b1)
  have HX1 := (show Hid (Bx w1 B g x v) from hx1)
  have HBx := (show Hid (∀ W v1, Mv g v v1 w1 W → Box W w.heap.size u tv) from fun W v1 m => box_mv bx1 hx1 m)
  have HO := (show Hid (∀ (k : Nat) (z : St), k ≤ 20 → Most z (a + k) a → ∀ (v1 : Value) (W : World) (f : Nat), Bx W B g z v1 → Mv g v v1 w1 W → Calls Try.prog 74 #[.pointer (some ⟨g, 0, none⟩), trV u tv, .int .i64 (f : Int)] W fun e w' => e = .returned (.int .i64 (z.n : Int)) ∧ ∃ v', Bx w' B g (layT u f z.n z.new) v' ∧ Mv g v1 v' W w') from fun k z hk hz v1 W f h m => one_any u hL f z (a + 60) (hz.new.up (by omega) (by omega)) hr B g v1 W tv h (Nat.le_trans hB1 m.size) (is_mv ht1 hx1 hB1 m))
  have HFr := (show Hid (∀ (z : St) (f t : Nat), z.es.length ≤ 1000000 → ∀ (v1 : Value) (W : World), Bx W B g z v1 → Mv g v v1 w1 W → Calls Try.prog 49 #[.pointer (some ⟨g, 0, none⟩), .int .i64 (f : Int), .int .i64 (t : Int)] W fun e w' => e = .returned (.tuple #[]) ∧ ∃ v', Bx w' B g (z.free f t) v' ∧ Mv g v v' w1 w') from fun z f t hz v1 W h m => (free_any z f t hz B g v1 W h (Nat.le_trans hB1 m.size)).mono fun e w' ⟨h1, v', h2, h3⟩ => ⟨h1, v', h2, m.trans h3⟩)
  have HSt := (show Hid (∀ (z : St), z.n ≤ 1000000 → ∀ (v1 : Value) (W : World), Bx W B g z v1 → Mv g v v1 w1 W → Calls Try.prog 75 #[.pointer (some ⟨g, 0, none⟩)] W fun e w' => e = .returned (.int .i64 (z.n : Int)) ∧ Bx w' B g z.new v1 ∧ Mv g v v1 w1 w') from fun z hz v1 W h m => (state_any z hz B g v1 W h).mono fun e w' ⟨h1, h2, h3⟩ => ⟨h1, h2, m.trans h3⟩)
  have HLy := (show Hid (∀ (z : St) (f t : Nat), Most z (a + 60) (a + 60) → ∀ (v1 : Value) (W : World), Bx W B g z v1 → Mv g v v1 w1 W → Calls Try.prog 27 #[.pointer (some ⟨g, 0, none⟩), trV u tv, .int .i64 (f : Int), .int .i64 (t : Int)] W fun e w' => e = .returned (.tuple #[]) ∧ (layT u f t z).es.length ≤ 1000000 ∧ ∃ v', Bx w' B g (layT u f t z) v' ∧ Mv g v v' w1 w') from fun z f t hz v1 W h m => (hL f t z (a + 60) hz hr B g v1 W tv h (Nat.le_trans hB1 m.size) (is_mv ht1 hx1 hB1 m)).mono fun e w' ⟨h1, v', h2, h3⟩ => ⟨h1, by
      have := (hlim.add f t z (a + 60) (a + 60) (by omega) (by omega) hz).e
      have h4 := u.depth_eq
      rw [h4] at hr1
      omega, v', h2, m.trans h3⟩)
  clear ht ht1 hx hm hr b1 bx1 hx1 hg hB hB1 hlim
  go_enter Try.func51, Try.ntmps51
  go_wp2_with (fail)
  rw [← hw1]
  clear hw1
  go_loopw [3, 14] (fun p y wr => ∃ (i : Nat) (v1 : Value), p = .int .i64 ((times (layT u) i f x).1 : Int) ∧ y = .int .i64 (i : Int) ∧ i ≤ least - 1 ∧ Hid (Bx wr B g (times (layT u) i f x).2 v1) ∧ Hid (Mv g v v1 w1 wr)) (fun _ y _ => least - (intOf y).toNat)
  case atStart => exact ⟨0, v, rfl, rfl, by omega, HX1, Mv.refl _ _ _⟩
  case round =>
    obtain ⟨i, v1, rfl, rfl, him, H1, H2⟩ := hrel
    have hmo := HMo.out i
    by_cases hend : i + 1 < least
    · have HS := (show Hid (times (layT u) (i + 1) f x = ((times (layT u) i f x).2.n, layT u (times (layT u) i f x).1 (times (layT u) i f x).2.n (times (layT u) i f x).2.new)) from times_snoc _ _ _ _)
      have c5 := HO.out i (times (layT u) i f x).2 (by omega) hmo v1 wr (times (layT u) i f x).1 H1.out H2.out
      have b2 := HBx.out wr v1 H2.out
      have q : (i : Int) < (least : Int) - 1 := by omega
      generalize times (layT u) i f x = y at *
      clear HFr HO HMo hmo HSt HLy
      go_wp2_with (first | (refine wpList_load_row rfl 28 (.tmp 6) rfl w.heap.size rfl 28 _ (0, 0) _ b2 Try.underlying28 rfl info28 ?_) | (go_at_call 74; refine c5.mono ?_; rintro e w3 ⟨rfl, v3, hx3, m3⟩))
      go_roundw
      case rel => exact ⟨i + 1, v3, by (rw [HS.out]; try rfl), by go_num, by omega, by rw [HS.out]; exact hx3, H2.out.trans m3⟩
      case measure => simp [intOf]; omega
    · have e : i = least - 1 := by omega
      have q : (least : Int) - 1 ≤ (i : Int) := by omega
      have hn1 := hmo.n
      have he1 := hmo.e
      have HE := (show Hid (times (layT u) i f x = times (layT u) (least - 1) f x) from by show _ = _; rw [e])
      have c75 := HSt.out (times (layT u) i f x).2 (by omega) v1 wr H1.out H2.out
      by_cases h0 : 0 < least
      · have HG := (show Hid (again (layT u) least f to x = (layT u (times (layT u) i f x).2.n ((times (layT u) i f x).2.n + 1) (((times (layT u) i f x).2.new.free (times (layT u) i f x).1 (times (layT u) i f x).2.n).new.free ((times (layT u) i f x).2.n + 1) (times (layT u) i f x).2.n)).free ((times (layT u) i f x).2.n + 1) to) from by show _ = _; rw [HE.out]; unfold again; dsimp only; rw [if_pos h0]; rfl)
        have h60 : Most (((times (layT u) i f x).2.new.free (times (layT u) i f x).1 (times (layT u) i f x).2.n).new.free ((times (layT u) i f x).2.n + 1) (times (layT u) i f x).2.n) (a + 60) (a + 60) := ((hmo.new.free _ _).new.free _ _).up (by omega) (by omega)
        clear HE HMo HO hmo
        generalize times (layT u) i f x = y at *
        have c49 := HFr.out y.2.new y.1 y.2.n (by simp [St.new]; omega)
        have d75 := HSt.out (y.2.new.free y.1 y.2.n) (by simp [St.new, St.free]; omega)
        have d49 := HFr.out (y.2.new.free y.1 y.2.n).new (y.2.n + 1) y.2.n (by simp [St.new, St.free]; omega)
        have c27 := HLy.out _ y.2.n (y.2.n + 1) h60
        have e49 := HFr.out (layT u y.2.n (y.2.n + 1) ((y.2.new.free y.1 y.2.n).new.free (y.2.n + 1) y.2.n)) (y.2.n + 1) to
        rw [← HG.out] at e49
        have hzn : (y.2.new.free y.1 y.2.n).n = y.2.n + 1 := rfl
        rw [hzn] at d75
        clear HFr HSt HLy HG hzn h60
        go_wp2_with (first | (go_at_call 75; refine c75.mono ?_; rintro e w2 ⟨rfl, hx2, m2⟩; clear c75; have a49 := c49 v1 w2 hx2 m2; clear c49) | (go_at_call 49; refine a49.mono ?_; rintro e w3 ⟨rfl, v3, hx3, m3⟩; clear a49; have a75 := d75 v3 w3 hx3 m3; clear d75) | (go_at_call 75; refine a75.mono ?_; rintro e w4 ⟨rfl, hx4, m4⟩; clear a75; have b49 := d49 v3 w4 hx4 m4; clear d49) | (go_at_call 49; refine b49.mono ?_; rintro e w5 ⟨rfl, v5, hx5, m5⟩; clear b49; have a27 := c27 v5 w5 hx5 m5; clear c27; have b2 := HBx.out w5 v5 m5) | (refine wpList_load_row rfl 28 (.tmp 6) rfl w.heap.size rfl 28 _ (0, 0) _ b2 Try.underlying28 rfl info28 ?_) | (go_at_call 27; refine a27.mono ?_; rintro e w6 ⟨rfl, hlen, v6, hx6, m6⟩; clear a27; have f49 := e49 hlen v6 w6 hx6 m6; clear e49) | (go_at_call 49; refine f49.mono ?_; rintro e w7 ⟨rfl, v7, hx7, m7⟩; clear f49))
        go_end0
        exact ⟨rfl, v7, hx7, HM.out.trans m7⟩
      · have HG := (show Hid (again (layT u) least f to x = (layT u (times (layT u) i f x).2.n (times (layT u) i f x).2.n ((times (layT u) i f x).2.new.free (times (layT u) i f x).1 (times (layT u) i f x).2.n)).free (times (layT u) i f x).2.n to) from by show _ = _; rw [HE.out]; unfold again; dsimp only; rw [if_neg h0])
        have h60 : Most ((times (layT u) i f x).2.new.free (times (layT u) i f x).1 (times (layT u) i f x).2.n) (a + 60) (a + 60) := (hmo.new.free _ _).up (by omega) (by omega)
        clear HE HMo HO hmo
        have h00 : least = 0 := by omega
        subst h00
        generalize times (layT u) i f x = y at *
        have c49 := HFr.out y.2.new y.1 y.2.n (by simp [St.new]; omega)
        have c27 := HLy.out _ y.2.n y.2.n h60
        have e49 := HFr.out (layT u y.2.n y.2.n (y.2.new.free y.1 y.2.n)) y.2.n to
        rw [← HG.out] at e49
        clear HFr HSt HLy HG h60
        go_wp2_with (first | (go_at_call 75; refine c75.mono ?_; rintro e w2 ⟨rfl, hx2, m2⟩; clear c75; have a49 := c49 v1 w2 hx2 m2; clear c49) | (go_at_call 49; refine a49.mono ?_; rintro e w3 ⟨rfl, v3, hx3, m3⟩; clear a49; have a27 := c27 v3 w3 hx3 m3; clear c27; have b2 := HBx.out w3 v3 m3) | (refine wpList_load_row rfl 28 (.tmp 6) rfl w.heap.size rfl 28 _ (0, 0) _ b2 Try.underlying28 rfl info28 ?_) | (go_at_call 27; refine a27.mono ?_; rintro e w6 ⟨rfl, hlen, v6, hx6, m6⟩; clear a27; have f49 := e49 hlen v6 w6 hx6 m6; clear e49) | (go_at_call 49; refine f49.mono ?_; rintro e w7 ⟨rfl, v7, hx7, m7⟩; clear f49))
        go_end0
        exact ⟨rfl, v7, hx7, HM.out.trans m7⟩
end Go.Proofs.Ytfilndgbgdnpiaa.nb
