/-
  Texts put together: Contracts over this program: the nfa's builder: upTo. Contracts over this program: the nfa's builder: again.
-/
import Derived.Test.YthmecbonjkcnmaaGreatM27
namespace Go.Proofs.YthmecbonjkcnmaaGreat.nb
open Go.ChangeShapes Go.WideShapes Go.ChangeAt Go.RowKit
open st (Tr Q4 nodesOf goods okNode Is Box nthT)
open nf (Ed)
set_option linter.unusedVariables false
set_option maxRecDepth 100000

/-- a time more, ahead of which one may leave -/
def upStep (L : Lay) (least to i : Nat) (y : Nat × St) : Nat × St :=
  let z := if least ≤ i then y.2.free y.1 to else y.2
  (z.n, L y.1 z.n z.new)
/-- behind so many times -/
def upN (L : Lay) (least to f : Nat) (x : St) : Nat → Nat × St
  | 0 => (f, x)
  | k + 1 => upStep L least to k (upN L least to f x k)
theorem upTo_from (L : Lay) (least to : Nat) (f : Nat) (x : St) : ∀ (k i : Nat), upTo L least to k i (upN L least to f x i).1 (upN L least to f x i).2 = (upN L least to f x (i + k)).2.free (upN L least to f x (i + k)).1 to
  | 0, i => rfl
  | k + 1, i => by
    have := upTo_from L least to f x k (i + 1)
    rw [upTo]
    rw [show i + (k + 1) = i + 1 + k by omega]
    exact this
theorem upTo_eq (L : Lay) (least to most f : Nat) (x : St) : upTo L least to most 0 f x = (upN L least to f x most).2.free (upN L least to f x most).1 to := by
  have := upTo_from L least to f x most 0
  rw [Nat.zero_add] at this
  exact this
theorem upN_most {L : Lay} {G : Nat} (h : Lim L G) (least to f : Nat) (x : St) (a b : Nat) (hx : Most x a b) (ha : 2000 + G ≤ a) (hb : 16000 + G ≤ b) : ∀ k, Most (upN L least to f x k).2 (a + k) (b + k)
  | 0 => hx
  | k + 1 => by
    have ih := upN_most h least to f x a b hx ha hb k
    have hy : Most (if least ≤ k then (upN L least to f x k).2.free (upN L least to f x k).1 to else (upN L least to f x k).2) (a + k) (b + k + 1) := by
      split
      · exact ih.free _ to
      · exact ih.up (Nat.le_refl _) (by omega)
    exact (h.step _ _ _ (a + k + 1) (b + k + 1) hy.new (by omega) (by omega)).up (by omega) (by omega)
def UpToIs (u : Tr) : Prop := ∀ (least most f to : Nat) (x : St) (a : Nat), least ≤ 20 → most ≤ 20 → Most x a a → 16000 + (30 * u.nodes - 5) ≤ a → Room u (a + 60) → ∀ B g v w tv, Bx w B g x v → B ≤ w.heap.size → Is w (· < B) u tv →
  Calls Tryz.prog 94 #[.pointer (some ⟨g, 0, none⟩), trV u tv, .int .i64 (least : Int), .int .i64 (most : Int), .int .i64 (f : Int), .int .i64 (to : Int)] w fun e w' => e = .returned (.tuple #[]) ∧ ∃ v', Bx w' B g (upTo (layT u) least to most 0 f x) v' ∧ Mv g v v' w w'
set_option maxHeartbeats 2000000 in
theorem upTo_any (u : Tr) (hg : u.good = true) (hO : OneIs u) : UpToIs u := by
  intro least most f to x a hl20 hm20 hm ha hr B g v w tv hx hB ht
  have hr1 := hr.hi
  have HMo := (show Hid (∀ k, Most (upN (layT u) least to f x k).2 (a + k) (a + k)) from upN_most (lay_lim u.depth u (Nat.le_refl _) hg) least to f x a a hm (by omega) ha)
  obtain ⟨w1, hw1⟩ : ∃ w1, w1 = w.alloc (.cells #[.int .i64 u.kind, .int .u64 u.set.a, .int .u64 u.set.b, .int .u64 u.set.c, .int .u64 u.set.d, .int .i64 u.min, .int .i64 u.max, tv] 29) := ⟨_, rfl⟩
  have b1 : Below w.heap.size w w1 := by rw [hw1]; exact (Below.refl _ _).alloc (Nat.le_refl _) _
  have bx1 : Box w1 w.heap.size u tv := by rw [hw1]; exact st.box_new w u tv
  have hx1 := hx.later b1
  have hB1 : B ≤ w1.heap.size := Nat.le_trans hB b1.size
  have ht1 := is_mv ht hx hB (Mv.of (g := g) (v := v) b1)
  have HM := (show Hid (Mv g v v w w1) from Mv.of b1)
  have HX1 := (show Hid (Bx w1 B g x v) from hx1)
  have HBx := (show Hid (∀ W v1, Mv g v v1 w1 W → Box W w.heap.size u tv) from fun W v1 m => box_mv bx1 hx1 m)
  have HO := (show Hid (∀ (k : Nat) (z : St), k ≤ 20 → Most z (a + k) (a + k + 1) → ∀ (v1 : Value) (W : World) (f : Nat), Bx W B g z v1 → Mv g v v1 w1 W → Calls Tryz.prog 110 #[.pointer (some ⟨g, 0, none⟩), trV u tv, .int .i64 (f : Int)] W fun e w' => e = .returned (.int .i64 (z.n : Int)) ∧ ∃ v', Bx w' B g (layT u f z.n z.new) v' ∧ Mv g v1 v' W w') from fun k z hk hz v1 W f h m => hO f z (a + 60) (hz.new.up (by omega) (by omega)) hr B g v1 W tv h (Nat.le_trans hB1 m.size) (is_mv ht1 hx1 hB1 m))
  have HFr := (show Hid (∀ (k : Nat) (z : St) (f : Nat), k ≤ 20 → Most z (a + k) (a + k) → ∀ (v1 : Value) (W : World), Bx W B g z v1 → Mv g v v1 w1 W → Calls Tryz.prog 91 #[.pointer (some ⟨g, 0, none⟩), .int .i64 (f : Int), .int .i64 (to : Int)] W fun e w' => e = .returned (.tuple #[]) ∧ ∃ v', Bx w' B g (z.free f to) v' ∧ Mv g v1 v' W w') from fun k z f hk hz v1 W h m => free_any z f to (by have := hz.e; omega) B g v1 W h (Nat.le_trans hB1 m.size))
  have HEq := (show Hid (upTo (layT u) least to most 0 f x = (upN (layT u) least to f x most).2.free (upN (layT u) least to f x most).1 to) from upTo_eq _ _ _ _ _ _)
  clear ht ht1 hx hm hr b1 bx1 hx1 hO hg hB hB1
  go_enter Tryz.func94, Tryz.ntmps94
  go_wp2_with (fail)
  rw [← hw1]
  clear hw1
  go_loopw [4, 14] (fun p y wr => ∃ (i : Nat) (v1 : Value), p = .int .i64 ((upN (layT u) least to f x i).1 : Int) ∧ y = .int .i64 (i : Int) ∧ i ≤ most ∧ Hid (Bx wr B g (upN (layT u) least to f x i).2 v1) ∧ Hid (Mv g v v1 w1 wr)) (fun _ y _ => most - (intOf y).toNat)
  case atStart => exact ⟨0, v, rfl, rfl, by omega, HX1, Mv.refl _ _ _⟩
  case round =>
    obtain ⟨i, v1, rfl, rfl, him, H1, H2⟩ := hrel
    have hmo := HMo.out i
    by_cases hend : i < most
    · by_cases hli : least ≤ i
      · have HS := (show Hid (upN (layT u) least to f x (i + 1) = ((upN (layT u) least to f x i).2.n, layT u (upN (layT u) least to f x i).1 (upN (layT u) least to f x i).2.n ((upN (layT u) least to f x i).2.free (upN (layT u) least to f x i).1 to).new)) from by show _ = _; rw [upN]; simp only [upStep, if_pos hli]; rfl)
        have c49 := HFr.out i (upN (layT u) least to f x i).2 (upN (layT u) least to f x i).1 (by omega) hmo v1 wr H1.out H2.out
        have c74 := fun v2 W h m => HO.out i ((upN (layT u) least to f x i).2.free (upN (layT u) least to f x i).1 to) (by omega) (hmo.free _ _) v2 W (upN (layT u) least to f x i).1 h m
        generalize upN (layT u) least to f x i = y at *
        clear HFr HO HMo hmo
        go_wp2_with (first | (go_at_call 91; refine c49.mono ?_; rintro e w2 ⟨rfl, v2, hx2, m2⟩; clear c49; have c5 := c74 v2 w2 hx2 (H2.out.trans m2); clear c74; have b2 := HBx.out w2 v2 (H2.out.trans m2)) | (refine wpList_load_row rfl 29 (.tmp 7) rfl w.heap.size rfl 29 _ (0, 0) _ b2 Tryz.underlying29 rfl info29 ?_) | (go_at_call 110; refine c5.mono ?_; rintro e w3 ⟨rfl, v3, hx3, m3⟩))
        go_roundw
        case rel => exact ⟨i + 1, v3, by (rw [HS.out]; try rfl), by go_num, by omega, by rw [HS.out]; exact hx3, H2.out.trans (m2.trans m3)⟩
        case measure => simp [intOf]; omega
      · have HS := (show Hid (upN (layT u) least to f x (i + 1) = ((upN (layT u) least to f x i).2.n, layT u (upN (layT u) least to f x i).1 (upN (layT u) least to f x i).2.n (upN (layT u) least to f x i).2.new)) from by show _ = _; rw [upN]; simp only [upStep, if_neg hli])
        have c5 := HO.out i (upN (layT u) least to f x i).2 (by omega) (hmo.up (Nat.le_refl _) (by omega)) v1 wr (upN (layT u) least to f x i).1 H1.out H2.out
        have b2 := HBx.out wr v1 H2.out
        generalize upN (layT u) least to f x i = y at *
        clear HFr HO HMo hmo
        go_wp2_with (first | (refine wpList_load_row rfl 29 (.tmp 7) rfl w.heap.size rfl 29 _ (0, 0) _ b2 Tryz.underlying29 rfl info29 ?_) | (go_at_call 110; refine c5.mono ?_; rintro e w3 ⟨rfl, v3, hx3, m3⟩))
        go_roundw
        case rel => exact ⟨i + 1, v3, by (rw [HS.out]; try rfl), by go_num, by omega, by rw [HS.out]; exact hx3, H2.out.trans m3⟩
        case measure => simp [intOf]; omega
    · have e : i = most := by omega
      subst e
      have c49 := HFr.out i (upN (layT u) least to f x i).2 (upN (layT u) least to f x i).1 (by omega) hmo v1 wr H1.out H2.out
      rw [← HEq.out] at c49
      generalize upN (layT u) least to f x i = y at *
      clear HFr HO HMo hmo HEq
      go_wp2_with (go_at_call 91; refine c49.mono ?_; rintro e w2 ⟨rfl, v2, hx2, m2⟩)
      go_end0
      exact ⟨rfl, v2, hx2, HM.out.trans (H2.out.trans m2)⟩
end Go.Proofs.YthmecbonjkcnmaaGreat.nb

namespace Go.Proofs.YthmecbonjkcnmaaGreat.nb
open Go.ChangeShapes Go.WideShapes Go.ChangeAt Go.RowKit
open st (Tr Q4 nodesOf goods okNode Is Box nthT)
open nf (Ed)
set_option linter.unusedVariables false
set_option maxRecDepth 100000

theorem times_snoc (L : Lay) : ∀ (k f : Nat) (x : St), times L (k + 1) f x = ((times L k f x).2.n, L (times L k f x).1 (times L k f x).2.n (times L k f x).2.new)
  | 0, f, x => rfl
  | k + 1, f, x => by
    rw [times, times_snoc L k]
    rfl
def AgainIs (u : Tr) : Prop := ∀ (least f to : Nat) (x : St) (a : Nat), least ≤ 20 → Most x a a → 16000 + (30 * u.nodes - 5) ≤ a → Room u (a + 60) → ∀ B g v w tv, Bx w B g x v → B ≤ w.heap.size → Is w (· < B) u tv →
  Calls Tryz.prog 93 #[.pointer (some ⟨g, 0, none⟩), trV u tv, .int .i64 (least : Int), .int .i64 (f : Int), .int .i64 (to : Int)] w fun e w' => e = .returned (.tuple #[]) ∧ ∃ v', Bx w' B g (again (layT u) least f to x) v' ∧ Mv g v v' w w'
set_option maxHeartbeats 4000000 in
theorem again_any (u : Tr) (hg : u.good = true) (hL : LayIs u) : AgainIs u := by
  intro least f to x a hl20 hm ha hr B g v w tv hx hB ht
  have hr1 := hr.hi
  have hr2 := hr.nd
  have hlim := lay_lim u.depth u (Nat.le_refl _) hg
  have HMo := (show Hid (∀ k, Most (times (layT u) k f x).2 (a + k) a) from fun k => times_most hlim k f x a a hm (by omega) ha)
  obtain ⟨w1, hw1⟩ : ∃ w1, w1 = w.alloc (.cells #[.int .i64 u.kind, .int .u64 u.set.a, .int .u64 u.set.b, .int .u64 u.set.c, .int .u64 u.set.d, .int .i64 u.min, .int .i64 u.max, tv] 29) := ⟨_, rfl⟩
  have b1 : Below w.heap.size w w1 := by rw [hw1]; exact (Below.refl _ _).alloc (Nat.le_refl _) _
  have bx1 : Box w1 w.heap.size u tv := by rw [hw1]; exact st.box_new w u tv
  have hx1 := hx.later b1
  have hB1 : B ≤ w1.heap.size := Nat.le_trans hB b1.size
  have ht1 := is_mv ht hx hB (Mv.of (g := g) (v := v) b1)
  have HM := (show Hid (Mv g v v w w1) from Mv.of b1)
  have HX1 := (show Hid (Bx w1 B g x v) from hx1)
  have HBx := (show Hid (∀ W v1, Mv g v v1 w1 W → Box W w.heap.size u tv) from fun W v1 m => box_mv bx1 hx1 m)
  have HO := (show Hid (∀ (k : Nat) (z : St), k ≤ 20 → Most z (a + k) a → ∀ (v1 : Value) (W : World) (f : Nat), Bx W B g z v1 → Mv g v v1 w1 W → Calls Tryz.prog 110 #[.pointer (some ⟨g, 0, none⟩), trV u tv, .int .i64 (f : Int)] W fun e w' => e = .returned (.int .i64 (z.n : Int)) ∧ ∃ v', Bx w' B g (layT u f z.n z.new) v' ∧ Mv g v1 v' W w') from fun k z hk hz v1 W f h m => one_any u hL f z (a + 60) (hz.new.up (by omega) (by omega)) hr B g v1 W tv h (Nat.le_trans hB1 m.size) (is_mv ht1 hx1 hB1 m))
  have HFr := (show Hid (∀ (z : St) (f t : Nat), z.es.length ≤ 1000000 → ∀ (v1 : Value) (W : World), Bx W B g z v1 → Mv g v v1 w1 W → Calls Tryz.prog 91 #[.pointer (some ⟨g, 0, none⟩), .int .i64 (f : Int), .int .i64 (t : Int)] W fun e w' => e = .returned (.tuple #[]) ∧ ∃ v', Bx w' B g (z.free f t) v' ∧ Mv g v v' w1 w') from fun z f t hz v1 W h m => (free_any z f t hz B g v1 W h (Nat.le_trans hB1 m.size)).mono fun e w' ⟨h1, v', h2, h3⟩ => ⟨h1, v', h2, m.trans h3⟩)
  have HSt := (show Hid (∀ (z : St), z.n ≤ 1000000 → ∀ (v1 : Value) (W : World), Bx W B g z v1 → Mv g v v1 w1 W → Calls Tryz.prog 111 #[.pointer (some ⟨g, 0, none⟩)] W fun e w' => e = .returned (.int .i64 (z.n : Int)) ∧ Bx w' B g z.new v1 ∧ Mv g v v1 w1 w') from fun z hz v1 W h m => (state_any z hz B g v1 W h).mono fun e w' ⟨h1, h2, h3⟩ => ⟨h1, h2, m.trans h3⟩)
  have HLy := (show Hid (∀ (z : St) (f t : Nat), Most z (a + 60) (a + 60) → ∀ (v1 : Value) (W : World), Bx W B g z v1 → Mv g v v1 w1 W → Calls Tryz.prog 66 #[.pointer (some ⟨g, 0, none⟩), trV u tv, .int .i64 (f : Int), .int .i64 (t : Int)] W fun e w' => e = .returned (.tuple #[]) ∧ (layT u f t z).es.length ≤ 1000000 ∧ ∃ v', Bx w' B g (layT u f t z) v' ∧ Mv g v v' w1 w') from fun z f t hz v1 W h m => (hL f t z (a + 60) hz hr B g v1 W tv h (Nat.le_trans hB1 m.size) (is_mv ht1 hx1 hB1 m)).mono fun e w' ⟨h1, v', h2, h3⟩ => ⟨h1, by
      have := (hlim.add f t z (a + 60) (a + 60) (by omega) (by omega) hz).e
      have h4 := u.depth_eq
      rw [h4] at hr1
      omega, v', h2, m.trans h3⟩)
  clear ht ht1 hx hm hr b1 bx1 hx1 hg hB hB1 hlim
  go_enter Tryz.func93, Tryz.ntmps93
  go_wp2_with (fail)
  rw [← hw1]
  clear hw1
  go_loopw [3, 14] (fun p y wr => ∃ (i : Nat) (v1 : Value), p = .int .i64 ((times (layT u) i f x).1 : Int) ∧ y = .int .i64 (i : Int) ∧ i ≤ least - 1 ∧ Hid (Bx wr B g (times (layT u) i f x).2 v1) ∧ Hid (Mv g v v1 w1 wr)) (fun _ y _ => least - (intOf y).toNat)
  case atStart => exact ⟨0, v, rfl, rfl, by omega, HX1, Mv.refl _ _ _⟩
  case round =>
    obtain ⟨i, v1, rfl, rfl, him, H1, H2⟩ := hrel
    have hmo := HMo.out i
    by_cases hend : i + 1 < least
    · have HS := (show Hid (times (layT u) (i + 1) f x = ((times (layT u) i f x).2.n, layT u (times (layT u) i f x).1 (times (layT u) i f x).2.n (times (layT u) i f x).2.new)) from times_snoc _ _ _ _)
      have c5 := HO.out i (times (layT u) i f x).2 (by omega) hmo v1 wr (times (layT u) i f x).1 H1.out H2.out
      have b2 := HBx.out wr v1 H2.out
      have q : (i : Int) < (least : Int) - 1 := by omega
      generalize times (layT u) i f x = y at *
      clear HFr HO HMo hmo HSt HLy
      go_wp2_with (first | (refine wpList_load_row rfl 29 (.tmp 6) rfl w.heap.size rfl 29 _ (0, 0) _ b2 Tryz.underlying29 rfl info29 ?_) | (go_at_call 110; refine c5.mono ?_; rintro e w3 ⟨rfl, v3, hx3, m3⟩))
      go_roundw
      case rel => exact ⟨i + 1, v3, by (rw [HS.out]; try rfl), by go_num, by omega, by rw [HS.out]; exact hx3, H2.out.trans m3⟩
      case measure => simp [intOf]; omega
    · have e : i = least - 1 := by omega
      have q : (least : Int) - 1 ≤ (i : Int) := by omega
      have hn1 := hmo.n
      have he1 := hmo.e
      have HE := (show Hid (times (layT u) i f x = times (layT u) (least - 1) f x) from by show _ = _; rw [e])
      have c75 := HSt.out (times (layT u) i f x).2 (by omega) v1 wr H1.out H2.out
      by_cases h0 : 0 < least
      · have HG := (show Hid (again (layT u) least f to x = (layT u (times (layT u) i f x).2.n ((times (layT u) i f x).2.n + 1) (((times (layT u) i f x).2.new.free (times (layT u) i f x).1 (times (layT u) i f x).2.n).new.free ((times (layT u) i f x).2.n + 1) (times (layT u) i f x).2.n)).free ((times (layT u) i f x).2.n + 1) to) from by show _ = _; rw [HE.out]; unfold again; dsimp only; rw [if_pos h0]; rfl)
        have h60 : Most (((times (layT u) i f x).2.new.free (times (layT u) i f x).1 (times (layT u) i f x).2.n).new.free ((times (layT u) i f x).2.n + 1) (times (layT u) i f x).2.n) (a + 60) (a + 60) := ((hmo.new.free _ _).new.free _ _).up (by omega) (by omega)
        clear HE HMo HO hmo
        generalize times (layT u) i f x = y at *
        have c49 := HFr.out y.2.new y.1 y.2.n (by simp [St.new]; omega)
        have d75 := HSt.out (y.2.new.free y.1 y.2.n) (by simp [St.new, St.free]; omega)
        have d49 := HFr.out (y.2.new.free y.1 y.2.n).new (y.2.n + 1) y.2.n (by simp [St.new, St.free]; omega)
        have c27 := HLy.out _ y.2.n (y.2.n + 1) h60
        have e49 := HFr.out (layT u y.2.n (y.2.n + 1) ((y.2.new.free y.1 y.2.n).new.free (y.2.n + 1) y.2.n)) (y.2.n + 1) to
        rw [← HG.out] at e49
        have hzn : (y.2.new.free y.1 y.2.n).n = y.2.n + 1 := rfl
        rw [hzn] at d75
        clear HFr HSt HLy HG hzn h60
        go_wp2_with (first | (go_at_call 111; refine c75.mono ?_; rintro e w2 ⟨rfl, hx2, m2⟩; clear c75; have a49 := c49 v1 w2 hx2 m2; clear c49) | (go_at_call 91; refine a49.mono ?_; rintro e w3 ⟨rfl, v3, hx3, m3⟩; clear a49; have a75 := d75 v3 w3 hx3 m3; clear d75) | (go_at_call 111; refine a75.mono ?_; rintro e w4 ⟨rfl, hx4, m4⟩; clear a75; have b49 := d49 v3 w4 hx4 m4; clear d49) | (go_at_call 91; refine b49.mono ?_; rintro e w5 ⟨rfl, v5, hx5, m5⟩; clear b49; have a27 := c27 v5 w5 hx5 m5; clear c27; have b2 := HBx.out w5 v5 m5) | (refine wpList_load_row rfl 29 (.tmp 6) rfl w.heap.size rfl 29 _ (0, 0) _ b2 Tryz.underlying29 rfl info29 ?_) | (go_at_call 66; refine a27.mono ?_; rintro e w6 ⟨rfl, hlen, v6, hx6, m6⟩; clear a27; have f49 := e49 hlen v6 w6 hx6 m6; clear e49) | (go_at_call 91; refine f49.mono ?_; rintro e w7 ⟨rfl, v7, hx7, m7⟩; clear f49))
        go_end0
        exact ⟨rfl, v7, hx7, HM.out.trans m7⟩
      · have HG := (show Hid (again (layT u) least f to x = (layT u (times (layT u) i f x).2.n (times (layT u) i f x).2.n ((times (layT u) i f x).2.new.free (times (layT u) i f x).1 (times (layT u) i f x).2.n)).free (times (layT u) i f x).2.n to) from by show _ = _; rw [HE.out]; unfold again; dsimp only; rw [if_neg h0])
        have h60 : Most ((times (layT u) i f x).2.new.free (times (layT u) i f x).1 (times (layT u) i f x).2.n) (a + 60) (a + 60) := (hmo.new.free _ _).up (by omega) (by omega)
        clear HE HMo HO hmo
        have h00 : least = 0 := by omega
        subst h00
        generalize times (layT u) i f x = y at *
        have c49 := HFr.out y.2.new y.1 y.2.n (by simp [St.new]; omega)
        have c27 := HLy.out _ y.2.n y.2.n h60
        have e49 := HFr.out (layT u y.2.n y.2.n (y.2.new.free y.1 y.2.n)) y.2.n to
        rw [← HG.out] at e49
        clear HFr HSt HLy HG h60
        go_wp2_with (first | (go_at_call 111; refine c75.mono ?_; rintro e w2 ⟨rfl, hx2, m2⟩; clear c75; have a49 := c49 v1 w2 hx2 m2; clear c49) | (go_at_call 91; refine a49.mono ?_; rintro e w3 ⟨rfl, v3, hx3, m3⟩; clear a49; have a27 := c27 v3 w3 hx3 m3; clear c27; have b2 := HBx.out w3 v3 m3) | (refine wpList_load_row rfl 29 (.tmp 6) rfl w.heap.size rfl 29 _ (0, 0) _ b2 Tryz.underlying29 rfl info29 ?_) | (go_at_call 66; refine a27.mono ?_; rintro e w6 ⟨rfl, hlen, v6, hx6, m6⟩; clear a27; have f49 := e49 hlen v6 w6 hx6 m6; clear e49) | (go_at_call 91; refine f49.mono ?_; rintro e w7 ⟨rfl, v7, hx7, m7⟩; clear f49))
        go_end0
        exact ⟨rfl, v7, hx7, HM.out.trans m7⟩
end Go.Proofs.YthmecbonjkcnmaaGreat.nb
