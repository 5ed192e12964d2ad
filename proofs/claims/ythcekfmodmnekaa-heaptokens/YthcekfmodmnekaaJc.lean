/-
  Contracts over this program: a pair more in a pile (pile.put).
-/
import Derived.Test.YthcekfmodmnekaaJb
namespace Go.Proofs.Ythcekfmodmnekaa.pp
open Go.ChangeShapes Go.WideShapes Go.ChangeAt Go.RowKit
open Go.Sort
open hp (Lt Heap Up Dn kidOf kid_none kid_one kid_two kid_lt nv own_keep Mv below_drewN set_self)
set_option linter.unusedVariables false
set_option maxRecDepth 100000

set_option maxHeartbeats 4000000 in
theorem put_any (x1 x2 : Int) {l : List Pr} (hl : l.length ≤ 999998) {w : World} {B b off : Nat} {v : Value} (h0 : Pil w B b off v l) (hB : B ≤ b) (hh : Heap plt l) :
    Calls Try.prog 49 #[.pointer (some ⟨b, off, none⟩), pv (x1, x2)] w (PutOut B b off v l (x1, x2) w) := by
  have ba0 := (Below.refl w.heap.size w).alloc (Nat.le_refl _) (.cells #[.int .i64 x1, .int .i64 x2] 87)
  have h := h0.later ba0
  have V0 := (show Hid (Mv w (w.alloc (.cells #[.int .i64 x1, .int .i64 x2] 87)) b off v.ownBlock) from (Mv.refl h0.cell).below ba0 h0.lt)
  have hx : (w.alloc (.cells #[.int .i64 x1, .int .i64 x2] 87)).heap[w.heap.size]? = some (.cells #[.int .i64 x1, .int .i64 x2] 87 (0, 0)) := World.alloc_heap_new w _
  have hBs : B ≤ w.heap.size := Nat.le_trans hB (Nat.le_of_lt h0.lt)
  have ba := (Below.refl (w.alloc (.cells #[.int .i64 x1, .int .i64 x2] 87)).heap.size (w.alloc (.cells #[.int .i64 x1, .int .i64 x2] 87))).alloc (Nat.le_refl _) (.cells #[.int .i64 x1, .int .i64 x2] 87)
  have hc := h.cell
  have hc1 : ((w.alloc (.cells #[.int .i64 x1, .int .i64 x2] 87)).alloc (.cells #[.int .i64 x1, .int .i64 x2] 87)).cell? ⟨b, off, none⟩ = some v := (World.cell?_of_block (a := ⟨b, off, none⟩) (ba.block b h.lt)).trans h.cell
  have ho : ((w.alloc (.cells #[.int .i64 x1, .int .i64 x2] 87)).alloc (.cells #[.int .i64 x1, .int .i64 x2] 87)).drew.ownsRow B 87 2 v l.length (cs2 l) := (h.own.alloc _).drew
  have HM := (show Hid (∀ (g cap : Nat) (w2 : World), w2.ownsRow B 87 2 (.slice (some ⟨g, 0, none⟩) (l.length + 1) cap) (l.length + 1) (cs2 l ++ [.int .i64 x1, .int .i64 x2]) → ((w.alloc (.cells #[.int .i64 x1, .int .i64 x2] 87)).alloc (.cells #[.int .i64 x1, .int .i64 x2] 87)).grownBy w2 v.ownBlock → (some g = v.ownBlock ∨ ((w.alloc (.cells #[.int .i64 x1, .int .i64 x2] 87)).alloc (.cells #[.int .i64 x1, .int .i64 x2] 87)).heap.size ≤ g) → _) from fun g cap w2 => h.more (w2 := w2) (g := g) (cap := cap) (x := (x1, x2)))
  have HO := (show Hid _ from ho)
  have HX := (show Hid _ from hx)
  have hbl := h.lt
  have hbl0 := h0.lt
  have hN := (show Hid (∀ j x, [Value.int .i64 x1, .int .i64 x2][j]? = some x → ((w.alloc (.cells #[.int .i64 x1, .int .i64 x2] 87)).alloc (.cells #[.int .i64 x1, .int .i64 x2] 87)).drew.cell? ((⟨w.heap.size + 1, 0, none⟩ : Addr).add j) = some x) from fun j x hx => by
    have := new2 (w.alloc (.cells #[.int .i64 x1, .int .i64 x2] 87)) (.int .i64 x1) (.int .i64 x2) 87 j x hx
    rw [show (w.alloc (.cells #[.int .i64 x1, .int .i64 x2] 87)).heap.size = w.heap.size + 1 by simp] at this
    exact this)
  have hvs : ∀ g, some g = v.ownBlock → g = w.heap.size → False := fun g e e' => by have := (h0.own.lt g e.symm).2; omega
  have HX1 := (show Hid (((w.alloc (.cells #[.int .i64 x1, .int .i64 x2] 87)).alloc (.cells #[.int .i64 x1, .int .i64 x2] 87)).heap[w.heap.size]? = some (.cells #[.int .i64 x1, .int .i64 x2] 87 (0, 0))) from (ba.block _ (by simp)).trans hx)
  clear ho h hx h0 ba ba0
  go_enter Try.func49, Try.ntmps49
  go_wp2_with (fail)
  go_region_law (refine ow.step_append (by rfl) (.tmp 9) (.tmp 11) 78 (by rfl) 87 (.agg #[.int .i64 0, .int .i64 0]) 2 16 Try.underlying78 info87 rfl (by omega) (by omega) B v l.length (cs2 l) (w.heap.size + 1) [.int .i64 x1, .int .i64 x2] (by rfl) (by rfl) HO.out rfl hN.out (one2 _ _ rfl rfl) (by omega) (by show B ≤ _; simp; omega) ?_; intro g' cap' w2 h1 h2 h3; obtain ⟨p1, p2, p3, p4⟩ := HM.out g' cap' w2 h1 ⟨h2.os, h2.tape, h2.output, h2.size, h2.block⟩ h3; have HXX := (show Hid (w2.heap[w.heap.size]? = some (.cells #[.int .i64 x1, .int .i64 x2] 87 (0, 0))) from (h2.block w.heap.size (by show _ < _; simp; omega) (fun e => hvs w.heap.size e rfl)).trans HX1.out))
  all_goals (
    have HW := (show Hid (v.ownBlock = some g' ∨ (w.heap.size ≤ g' ∧ g' ≠ w.heap.size)) from by
      show _ ∨ _
      rcases h3 with e | e
      · exact .inl e.symm
      · right
        have e : w.heap.size + 1 + 1 ≤ g' := by simpa using e
        omega)
    have HGX := (show Hid (g' ≠ w.heap.size) from by
      show _ ≠ _
      rcases HW.out with e | e
      · intro e'; subst e'; exact hvs _ e.symm rfl
      · exact e.2)
    have P2 := (show Hid (Mv w (w2.setCell ⟨b, off, none⟩ (.slice (some ⟨g', 0, none⟩) (l.length + 1) cap')) b off v.ownBlock) from V0.out.trans p2 (.inl rfl))
    have HX3 : Hid ((w2.setCell ⟨b, off, none⟩ (.slice (some ⟨g', 0, none⟩) (l.length + 1) cap')).heap[w.heap.size]? = some (.cells #[.int .i64 x1, .int .i64 x2] 87 (0, 0))) := (Below.heap_setCell _ _ _ _ (by show _ ≠ b; omega)).trans HXX.out
    clear HM HO HX HX1 HXX hN h1 h2 h3 p2 p3 p4 hc hc1 V0 hvs
    generalize w2.setCell ⟨b, off, none⟩ (.slice (some ⟨g', 0, none⟩) (l.length + 1) cap') = w3 at *
    obtain ⟨n, HN⟩ : ∃ n, Hid (n = l.length) := ⟨_, rfl⟩
    have HP : Hid (Pil w3 B b off (.slice (some ⟨g', 0, none⟩) (n + 1) cap') (l ++ [(x1, x2)])) := by show Pil _ _ _ _ _ _; rw [HN.out]; exact p1
    have HU : Hid (Up plt (l ++ [(x1, x2)]) n (x1, x2)) := by show Up _ _ _ _; rw [HN.out]; exact Up.start hh _
    have hn : n ≤ 999998 := by rw [HN.out]; exact hl
    have hc := p1.cell
    rw [← HN.out] at hc ⊢
    obtain ⟨xb, HXB⟩ : ∃ xb, Hid (xb = w.heap.size) := ⟨_, rfl⟩
    rw [← HXB.out]
    have hxb : b < xb := by rw [HXB.out]; exact hbl0
    have HX3 : Hid (w3.heap[xb]? = some (.cells #[.int .i64 x1, .int .i64 x2] 87 (0, 0))) := by rw [HXB.out]; exact HX3
    have HGX : Hid (g' ≠ xb) := by rw [HXB.out]; exact HGX
    clear p1 hh hl
    go_wp2_with (fail)
    clear hc
    go_loopw [4] (fun y wr => ∃ (k : Nat) (m : List Pr), y = .int .i64 k ∧ k ≤ n ∧ Hid (m.length = n + 1) ∧ Hid (Pil wr B b off (.slice (some ⟨g', 0, none⟩) (n + 1) cap') m) ∧ Hid (Mv w wr b off v.ownBlock) ∧ Hid (Up plt m k (x1, x2)) ∧ Hid ((m.set k (x1, x2)).Perm (l ++ [(x1, x2)])) ∧ Hid (wr.heap[xb]? = some (.cells #[.int .i64 x1, .int .i64 x2] 87 (0, 0)))) (fun y _ => (intOf y).toNat)
    case atStart => exact ⟨n, l ++ [(x1, x2)], by go_num, Nat.le_refl _, by show _ = _; rw [HN.out]; simp, HP, P2, HU, by show List.Perm _ _; rw [HN.out]; simp, HX3⟩
    case round =>
      clear HP P2 HU HX3
      obtain ⟨k, m, rfl, hk, HL, HP, HV, HU, HR, HX⟩ := hrel
      have hfin : ∀ W, Below wr.heap.size wr W → ∀ e W', e = .returned (.tuple #[]) → W'.heap = ((W.setCell ⟨g', k * 2, none⟩ (.int .i64 x1)).setCell ⟨g', k * 2 + 1, none⟩ (.int .i64 x2)).heap → W'.os = W.os → W'.tape = W.tape → W'.output = W.output → (k = 0 ∨ ∃ y, m[(k - 1) / 2]? = some y ∧ plt (x1, x2) y = false) → PutOut B b off v l (x1, x2) w e W' := by
        intro W bW e W' he hW h1 h2 h3 hs
        obtain ⟨q1, q2⟩ := (HP.out.later bW).set k (x1, x2)
        have q3 : Mv w ((W.setCell ⟨g', k * 2, none⟩ (.int .i64 x1)).setCell ⟨g', k * 2 + 1, none⟩ (.int .i64 x2)) b off v.ownBlock := (HV.out.below bW hbl0).trans q2 (by rcases HW.out with e | e; exact .inl e.symm; exact .inr fun g eg => by cases eg; exact e.1)
        exact ⟨_, _, he, q1.keep (by rw [hW]) (fun _ _ => by rw [hW]), HU.out.stop hs, HR.out.trans List.perm_append_comm, ⟨h1.trans q3.os, h2.trans q3.tape, h3.trans q3.output, by rw [hW]; exact q3.size, fun k a b c => by rw [hW]; exact q3.block k a b c, fun cs t hc => by rw [hW]; exact q3.self cs t hc⟩, by rcases HW.out with e | e; exact .inl e.symm; exact .inr fun g eg => by cases eg; exact e.1⟩
      have HF := (show Hid _ from hfin)
      clear hfin
      have hcell := HP.out.cell
      have hx1 : wr.cell? ⟨xb, 0, none⟩ = some (.int .i64 x1) := by rw [Lib.cell_of_heap HX.out]; rfl
      have hx2 : wr.cell? ⟨xb, 1, none⟩ = some (.int .i64 x2) := by rw [Lib.cell_of_heap HX.out]; rfl
      obtain ⟨-, c1, c2⟩ := HP.out.len
      rcases k with _ | j
      · obtain ⟨y0, hy0⟩ : ∃ y0, m[0]? = some y0 := ⟨_, List.getElem?_eq_getElem (by rw [HL.out]; omega)⟩
        obtain ⟨r1, r2, r3, r4⟩ := HP.out.row hy0
        have r5 := r3 0
        have r6 := r3 1
        simp only [Nat.zero_mul, Nat.zero_add] at r1 r2
        clear hy0 r3
        go_wp2_with (fail)
        go_quiet (fail)
        go_wp2_with (fail)
        go_region
        go_end0
        exact HF.out wr (Below.refl _ _) _ _ rfl rfl rfl rfl rfl (by first | exact .inl rfl | exact .inl trivial)
      · obtain ⟨y0, hy0⟩ : ∃ y0, m[j + 1]? = some y0 := ⟨_, List.getElem?_eq_getElem (by rw [HL.out]; omega)⟩
        obtain ⟨y1, hy1⟩ : ∃ y1, m[j / 2]? = some y1 := ⟨_, List.getElem?_eq_getElem (by rw [HL.out]; omega)⟩
        have HY0 := (show Hid (m[j + 1]? = some y0) from hy0)
        have HY1 := (show Hid (m[j / 2]? = some y1) from hy1)
        obtain ⟨y11, y12⟩ := y1
        obtain ⟨r1, r2, -, -⟩ := HP.out.row hy1
        simp only at r1 r2
        have z0 := cell_regrown hcell
        have z1 := cell_regrown hx1
        have z2 := cell_regrown hx2
        have z3 := cell_regrown r1
        have z4 := cell_regrown r2
        have hm := fun W => method_pair (x1, x2) W
        clear hy0 hy1 hcell hx1 hx2 r1 r2
        have d1 : decide (0 < j + 1) = true := by simp
        have HBX : Hid (∀ W, Below wr.heap.size wr W → W.heap[xb]? = some (.cells #[.int .i64 x1, .int .i64 x2] 87 (0, 0))) := fun W bW => (bW.block xb (Array.getElem?_eq_some_iff.1 HX.out).1).trans HX.out
        cases hb : plt (x1, x2) (y11, y12) with
        | false =>
          have ca : ∀ d os, Calls Try.prog 93 #[pv (x1, x2), pv (y11, y12)] (grow (redrawn wr d) os) fun e w'' => e = .returned (.bool false) ∧ ∃ p : Regrown, w'' = grow (redrawn wr p.d) p.os := fun d os => Calls.regrown_of (hb ▸ ahead_pair x1 x2 y11 y12 _)
          have HB := (show Hid (plt (x1, x2) (y11, y12) = false) from hb)
          clear hb
          go_wp2_with (fail)
          refine wp_region_quiet_below (by kernel_rfl) (by kernel_rfl) ?_
          repeat (go_big_quiet_step (first | (with_reducible exact ca _ _)))
          refine wpQuiet_nil ?_
          intro _ hw'
          obtain ⟨⟨dq, osq⟩, hw''⟩ := hw'
          subst hw''
          have b1 := below_regrown wr dq osq
          clear ca z0 z1 z2 z3 z4 hm
          generalize grow (redrawn wr dq) osq = w5 at *
          have p5 := HP.out.later b1
          have hcell := p5.cell
          obtain ⟨s1, s2, s3, s4⟩ := p5.row HY0.out
          have s5 := s3 ((j + 1) * 2)
          have s6 := s3 ((j + 1) * 2 + 1)
          have hx1 : w5.cell? ⟨xb, 0, none⟩ = some (.int .i64 x1) := by rw [Lib.cell_of_heap (HBX.out w5 b1)]; rfl
          have hx2 : w5.cell? ⟨xb, 1, none⟩ = some (.int .i64 x2) := by rw [Lib.cell_of_heap (HBX.out w5 b1)]; rfl
          clear p5 s3
          go_wp2_with (fail)
          go_region
          go_end0
          exact HF.out w5 b1 _ _ rfl rfl rfl rfl rfl (.inr ⟨_, by simpa using HY1.out, HB.out⟩)
        | true =>
          have ca : ∀ d os, Calls Try.prog 93 #[pv (x1, x2), pv (y11, y12)] (grow (redrawn wr d) os) fun e w'' => e = .returned (.bool true) ∧ ∃ p : Regrown, w'' = grow (redrawn wr p.d) p.os := fun d os => Calls.regrown_of (hb ▸ ahead_pair x1 x2 y11 y12 _)
          have HB := (show Hid (plt (x1, x2) (y11, y12) = true) from hb)
          clear hb
          go_wp2_with (fail)
          refine wp_region_quiet_below (by kernel_rfl) (by kernel_rfl) ?_
          repeat (go_big_quiet_step (first | (with_reducible exact ca _ _)))
          refine wpQuiet_nil ?_
          intro _ hw'
          obtain ⟨⟨dq, osq⟩, hw''⟩ := hw'
          subst hw''
          have b1 := below_regrown wr dq osq
          clear ca z0 z1 z2 z3 z4 hm
          generalize grow (redrawn wr dq) osq = w5 at *
          have p5 := HP.out.later b1
          have hcell := p5.cell
          obtain ⟨s1, s2, s3, s4⟩ := p5.row HY0.out
          obtain ⟨t1, t2, -, -⟩ := p5.row HY1.out
          have s5 := s3 ((j + 1) * 2)
          have s6 := s3 ((j + 1) * 2 + 1)
          have HP5 := (show Hid (Pil w5 B b off (.slice (some ⟨g', 0, none⟩) (n + 1) cap') m) from p5)
          simp only at t1 t2
          clear p5 s3
          go_wp2_with (fail)
          go_region
          go_wp2_with (fail)
          obtain ⟨q1, q2⟩ := HP5.out.set (j + 1) (y11, y12)
          obtain ⟨q3, q4⟩ := HU.out.step plt_ok (by omega) (by simpa using HY1.out) HB.out
          have q5 := (HV.out.below b1 hbl0).trans q2 (by rcases HW.out with e | e; exact .inl e.symm; exact .inr fun g eg => by cases eg; exact e.1)
          go_roundw
          case rel => exact ⟨j / 2, m.set (j + 1) (y11, y12), by go_num, by omega, by show _ = _; simpa using HL.out, q1.keep rfl (fun _ _ => rfl), q5.drew, by show Up _ _ _ _; simpa using q3, by show List.Perm _ _; exact (by simpa using q4 : List.Perm _ _).trans HR.out, by
            have e1 := q2.block xb (Array.getElem?_eq_some_iff.1 (HBX.out w5 b1)).1 (by omega) (fun e => HGX.out (by cases e; rfl))
            exact e1.trans (HBX.out w5 b1)⟩
          case measure => simp [intOf]; omega
  )
end Go.Proofs.Ythcekfmodmnekaa.pp
