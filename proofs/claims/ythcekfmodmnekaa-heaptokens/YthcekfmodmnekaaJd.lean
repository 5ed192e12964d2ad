/-
  Contracts over this program: the least pair is taken out of a pile (pile.sink).
-/
import Derived.Test.YthcekfmodmnekaaJc
namespace Go.Proofs.Ythcekfmodmnekaa.pp
open Go.ChangeShapes Go.WideShapes Go.ChangeAt Go.RowKit
open Go.Sort
open hp (Lt Heap Up Dn kidOf kid_none kid_one kid_two kid_lt nv own_keep Mv below_drewN set_self)
set_option linter.unusedVariables false
set_option maxRecDepth 100000

def SinkOut (B b off : Nat) (v : Value) (l : List Pr) (x : Pr) (w : World) (e : Ending) (w' : World) : Prop :=
  ∃ l', e = .returned (.tuple #[]) ∧ Pil w' B b off v l' ∧ Heap plt l' ∧ l'.Perm (l.set 0 x) ∧ Mv w w' b off v.ownBlock
set_option maxHeartbeats 4000000 in
theorem sink_any (x1 x2 : Int) {l : List Pr} (hl : l.length ≤ 1000000) {w : World} {B b off g n cap : Nat} (h : Pil w B b off (.slice (some ⟨g, 0, none⟩) n cap) l) (hd : Dn plt l 0 (x1, x2)) :
    Calls Try.prog 50 #[.pointer (some ⟨b, off, none⟩), pv (x1, x2)] w (SinkOut B b off (.slice (some ⟨g, 0, none⟩) n cap) l (x1, x2) w) := by
  obtain ⟨HN, c1, c2⟩ := h.len
  have hn : n ≤ 1000000 := by omega
  have ba0 := (Below.refl w.heap.size w).alloc (Nat.le_refl _) (.cells #[.int .i64 x1, .int .i64 x2] 87)
  have h1 := h.later ba0
  have c64 := kid_any l 0 (by omega) hl h1
  have HP := (show Hid (Pil (w.alloc (.cells #[.int .i64 x1, .int .i64 x2] 87)) B b off (.slice (some ⟨g, 0, none⟩) n cap) l) from h1)
  have HD := (show Hid (Dn plt l 0 (x1, x2)) from hd)
  have HN := (show Hid (n = l.length) from HN)
  have hbl := h.lt
  have V0 := (show Hid (Mv w (w.alloc (.cells #[.int .i64 x1, .int .i64 x2] 87)) b off (some g)) from (Mv.refl h.cell).below ba0 h.lt)
  have HX0 := (show Hid ((w.alloc (.cells #[.int .i64 x1, .int .i64 x2] 87)).heap[w.heap.size]? = some (.cells #[.int .i64 x1, .int .i64 x2] 87 (0, 0))) from World.alloc_heap_new w _)
  have hgl := (h.own.lt g rfl).2
  obtain ⟨xb, HXB⟩ : ∃ xb, Hid (xb = w.heap.size) := ⟨_, rfl⟩
  have hxb : b < xb := by rw [HXB.out]; exact hbl
  have hgx : g < xb := by rw [HXB.out]; exact hgl
  rw [← HXB.out] at HX0
  clear h hd h1 ba0
  go_enter Try.func50, Try.ntmps50
  go_wp2_with (go_at_call 64; refine c64.mono ?_; rintro e w1 ⟨rfl, b1⟩)
  have HP1 := (show Hid (Pil w1 B b off (.slice (some ⟨g, 0, none⟩) n cap) l) from HP.out.later b1)
  have HV1 := (show Hid (Mv w w1 b off (some g)) from V0.out.below b1 hbl)
  have HX1 := (show Hid (w1.heap[xb]? = some (.cells #[.int .i64 x1, .int .i64 x2] 87 (0, 0))) from (b1.block xb (Array.getElem?_eq_some_iff.1 HX0.out).1).trans HX0.out)
  rw [← HXB.out]
  clear HP V0 c64 b1 HX0
  go_loopw [4, 5] (fun y z wr => ∃ (k : Nat) (m : List Pr), y = .int .i64 k ∧ z = .int .i64 (kidOf plt m k : Nat) ∧ k ≤ n ∧ Hid (m.length = n) ∧ Hid (Pil wr B b off (.slice (some ⟨g, 0, none⟩) n cap) m) ∧ Hid (Mv w wr b off (some g)) ∧ Hid (Dn plt m k (x1, x2)) ∧ Hid ((m.set k (x1, x2)).Perm (l.set 0 (x1, x2))) ∧ Hid (wr.heap[xb]? = some (.cells #[.int .i64 x1, .int .i64 x2] 87 (0, 0)))) (fun y _ _ => n - (intOf y).toNat)
  case atStart => exact ⟨0, l, rfl, rfl, by omega, HN.out.symm, HP1, HV1, HD, by show List.Perm _ _; exact List.Perm.refl _, HX1⟩
  case round =>
    clear HP1 HV1 HD HX1
    obtain ⟨k, m, rfl, rfl, hk, HL, HP, HV, HD, HR, HX⟩ := hrel
    have hkl : k < n := by have := HD.out.here; rw [HL.out] at this; exact this
    obtain ⟨x0, hx0⟩ : ∃ x0, m[k]? = some x0 := ⟨_, List.getElem?_eq_getElem (by rw [HL.out]; omega)⟩
    have HX0 := (show Hid (m[k]? = some x0) from hx0)
    have hfin : ∀ W, Below wr.heap.size wr W → ∀ e W', e = .returned (.tuple #[]) → W'.heap = ((W.setCell ⟨g, k * 2, none⟩ (.int .i64 x1)).setCell ⟨g, k * 2 + 1, none⟩ (.int .i64 x2)).heap → W'.os = W.os → W'.tape = W.tape → W'.output = W.output → (kidOf plt m k = 0 ∨ (0 < kidOf plt m k ∧ ∃ y, m[kidOf plt m k]? = some y ∧ plt y (x1, x2) = false)) → SinkOut B b off (.slice (some ⟨g, 0, none⟩) n cap) l (x1, x2) w e W' := by
      intro W bW e W' he hW h1 h2 h3 hs
      obtain ⟨q1, q2⟩ := (HP.out.later bW).set k (x1, x2)
      have q3 : Mv w ((W.setCell ⟨g, k * 2, none⟩ (.int .i64 x1)).setCell ⟨g, k * 2 + 1, none⟩ (.int .i64 x2)) b off (some g) := (HV.out.below bW hbl).trans q2 (.inl rfl)
      exact ⟨_, he, q1.keep (by rw [hW]) (fun _ _ => by rw [hW]), HD.out.stop plt_ok hs, HR.out, ⟨h1.trans q3.os, h2.trans q3.tape, h3.trans q3.output, by rw [hW]; exact q3.size, fun k a b c => by rw [hW]; exact q3.block k a b c, fun cs t hc => by rw [hW]; exact q3.self cs t hc⟩⟩
    have hstep := fun y (h0 : 0 < kidOf plt m k) (hy : m[kidOf plt m k]? = some y) (ht : plt y (x1, x2) = true) => HD.out.step plt_ok h0 hy ht
    have HF := (show Hid _ from hfin)
    have HS := (show Hid _ from hstep)
    have HBX : Hid (∀ W, Below wr.heap.size wr W → W.heap[xb]? = some (.cells #[.int .i64 x1, .int .i64 x2] 87 (0, 0))) := fun W bW => (bW.block xb (Array.getElem?_eq_some_iff.1 HX.out).1).trans HX.out
    clear hfin hx0 hstep
    have hcell := HP.out.cell
    have hx1 : wr.cell? ⟨xb, 0, none⟩ = some (.int .i64 x1) := by rw [Lib.cell_of_heap HX.out]; rfl
    have hx2 : wr.cell? ⟨xb, 1, none⟩ = some (.int .i64 x2) := by rw [Lib.cell_of_heap HX.out]; rfl
    by_cases h0 : kidOf plt m k = 0
    · have HZ := (show Hid (kidOf plt m k = 0) from h0)
      obtain ⟨s1, s2, s3, s4⟩ := HP.out.row HX0.out
      have s5 := s3 (k * 2)
      have s6 := s3 (k * 2 + 1)
      rw [h0]
      clear h0 s3
      go_wp2_with (fail)
      go_quiet (fail)
      go_wp2_with (fail)
      go_region
      go_end0
      exact HF.out wr (Below.refl _ _) _ _ rfl rfl rfl rfl rfl (.inl HZ.out)
    · obtain ⟨d1, d2, d3⟩ := kid_lt (lt := plt) (l := m) (k := k) (by omega)
      rw [HL.out] at d1
      generalize hq : kidOf plt m k = c at *
      obtain ⟨y1, hy1⟩ : ∃ y1, m[c]? = some y1 := ⟨_, List.getElem?_eq_getElem (by rw [HL.out]; omega)⟩
      have HY1 := (show Hid (m[c]? = some y1) from hy1)
      obtain ⟨y11, y12⟩ := y1
      obtain ⟨r1, r2, -, -⟩ := HP.out.row hy1
      simp only at r1 r2
      have hp0 : 0 < c := by omega
      have z0 := cell_regrown hcell
      have z1 := cell_regrown hx1
      have z2 := cell_regrown hx2
      have z3 := cell_regrown r1
      have z4 := cell_regrown r2
      have hm := fun W => method_pair (y11, y12) W
      clear hy1 hcell hx1 hx2 r1 r2 hq d3 h0
      have d9 : decide (0 < c) = true := by simp; omega
      cases hb : plt (y11, y12) (x1, x2) with
      | false =>
        have ca : ∀ d os, Calls Try.prog 93 #[pv (y11, y12), pv (x1, x2)] (grow (redrawn wr d) os) fun e w'' => e = .returned (.bool false) ∧ ∃ p : Regrown, w'' = grow (redrawn wr p.d) p.os := fun d os => Calls.regrown_of (hb ▸ ahead_pair y11 y12 x1 x2 _)
        have HB := (show Hid (plt (y11, y12) (x1, x2) = false) from hb)
        clear hb
        go_wp2_with (fail)
        refine wp_region_quiet_below (by kernel_rfl) (by kernel_rfl) ?_
        repeat (go_big_quiet_step (first | (with_reducible exact ca _ _)))
        refine wpQuiet_nil ?_
        intro _ hw'
        obtain ⟨⟨dq, osq⟩, hw''⟩ := hw'
        subst hw''
        have b1 := below_regrown wr dq osq
        clear ca z0 z1 z2 z3 z4 hm
        generalize grow (redrawn wr dq) osq = w5 at *
        have p5 := HP.out.later b1
        have hcell := p5.cell
        obtain ⟨s1, s2, s3, s4⟩ := p5.row HX0.out
        have s5 := s3 (k * 2)
        have s6 := s3 (k * 2 + 1)
        have hx1 : w5.cell? ⟨xb, 0, none⟩ = some (.int .i64 x1) := by rw [Lib.cell_of_heap (HBX.out w5 b1)]; rfl
        have hx2 : w5.cell? ⟨xb, 1, none⟩ = some (.int .i64 x2) := by rw [Lib.cell_of_heap (HBX.out w5 b1)]; rfl
        clear p5 s3
        go_wp2_with (fail)
        go_region
        go_end0
        exact HF.out w5 b1 _ _ rfl rfl rfl rfl rfl (.inr ⟨hp0, _, HY1.out, HB.out⟩)
      | true =>
        have ca : ∀ d os, Calls Try.prog 93 #[pv (y11, y12), pv (x1, x2)] (grow (redrawn wr d) os) fun e w'' => e = .returned (.bool true) ∧ ∃ p : Regrown, w'' = grow (redrawn wr p.d) p.os := fun d os => Calls.regrown_of (hb ▸ ahead_pair y11 y12 x1 x2 _)
        have HB := (show Hid (plt (y11, y12) (x1, x2) = true) from hb)
        clear hb
        go_wp2_with (fail)
        refine wp_region_quiet_below (by kernel_rfl) (by kernel_rfl) ?_
        repeat (go_big_quiet_step (first | (with_reducible exact ca _ _)))
        refine wpQuiet_nil ?_
        intro _ hw'
        obtain ⟨⟨dq, osq⟩, hw''⟩ := hw'
        subst hw''
        have b1 := below_regrown wr dq osq
        clear ca z0 z1 z2 z3 z4 hm
        generalize grow (redrawn wr dq) osq = w5 at *
        have p5 := HP.out.later b1
        have hcell := p5.cell
        obtain ⟨s1, s2, s3, s4⟩ := p5.row HX0.out
        obtain ⟨t1, t2, -, -⟩ := p5.row HY1.out
        have s5 := s3 (k * 2)
        have s6 := s3 (k * 2 + 1)
        have HP5 := (show Hid (Pil w5 B b off (.slice (some ⟨g, 0, none⟩) n cap) m) from p5)
        simp only at t1 t2
        clear p5 s3
        go_wp2_with (fail)
        go_region
        obtain ⟨q1, q2⟩ := HP5.out.set k (y11, y12)
        obtain ⟨q3, q4⟩ := HS.out (y11, y12) hp0 HY1.out HB.out
        have q1 : Pil ((w5.setCell ⟨g, k * 2, none⟩ (.int .i64 y11)).setCell ⟨g, k * 2 + 1, none⟩ (.int .i64 y12)).drew B b off (.slice (some ⟨g, 0, none⟩) n cap) (m.set k (y11, y12)) := q1.keep rfl (fun _ _ => rfl)
        have q6 := q2.block xb (Array.getElem?_eq_some_iff.1 (HBX.out w5 b1)).1 (by omega) (fun e => by cases e; omega)
        have Q2 := (show Hid (Mv w ((w5.setCell ⟨g, k * 2, none⟩ (.int .i64 y11)).setCell ⟨g, k * 2 + 1, none⟩ (.int .i64 y12)).drew b off (some g)) from ((HV.out.below b1 hbl).trans q2 (.inl rfl)).drew)
        have Q6 := (show Hid (((w5.setCell ⟨g, k * 2, none⟩ (.int .i64 y11)).setCell ⟨g, k * 2 + 1, none⟩ (.int .i64 y12)).drew.heap[xb]? = some (.cells #[.int .i64 x1, .int .i64 x2] 87 (0, 0))) from q6.trans (HBX.out w5 b1))
        have c64 := kid_any (m.set k (y11, y12)) c (by omega) (by simpa [HL.out] using hn) q1
        have Q1 := (show Hid _ from q1)
        have Q3 := (show Hid _ from q3)
        have Q4 := (show Hid _ from q4)
        clear q1 q2 q3 q4 q6
        go_wp2_with (go_at_call 64; refine c64.mono ?_; rintro e w2 ⟨rfl, b2⟩)
        go_roundw
        case rel => exact ⟨c, m.set k (y11, y12), rfl, rfl, by omega, by show _ = _; simpa using HL.out, Q1.out.later b2, Q2.out.below b2 hbl, Q3.out, by show List.Perm _ _; exact Q4.out.trans HR.out, (b2.block xb (Array.getElem?_eq_some_iff.1 Q6.out).1).trans Q6.out⟩
        case measure => simp [intOf]; omega
end Go.Proofs.Ythcekfmodmnekaa.pp
