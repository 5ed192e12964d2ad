/-
  Texts put together: Contracts over this program: the least pair is taken out of a pile (pile.sink). Contracts over this program: the least pair is taken out of a pile (pile.take); whether a pile is empty.
-/
import Derived.Test.YtmmlibehihknbaaM06
namespace Go.Proofs.Ytmmlibehihknbaa.pp
open Go.ChangeShapes Go.WideShapes Go.ChangeAt Go.RowKit
open Go.Sort
open hp (Lt Heap Up Dn kidOf kid_none kid_one kid_two kid_lt nv own_keep Mv below_drewN set_self)
set_option linter.unusedVariables false
set_option maxRecDepth 100000

def SinkOut (B b off : Nat) (v : Value) (l : List Pr) (x : Pr) (w : World) (e : Ending) (w' : World) : Prop :=
  ∃ l', e = .returned (.tuple #[]) ∧ Pil w' B b off v l' ∧ Heap plt l' ∧ l'.Perm (l.set 0 x) ∧ Mv w w' b off v.ownBlock
set_option maxHeartbeats 4000000 in
theorem sink_any (x1 x2 : Int) {l : List Pr} (hl : l.length ≤ 1000000) {w : World} {B b off g n cap : Nat} (h : Pil w B b off (.slice (some ⟨g, 0, none⟩) n cap) l) (hd : Dn plt l 0 (x1, x2)) :
    Calls Try.prog 107 #[.pointer (some ⟨b, off, none⟩), pv (x1, x2)] w (SinkOut B b off (.slice (some ⟨g, 0, none⟩) n cap) l (x1, x2) w) := by
  obtain ⟨HN, c1, c2⟩ := h.len
  have hn : n ≤ 1000000 := by omega
  have ba0 := (Below.refl w.heap.size w).alloc (Nat.le_refl _) (.cells #[.int .i64 x1, .int .i64 x2] 165)
  have h1 := h.later ba0
  have c64 := kid_any l 0 (by omega) hl h1
  have HP := (show Hid (Pil (w.alloc (.cells #[.int .i64 x1, .int .i64 x2] 165)) B b off (.slice (some ⟨g, 0, none⟩) n cap) l) from h1)
  have HD := (show Hid (Dn plt l 0 (x1, x2)) from hd)
  have HN := (show Hid (n = l.length) from HN)
  have hbl := h.lt
  have V0 := (show Hid (Mv w (w.alloc (.cells #[.int .i64 x1, .int .i64 x2] 165)) b off (some g)) from (Mv.refl h.cell).below ba0 h.lt)
  have HX0 := (show Hid ((w.alloc (.cells #[.int .i64 x1, .int .i64 x2] 165)).heap[w.heap.size]? = some (.cells #[.int .i64 x1, .int .i64 x2] 165 (0, 0))) from World.alloc_heap_new w _)
  have hgl := (h.own.lt g rfl).2
  obtain ⟨xb, HXB⟩ : ∃ xb, Hid (xb = w.heap.size) := ⟨_, rfl⟩
  have hxb : b < xb := by rw [HXB.out]; exact hbl
  have hgx : g < xb := by rw [HXB.out]; exact hgl
  rw [← HXB.out] at HX0
  clear h hd h1 ba0
  go_enter Try.func107, Try.ntmps107
  go_wp2_with (go_at_call 116; refine c64.mono ?_; rintro e w1 ⟨rfl, b1⟩)
  have HP1 := (show Hid (Pil w1 B b off (.slice (some ⟨g, 0, none⟩) n cap) l) from HP.out.later b1)
  have HV1 := (show Hid (Mv w w1 b off (some g)) from V0.out.below b1 hbl)
  have HX1 := (show Hid (w1.heap[xb]? = some (.cells #[.int .i64 x1, .int .i64 x2] 165 (0, 0))) from (b1.block xb (Array.getElem?_eq_some_iff.1 HX0.out).1).trans HX0.out)
  rw [← HXB.out]
  clear HP V0 c64 b1 HX0
  go_loopw [4, 5] (fun y z wr => ∃ (k : Nat) (m : List Pr), y = .int .i64 k ∧ z = .int .i64 (kidOf plt m k : Nat) ∧ k ≤ n ∧ Hid (m.length = n) ∧ Hid (Pil wr B b off (.slice (some ⟨g, 0, none⟩) n cap) m) ∧ Hid (Mv w wr b off (some g)) ∧ Hid (Dn plt m k (x1, x2)) ∧ Hid ((m.set k (x1, x2)).Perm (l.set 0 (x1, x2))) ∧ Hid (wr.heap[xb]? = some (.cells #[.int .i64 x1, .int .i64 x2] 165 (0, 0)))) (fun y _ _ => n - (intOf y).toNat)
  case atStart => exact ⟨0, l, rfl, rfl, by omega, HN.out.symm, HP1, HV1, HD, by show List.Perm _ _; exact List.Perm.refl _, HX1⟩
  case round =>
    clear HP1 HV1 HD HX1
    obtain ⟨k, m, rfl, rfl, hk, HL, HP, HV, HD, HR, HX⟩ := hrel
    have hkl : k < n := by have := HD.out.here; rw [HL.out] at this; exact this
    obtain ⟨x0, hx0⟩ : ∃ x0, m[k]? = some x0 := ⟨_, List.getElem?_eq_getElem (by rw [HL.out]; omega)⟩
    have HX0 := (show Hid (m[k]? = some x0) from hx0)
    have hfin : ∀ W, Below wr.heap.size wr W → ∀ e W', e = .returned (.tuple #[]) → W'.heap = ((W.setCell ⟨g, k * 2, none⟩ (.int .i64 x1)).setCell ⟨g, k * 2 + 1, none⟩ (.int .i64 x2)).heap → W'.os = W.os → W'.tape = W.tape → W'.output = W.output → (kidOf plt m k = 0 ∨ (0 < kidOf plt m k ∧ ∃ y, m[kidOf plt m k]? = some y ∧ plt y (x1, x2) = false)) → SinkOut B b off (.slice (some ⟨g, 0, none⟩) n cap) l (x1, x2) w e W' := by
      intro W bW e W' he hW h1 h2 h3 hs
      obtain ⟨q1, q2⟩ := (HP.out.later bW).set k (x1, x2)
      have q3 : Mv w ((W.setCell ⟨g, k * 2, none⟩ (.int .i64 x1)).setCell ⟨g, k * 2 + 1, none⟩ (.int .i64 x2)) b off (some g) := (HV.out.below bW hbl).trans q2 (.inl rfl)
      exact ⟨_, he, q1.keep (by rw [hW]) (fun _ _ => by rw [hW]), HD.out.stop plt_ok hs, HR.out, ⟨h1.trans q3.os, h2.trans q3.tape, h3.trans q3.output, by rw [hW]; exact q3.size, fun k a b c => by rw [hW]; exact q3.block k a b c, fun cs t hc => by rw [hW]; exact q3.self cs t hc⟩⟩
    have hstep := fun y (h0 : 0 < kidOf plt m k) (hy : m[kidOf plt m k]? = some y) (ht : plt y (x1, x2) = true) => HD.out.step plt_ok h0 hy ht
    have HF := (show Hid _ from hfin)
    have HS := (show Hid _ from hstep)
    have HBX : Hid (∀ W, Below wr.heap.size wr W → W.heap[xb]? = some (.cells #[.int .i64 x1, .int .i64 x2] 165 (0, 0))) := fun W bW => (bW.block xb (Array.getElem?_eq_some_iff.1 HX.out).1).trans HX.out
    clear hfin hx0 hstep
    have hcell := HP.out.cell
    have hx1 : wr.cell? ⟨xb, 0, none⟩ = some (.int .i64 x1) := by rw [Lib.cell_of_heap HX.out]; rfl
    have hx2 : wr.cell? ⟨xb, 1, none⟩ = some (.int .i64 x2) := by rw [Lib.cell_of_heap HX.out]; rfl
    by_cases h0 : kidOf plt m k = 0
    · have HZ := (show Hid (kidOf plt m k = 0) from h0)
      obtain ⟨s1, s2, s3, s4⟩ := HP.out.row HX0.out
      have s5 := s3 (k * 2)
      have s6 := s3 (k * 2 + 1)
      rw [h0]
      clear h0 s3
      go_wp2_with (fail)
      go_quiet (fail)
      go_wp2_with (fail)
      go_region
      go_end0
      exact HF.out wr (Below.refl _ _) _ _ rfl rfl rfl rfl rfl (.inl HZ.out)
    · obtain ⟨d1, d2, d3⟩ := kid_lt (lt := plt) (l := m) (k := k) (by omega)
      rw [HL.out] at d1
      generalize hq : kidOf plt m k = c at *
      obtain ⟨y1, hy1⟩ : ∃ y1, m[c]? = some y1 := ⟨_, List.getElem?_eq_getElem (by rw [HL.out]; omega)⟩
      have HY1 := (show Hid (m[c]? = some y1) from hy1)
      obtain ⟨y11, y12⟩ := y1
      obtain ⟨r1, r2, -, -⟩ := HP.out.row hy1
      simp only at r1 r2
      have hp0 : 0 < c := by omega
      have z0 := cell_regrown hcell
      have z1 := cell_regrown hx1
      have z2 := cell_regrown hx2
      have z3 := cell_regrown r1
      have z4 := cell_regrown r2
      have hm := fun W => method_pair (y11, y12) W
      clear hy1 hcell hx1 hx2 r1 r2 hq d3 h0
      have d9 : decide (0 < c) = true := by simp; omega
      cases hb : plt (y11, y12) (x1, x2) with
      | false =>
        have ca : ∀ d os, Calls Try.prog 133 #[pv (y11, y12), pv (x1, x2)] (grow (redrawn wr d) os) fun e w'' => e = .returned (.bool false) ∧ ∃ p : Regrown, w'' = grow (redrawn wr p.d) p.os := fun d os => Calls.regrown_of (hb ▸ ahead_pair y11 y12 x1 x2 _)
        have HB := (show Hid (plt (y11, y12) (x1, x2) = false) from hb)
        clear hb
        go_wp2_with (fail)
        refine wp_region_quiet_below (by kernel_rfl) (by kernel_rfl) ?_
        repeat (go_big_quiet_step (first | (with_reducible exact ca _ _)))
        refine wpQuiet_nil ?_
        intro _ hw'
        obtain ⟨⟨dq, osq⟩, hw''⟩ := hw'
        subst hw''
        have b1 := below_regrown wr dq osq
        clear ca z0 z1 z2 z3 z4 hm
        generalize grow (redrawn wr dq) osq = w5 at *
        have p5 := HP.out.later b1
        have hcell := p5.cell
        obtain ⟨s1, s2, s3, s4⟩ := p5.row HX0.out
        have s5 := s3 (k * 2)
        have s6 := s3 (k * 2 + 1)
        have hx1 : w5.cell? ⟨xb, 0, none⟩ = some (.int .i64 x1) := by rw [Lib.cell_of_heap (HBX.out w5 b1)]; rfl
        have hx2 : w5.cell? ⟨xb, 1, none⟩ = some (.int .i64 x2) := by rw [Lib.cell_of_heap (HBX.out w5 b1)]; rfl
        clear p5 s3
        go_wp2_with (fail)
        go_region
        go_end0
        exact HF.out w5 b1 _ _ rfl rfl rfl rfl rfl (.inr ⟨hp0, _, HY1.out, HB.out⟩)
      | true =>
        have ca : ∀ d os, Calls Try.prog 133 #[pv (y11, y12), pv (x1, x2)] (grow (redrawn wr d) os) fun e w'' => e = .returned (.bool true) ∧ ∃ p : Regrown, w'' = grow (redrawn wr p.d) p.os := fun d os => Calls.regrown_of (hb ▸ ahead_pair y11 y12 x1 x2 _)
        have HB := (show Hid (plt (y11, y12) (x1, x2) = true) from hb)
        clear hb
        go_wp2_with (fail)
        refine wp_region_quiet_below (by kernel_rfl) (by kernel_rfl) ?_
        repeat (go_big_quiet_step (first | (with_reducible exact ca _ _)))
        refine wpQuiet_nil ?_
        intro _ hw'
        obtain ⟨⟨dq, osq⟩, hw''⟩ := hw'
        subst hw''
        have b1 := below_regrown wr dq osq
        clear ca z0 z1 z2 z3 z4 hm
        generalize grow (redrawn wr dq) osq = w5 at *
        have p5 := HP.out.later b1
        have hcell := p5.cell
        obtain ⟨s1, s2, s3, s4⟩ := p5.row HX0.out
        obtain ⟨t1, t2, -, -⟩ := p5.row HY1.out
        have s5 := s3 (k * 2)
        have s6 := s3 (k * 2 + 1)
        have HP5 := (show Hid (Pil w5 B b off (.slice (some ⟨g, 0, none⟩) n cap) m) from p5)
        simp only at t1 t2
        clear p5 s3
        go_wp2_with (fail)
        go_region
        obtain ⟨q1, q2⟩ := HP5.out.set k (y11, y12)
        obtain ⟨q3, q4⟩ := HS.out (y11, y12) hp0 HY1.out HB.out
        have q1 : Pil ((w5.setCell ⟨g, k * 2, none⟩ (.int .i64 y11)).setCell ⟨g, k * 2 + 1, none⟩ (.int .i64 y12)).drew B b off (.slice (some ⟨g, 0, none⟩) n cap) (m.set k (y11, y12)) := q1.keep rfl (fun _ _ => rfl)
        have q6 := q2.block xb (Array.getElem?_eq_some_iff.1 (HBX.out w5 b1)).1 (by omega) (fun e => by cases e; omega)
        have Q2 := (show Hid (Mv w ((w5.setCell ⟨g, k * 2, none⟩ (.int .i64 y11)).setCell ⟨g, k * 2 + 1, none⟩ (.int .i64 y12)).drew b off (some g)) from ((HV.out.below b1 hbl).trans q2 (.inl rfl)).drew)
        have Q6 := (show Hid (((w5.setCell ⟨g, k * 2, none⟩ (.int .i64 y11)).setCell ⟨g, k * 2 + 1, none⟩ (.int .i64 y12)).drew.heap[xb]? = some (.cells #[.int .i64 x1, .int .i64 x2] 165 (0, 0))) from q6.trans (HBX.out w5 b1))
        have c64 := kid_any (m.set k (y11, y12)) c (by omega) (by simpa [HL.out] using hn) q1
        have Q1 := (show Hid _ from q1)
        have Q3 := (show Hid _ from q3)
        have Q4 := (show Hid _ from q4)
        clear q1 q2 q3 q4 q6
        go_wp2_with (go_at_call 116; refine c64.mono ?_; rintro e w2 ⟨rfl, b2⟩)
        go_roundw
        case rel => exact ⟨c, m.set k (y11, y12), rfl, rfl, by omega, by show _ = _; simpa using HL.out, Q1.out.later b2, Q2.out.below b2 hbl, Q3.out, by show List.Perm _ _; exact Q4.out.trans HR.out, (b2.block xb (Array.getElem?_eq_some_iff.1 Q6.out).1).trans Q6.out⟩
        case measure => simp [intOf]; omega
end Go.Proofs.Ytmmlibehihknbaa.pp

namespace Go.Proofs.Ytmmlibehihknbaa.pp
open Go.ChangeShapes Go.WideShapes Go.ChangeAt Go.RowKit
open Go.Sort
open hp (Lt Heap Up Dn kidOf kid_none kid_one kid_two kid_lt nv own_keep Mv below_drewN set_self)
set_option linter.unusedVariables false
set_option maxRecDepth 100000

theorem empty_any (l : List Pr) {w : World} {B b off : Nat} {v : Value} (h : Pil w B b off v l) : Calls Try.prog 99 #[.pointer (some ⟨b, off, none⟩)] w fun e w' => e = .returned (.bool (decide (l.length = 0))) ∧ w' = w := by
  obtain ⟨g, cap, rfl, c1, c2⟩ := h.form
  have hc := h.cell
  clear h
  cases hl : l.length with
  | zero =>
    rw [hl] at hc
    go_enter Try.func99, Try.ntmps99
    go_wp2_with (fail)
    go_ret
    exact ⟨rfl, rfl⟩
  | succ n =>
    rw [hl] at hc c1
    have d : ((n : Int) + 1 == 0) = false := by simp; omega
    go_enter Try.func99, Try.ntmps99
    go_wp2_with (fail)
    go_ret
    exact ⟨by simp, rfl⟩
theorem ret165 {fn : Func} {p : Tmp} (h : fn.results = #[.cell p 165]) {a : Act} {W : World} {R : Ending → World → Prop} (g : Nat) (v0 v1 : Value) (hp : a.tmps.getD p undef = .pointer (some ⟨g, 0, none⟩)) (hb : W.heap[g]? = some (.cells #[v0, v1] 165 (0, 0))) (hd : a.defers = [])
    (hR : R (.returned (.agg #[v0, v1])) W) : bodyPost Try.prog fn R .ret a W :=
  bodyPost_ret (results_cell_row h _ _ g 165 _ (0, 0) _ hp hb Try.underlying165 rfl (by kernel_rfl)) hd hR
theorem set_pair {W : World} {g : Nat} {u0 u1 v0 v1 : Value} (h : W.heap[g]? = some (.cells #[u0, u1] 165 (0, 0))) : ((W.setCell ⟨g, 0, none⟩ v0).setCell ⟨g, 1, none⟩ v1).heap[g]? = some (.cells #[v0, v1] 165 (0, 0)) := by
  have := heap_setCell_same W g 0 #[u0, u1] 165 v0 h
  have := heap_setCell_same _ g 1 _ 165 v1 this
  simpa using this
def TakeOut (B b off : Nat) (v : Value) (l : List Pr) (w : World) (e : Ending) (w' : World) : Prop :=
  ∃ v' x l', e = .returned (pv x) ∧ Pil w' B b off v' l' ∧ Heap plt l' ∧ l.Perm (x :: l') ∧ (∀ y ∈ l, plt y x = false) ∧ Mv w w' b off v.ownBlock ∧ v'.ownBlock = v.ownBlock
set_option maxHeartbeats 4000000 in
theorem take_any {l : List Pr} (hl : l.length ≤ 1000000) (h0 : 0 < l.length) {w : World} {B b off : Nat} {v : Value} (h : Pil w B b off v l) (hh : Heap plt l) :
    Calls Try.prog 100 #[.pointer (some ⟨b, off, none⟩)] w (TakeOut B b off v l w) := by
  obtain ⟨n, hn⟩ : ∃ n, l.length = n + 1 := ⟨l.length - 1, by omega⟩
  obtain ⟨⟨x01, x02⟩, hx0⟩ : ∃ x0, l[0]? = some x0 := ⟨_, List.getElem?_eq_getElem h0⟩
  obtain ⟨⟨x11, x12⟩, hx1⟩ : ∃ x1, l[n]? = some x1 := ⟨_, List.getElem?_eq_getElem (by omega)⟩
  obtain ⟨g, cap, rfl⟩ := h.full h0
  rw [hn] at h ⊢
  obtain ⟨e1, e2, -, -⟩ := h.row hx0
  obtain ⟨e3, e4, -, -⟩ := h.row hx1
  simp only [Nat.zero_mul, Nat.zero_add] at e1 e2 e3 e4
  obtain ⟨-, c1, c2⟩ := h.len
  have hc := h.cell
  have hf := h.thaw
  have hbl := h.lt
  have A1 : ∀ {a : Addr} {u : Value} (o : Obj), w.cell? a = some u → (w.alloc o).cell? a = some u := fun o hh => ((Below.refl w.heap.size w).alloc (Nat.le_refl _) o).cell (block_lt_of_cell hh) |>.trans hh
  have A2 : ∀ {a : Addr} {u : Value} (o o' : Obj), w.cell? a = some u → ((w.alloc o).alloc o').cell? a = some u := fun o o' hh => (((Below.refl w.heap.size w).alloc (Nat.le_refl _) o).alloc (by simp) o').cell (block_lt_of_cell hh) |>.trans hh
  have e1a := A1 (.cells #[.int .i64 0, .int .i64 0] 165) e1
  have e2a := A1 (.cells #[.int .i64 0, .int .i64 0] 165) e2
  have hca := A1 (.cells #[.int .i64 0, .int .i64 0] 165) hc
  have e1b := A2 (.cells #[.int .i64 0, .int .i64 0] 165) (.cells #[.int .i64 0, .int .i64 0] 165) e1
  have e2b := A2 (.cells #[.int .i64 0, .int .i64 0] 165) (.cells #[.int .i64 0, .int .i64 0] 165) e2
  have hcb := A2 (.cells #[.int .i64 0, .int .i64 0] 165) (.cells #[.int .i64 0, .int .i64 0] 165) hc
  clear A1 A2
  go_enter Try.func100, Try.ntmps100
  go_wp2_with (fail)
  go_region
  have hleast : ∀ y ∈ l, plt y (x01, x02) = false := fun y hy => by
    obtain ⟨i, hi⟩ := List.getElem?_of_mem hy
    exact hh.least plt_ok hx0 i y hi
  have hlast : l = l.take n ++ [(x11, x12)] := by
    conv => lhs; rw [← List.take_append_drop n l]
    congr 1
    obtain ⟨hlt, e⟩ := List.getElem?_eq_some_iff.1 hx1
    rw [List.drop_eq_getElem_cons hlt, e, List.drop_of_length_le (by omega)]
  have bw1 : Below w.heap.size w ((w.alloc (.cells #[.int .i64 0, .int .i64 0] 165)).alloc (.cells #[.int .i64 x01, .int .i64 x02] 165)).drew := below_drewN (((Below.refl w.heap.size w).alloc (Nat.le_refl _) _).alloc (by simp) _) 1
  have hz1 : ((w.alloc (.cells #[.int .i64 0, .int .i64 0] 165)).alloc (.cells #[.int .i64 x01, .int .i64 x02] 165)).drew.heap[w.heap.size]? = some (.cells #[.int .i64 0, .int .i64 0] 165 (0, 0)) := by
    show ((w.alloc (.cells #[.int .i64 0, .int .i64 0] 165)).alloc (.cells #[.int .i64 x01, .int .i64 x02] 165)).heap[w.heap.size]? = _
    rw [((Below.refl _ _).alloc (Nat.le_refl (w.alloc (.cells #[.int .i64 0, .int .i64 0] 165)).heap.size) (.cells #[.int .i64 x01, .int .i64 x02] 165)).block _ (by simp)]
    exact World.alloc_heap_new w _
  have hz2 : ((w.alloc (.cells #[.int .i64 0, .int .i64 0] 165)).alloc (.cells #[.int .i64 x01, .int .i64 x02] 165)).drew.heap[w.heap.size + 1]? = some (.cells #[.int .i64 x01, .int .i64 x02] 165 (0, 0)) := by
    have := World.alloc_heap_new (w.alloc (.cells #[.int .i64 0, .int .i64 0] 165)) (.cells #[.int .i64 x01, .int .i64 x02] 165)
    rw [show (w.alloc (.cells #[.int .i64 0, .int .i64 0] 165)).heap.size = w.heap.size + 1 by simp] at this
    exact this
  clear e1a e2a hca e1b e2b hcb
  generalize ((w.alloc (.cells #[.int .i64 0, .int .i64 0] 165)).alloc (.cells #[.int .i64 x01, .int .i64 x02] 165)).drew = W1 at *
  have p1 := h.later bw1
  have gl := (h.own.lt g rfl).2
  have a1 := (bw1.cell (p := ⟨b, off, none⟩) hbl).trans hc
  have a3 := (bw1.cell (p := ⟨g, n * 2, none⟩) gl).trans e3
  have a4 := (bw1.cell (p := ⟨g, n * 2 + 1, none⟩) gl).trans e4
  have b2 := (Below.refl W1.heap.size W1).alloc (Nat.le_refl _) (.cells #[.int .i64 x11, .int .i64 x12] 165)
  have p2 := p1.later b2
  have a5 := p2.cell
  have a6 := p2.thaw
  obtain ⟨q1, q2⟩ := p2.cut hlast
  have V2 : Mv w (W1.alloc (.cells #[.int .i64 x11, .int .i64 x12] 165)) b off (some g) := ((Mv.refl hc).below bw1 hbl).below b2 hbl
  have V3 := (show Hid (Mv w ((W1.alloc (.cells #[.int .i64 x11, .int .i64 x12] 165)).setCell ⟨b, off, none⟩ (.slice (some ⟨g, 0, none⟩) n cap)) b off (some g)) from V2.trans q2 (.inl rfl))
  obtain ⟨rb, HRB⟩ : ∃ rb, Hid (rb = w.heap.size) := ⟨_, rfl⟩
  rw [← HRB.out] at hz1 hz2 ⊢
  have hrb1 : b < rb := by rw [HRB.out]; exact hbl
  have hrb2 : g < rb := by rw [HRB.out]; exact gl
  have hz1l := (Array.getElem?_eq_some_iff.1 hz1).1
  have hz2l := (Array.getElem?_eq_some_iff.1 hz2).1
  have hz3 : ((W1.alloc (.cells #[.int .i64 x11, .int .i64 x12] 165)).setCell ⟨b, off, none⟩ (.slice (some ⟨g, 0, none⟩) n cap)).heap[rb]? = some (.cells #[.int .i64 0, .int .i64 0] 165 (0, 0)) := (Below.heap_setCell _ _ _ _ (by show rb ≠ b; omega)).trans ((b2.block rb hz1l).trans hz1)
  have hz4 : ((W1.alloc (.cells #[.int .i64 x11, .int .i64 x12] 165)).setCell ⟨b, off, none⟩ (.slice (some ⟨g, 0, none⟩) n cap)).heap[rb + 1]? = some (.cells #[.int .i64 x01, .int .i64 x02] 165 (0, 0)) := (Below.heap_setCell _ _ _ _ (by show rb + 1 ≠ b; omega)).trans ((b2.block (rb + 1) hz2l).trans hz2)
  have HL := (show Hid (∀ y ∈ l, plt y (x01, x02) = false) from hleast)
  have Q1 := (show Hid (Pil ((W1.alloc (.cells #[.int .i64 x11, .int .i64 x12] 165)).setCell ⟨b, off, none⟩ (.slice (some ⟨g, 0, none⟩) n cap)) B b off (.slice (some ⟨g, 0, none⟩) n cap) (l.take n)) from q1)
  have Z3 := (show Hid _ from hz3)
  have Z4 := (show Hid _ from hz4)
  have hfin : ∀ (W : World) (l' : List Pr), Pil W B b off (.slice (some ⟨g, 0, none⟩) n cap) l' → Heap plt l' → l.Perm ((x01, x02) :: l') → Mv w W b off (some g) → ∀ (v0 v1 : Value), TakeOut B b off (.slice (some ⟨g, 0, none⟩) (n + 1) cap) l w (.returned (.agg #[.int .i64 x01, .int .i64 x02])) ((W.setCell ⟨rb, 0, none⟩ v0).setCell ⟨rb, 1, none⟩ v1) := by
    intro W l' k1 k2 k3 k4 v0 v1
    have oth : ∀ k, k < rb → ((W.setCell ⟨rb, 0, none⟩ v0).setCell ⟨rb, 1, none⟩ v1).heap[k]? = W.heap[k]? := fun k hk => (Below.heap_setCell _ _ _ _ (by show k ≠ rb; omega)).trans (Below.heap_setCell _ _ _ _ (by show k ≠ rb; omega))
    refine ⟨_, (x01, x02), l', rfl, k1.keep (oth b hrb1) (fun k e => by cases e; exact oth g hrb2), k2, k3, HL.out, ⟨k4.os, k4.tape, k4.output, by rw [World.size_setCell, World.size_setCell]; exact k4.size, fun k hk a b => by rw [oth k (by rw [HRB.out]; exact hk)]; exact k4.block k hk a b, fun cs t hc => by rw [oth _ hrb1]; exact k4.self cs t hc⟩, rfl⟩
  have HF := (show Hid _ from hfin)
  clear hfin
  by_cases hz : n = 0
  · subst hz
    have e : (x11, x12) = (x01, x02) := by rw [hx0] at hx1; exact (Option.some.inj hx1).symm
    have HE := (show Hid (l.Perm [(x01, x02)]) from by show List.Perm _ _; rw [hlast, ← e]; simp)
    have HT := (show Hid (l.take 0 = []) from List.take_zero)
    have y1 : ((W1.alloc (.cells #[.int .i64 x11, .int .i64 x12] 165)).setCell ⟨b, off, none⟩ (.slice (some ⟨g, 0, none⟩) 0 cap)).cell? ⟨rb + 1, 0, none⟩ = some (.int .i64 x01) := by rw [Lib.cell_of_heap hz4]; rfl
    have y2 : ((W1.alloc (.cells #[.int .i64 x11, .int .i64 x12] 165)).setCell ⟨b, off, none⟩ (.slice (some ⟨g, 0, none⟩) 0 cap)).cell? ⟨rb + 1, 1, none⟩ = some (.int .i64 x02) := by rw [Lib.cell_of_heap hz4]; rfl
    have y3 : ((W1.alloc (.cells #[.int .i64 x11, .int .i64 x12] 165)).setCell ⟨b, off, none⟩ (.slice (some ⟨g, 0, none⟩) 0 cap)).cell? ⟨rb, 0, none⟩ = some (.int .i64 0) := by rw [Lib.cell_of_heap hz3]; rfl
    have y4 : ((W1.alloc (.cells #[.int .i64 x11, .int .i64 x12] 165)).setCell ⟨b, off, none⟩ (.slice (some ⟨g, 0, none⟩) 0 cap)).cell? ⟨rb, 1, none⟩ = some (.int .i64 0) := by rw [Lib.cell_of_heap hz3]; rfl
    have y5 : ((W1.alloc (.cells #[.int .i64 x11, .int .i64 x12] 165)).setCell ⟨b, off, none⟩ (.slice (some ⟨g, 0, none⟩) 0 cap)).frozen? ⟨rb, 0, none⟩ = false := Lib.frozen_of_heap hz3 0
    have y6 : ((W1.alloc (.cells #[.int .i64 x11, .int .i64 x12] 165)).setCell ⟨b, off, none⟩ (.slice (some ⟨g, 0, none⟩) 0 cap)).frozen? ⟨rb, 1, none⟩ = false := Lib.frozen_of_heap hz3 1
    clear h hh hx0 hx1 hleast hlast hn e p1 p2 q1 q2 V2 hz1 hz2 hz3 hz4 b2
    go_wp2_with (fail)
    refine ret165 (by rfl) rb _ _ (by rfl) (set_pair Z3.out) (by rfl) ?_
    exact HF.out _ [] (by have := Q1.out; rw [List.take_zero] at this; exact this) Heap.nil HE.out V3.out _ _
  · have hd : Dn plt (l.take n) 0 (x11, x12) := Dn.start hh _ _ _ hlast (by rw [List.length_take]; omega)
    have HQ := (show Hid (l.Perm ((x01, x02) :: (l.take n).set 0 (x11, x12))) from by
      show List.Perm _ _
      obtain ⟨a, t, e⟩ : ∃ a t, l.take n = a :: t := by
        cases hlt : l.take n with
        | nil => have := congrArg List.length hlt; rw [List.length_take, hn, List.length_nil] at this; omega
        | cons a t => exact ⟨a, t, rfl⟩
      have ea : a = (x01, x02) := by
        have : (l.take n)[0]? = some a := by rw [e]; rfl
        rw [List.getElem?_take_of_lt (by omega), hx0] at this
        exact (Option.some.inj this).symm
      rw [e, ea]
      rw [e, ea] at hlast
      rw [hlast]
      simp only [List.set_cons_zero, List.cons_append]
      exact List.Perm.cons _ List.perm_append_comm)
    have c50 := sink_any x11 x12 (by rw [List.length_take]; omega) q1 hd
    have hz : 0 < n := by omega
    have hn2 : n ≤ 1000000 := by omega
    have Z5 := (show Hid (rb < ((W1.alloc (.cells #[.int .i64 x11, .int .i64 x12] 165)).setCell ⟨b, off, none⟩ (.slice (some ⟨g, 0, none⟩) n cap)).heap.size) from (Array.getElem?_eq_some_iff.1 hz3).1)
    have Z6 := (show Hid (rb + 1 < ((W1.alloc (.cells #[.int .i64 x11, .int .i64 x12] 165)).setCell ⟨b, off, none⟩ (.slice (some ⟨g, 0, none⟩) n cap)).heap.size) from (Array.getElem?_eq_some_iff.1 hz4).1)
    clear h hh hx0 hx1 hleast hlast hn p1 p2 q1 q2 V2 hz1 hz2 hz3 hz4 b2 hd hl
    go_wp2_with (fail)
    go_at_call 107
    refine c50.mono ?_
    rintro e w6 ⟨l', rfl, t1, t2, t3, t4⟩
    have y0 := (show w6.heap[rb]? = some (.cells #[.int .i64 0, .int .i64 0] 165 (0, 0)) from (t4.block rb Z5.out (by omega) (fun e => by have e' : rb = g := Option.some.inj e; omega)).trans Z3.out)
    have y1 := (show w6.heap[rb + 1]? = some (.cells #[.int .i64 x01, .int .i64 x02] 165 (0, 0)) from (t4.block (rb + 1) Z6.out (by omega) (fun e => by have e' : rb + 1 = g := Option.some.inj e; omega)).trans Z4.out)
    have u1 : w6.cell? ⟨rb + 1, 0, none⟩ = some (.int .i64 x01) := (by rw [Lib.cell_of_heap y1]; rfl)
    have u2 : w6.cell? ⟨rb + 1, 1, none⟩ = some (.int .i64 x02) := (by rw [Lib.cell_of_heap y1]; rfl)
    have u3 : w6.cell? ⟨rb, 0, none⟩ = some (.int .i64 0) := (by rw [Lib.cell_of_heap y0]; rfl)
    have u4 : w6.cell? ⟨rb, 1, none⟩ = some (.int .i64 0) := (by rw [Lib.cell_of_heap y0]; rfl)
    have u5 : w6.frozen? ⟨rb, 0, none⟩ = false := Lib.frozen_of_heap y0 0
    have u6 : w6.frozen? ⟨rb, 1, none⟩ = false := Lib.frozen_of_heap y0 1
    have Y0 := (show Hid _ from y0)
    clear y0 y1 c50
    go_wp2_with (fail)
    refine ret165 (by rfl) rb _ _ (by rfl) (set_pair Y0.out) (by rfl) ?_
    exact HF.out _ l' t1 t2 (HQ.out.trans (List.Perm.cons _ t3.symm)) (V3.out.trans t4 (.inl rfl)) _ _
end Go.Proofs.Ytmmlibehihknbaa.pp
