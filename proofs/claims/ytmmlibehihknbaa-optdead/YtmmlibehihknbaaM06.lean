/-
  Texts put together: Over this program: a pair more in a pile (pile.put): what becomes of memory. Contracts over this program: a pair more in a pile (pile.put).
-/
import Derived.Test.YtmmlibehihknbaaM05
namespace Go.Proofs.Ytmmlibehihknbaa.pp
open Go.ChangeShapes Go.WideShapes Go.ChangeAt Go.RowKit
open Go.Sort
open hp (Lt Heap Up Dn kidOf kid_none kid_one kid_two kid_lt nv own_keep Mv below_drewN set_self)
set_option linter.unusedVariables false
set_option maxRecDepth 100000

theorem info165 : (Try.prog.info? 165).map (fun i => (i.zero, i.size, i.bytes)) = some (some (.agg #[.int .i64 0, .int .i64 0]), 2, 16) := by kernel_rfl
theorem new2 (W : World) (u u' : Value) (t : TypeId) : ∀ j x, [u, u'][j]? = some x → (W.alloc (.cells #[u, u'] t)).cell? ((⟨W.heap.size, 0, none⟩ : Addr).add j) = some x := fun j x hx => by
  rcases j with _ | _ | j
  · simp at hx
    subst hx
    rw [show ((⟨W.heap.size, 0, none⟩ : Addr).add 0) = ⟨W.heap.size, 0, none⟩ from rfl, Lib.cell_of_heap (World.alloc_heap_new W _)]
    rfl
  · simp at hx
    subst hx
    rw [show ((⟨W.heap.size, 0, none⟩ : Addr).add 1) = ⟨W.heap.size, 1, none⟩ from rfl, Lib.cell_of_heap (World.alloc_heap_new W _)]
    rfl
  · simp at hx
theorem one2 (u u' : Value) (h : u.oneCell' = true) (h' : u'.oneCell' = true) : ∀ x ∈ [u, u'], x.oneCell' = true := fun x hx => by
  rcases List.mem_cons.1 hx with rfl | hx
  · exact h
  · rw [List.mem_singleton.1 hx]; exact h'
/-- a pair is laid at a place of the row -/
theorem Pil.set {w : World} {B b off g n cap : Nat} {l : List Pr} (h : Pil w B b off (.slice (some ⟨g, 0, none⟩) n cap) l) (j : Nat) (x : Pr) : Pil ((w.setCell ⟨g, j * 2, none⟩ (.int .i64 x.1)).setCell ⟨g, j * 2 + 1, none⟩ (.int .i64 x.2)) B b off (.slice (some ⟨g, 0, none⟩) n cap) (l.set j x) ∧ Mv w ((w.setCell ⟨g, j * 2, none⟩ (.int .i64 x.1)).setCell ⟨g, j * 2 + 1, none⟩ (.int .i64 x.2)) b off (some g) := by
  have hn : n = l.length := h.len.1
  subst hn
  obtain ⟨s1, s2⟩ := h.own.stored (j * 2) (.int .i64 x.1)
  obtain ⟨s3, s4⟩ := s1.stored (j * 2 + 1) (.int .i64 x.2)
  rw [cs2_set] at s3
  have blk : ∀ k, k < w.heap.size → some k ≠ some g → ((w.setCell ⟨g, j * 2, none⟩ (.int .i64 x.1)).setCell ⟨g, j * 2 + 1, none⟩ (.int .i64 x.2)).heap[k]? = w.heap[k]? := fun k hk hne => (s4.block k (by rw [World.size_setCell]; exact hk) hne).trans (s2.block k hk hne)
  have hb := blk b h.lt (fun e => h.apart e)
  refine ⟨⟨(World.cell?_of_block (a := ⟨b, off, none⟩) hb).trans h.cell, (World.frozen?_of_block (a := ⟨b, off, none⟩) hb).trans h.thaw, ?_, h.apart⟩, rfl, rfl, rfl, by rw [World.size_setCell, World.size_setCell]; exact Nat.le_refl _, fun k hk _ hne => blk k hk hne, fun cs t hc => ⟨.slice (some ⟨g, 0, none⟩) l.length cap, ?_⟩⟩
  · rw [List.length_set]; exact s3
  · rw [hb, hc]
    have : cs[off]? = some (.slice (some ⟨g, 0, none⟩) l.length cap) := by rw [← Lib.cell_of_heap hc]; exact h.cell
    rw [set_self this]
/-- the row of a pile with one more, and the pile's cell -/
theorem Pil.more {w w2 : World} {B b off g cap : Nat} {v : Value} {l : List Pr} {x : Pr} (h : Pil w B b off v l) 
    (ho : w2.ownsRow B 165 2 (.slice (some ⟨g, 0, none⟩) (l.length + 1) cap) (l.length + 1) (cs2 l ++ [.int .i64 x.1, .int .i64 x.2])) (hg : (w.alloc (.cells #[.int .i64 x.1, .int .i64 x.2] 165)).grownBy w2 v.ownBlock) (hw : some g = v.ownBlock ∨ (w.alloc (.cells #[.int .i64 x.1, .int .i64 x.2] 165)).heap.size ≤ g) :
    Pil (w2.setCell ⟨b, off, none⟩ (.slice (some ⟨g, 0, none⟩) (l.length + 1) cap)) B b off (.slice (some ⟨g, 0, none⟩) (l.length + 1) cap) (l ++ [x]) ∧ Mv w (w2.setCell ⟨b, off, none⟩ (.slice (some ⟨g, 0, none⟩) (l.length + 1) cap)) b off v.ownBlock ∧ w2.cell? ⟨b, off, none⟩ = some v ∧ w2.frozen? ⟨b, off, none⟩ = false := by
  have ba := (Below.refl w.heap.size w).alloc (Nat.le_refl _) (.cells #[.int .i64 x.1, .int .i64 x.2] 165)
  have hb2 : w2.heap[b]? = w.heap[b]? := (hg.block b (Nat.lt_of_lt_of_le h.lt ba.size) h.apart).trans (ba.block b h.lt)
  have c2 : w2.cell? ⟨b, off, none⟩ = some v := (World.cell?_of_block (a := ⟨b, off, none⟩) hb2).trans h.cell
  have f2 : w2.frozen? ⟨b, off, none⟩ = false := (World.frozen?_of_block (a := ⟨b, off, none⟩) hb2).trans h.thaw
  have hbg : b ≠ g := by
    intro e
    subst e
    rcases hw with e | e
    · exact h.apart e
    · have := h.lt; have := ba.size; omega
  have oth : ∀ k, k ≠ b → (w2.setCell ⟨b, off, none⟩ (.slice (some ⟨g, 0, none⟩) (l.length + 1) cap)).heap[k]? = w2.heap[k]? := fun k hk => Below.heap_setCell _ _ _ _ hk
  refine ⟨⟨World.cell?_setCell_same w2 ⟨b, off, none⟩ _ c2, by simp [f2], ?_, ?_⟩, ⟨hg.os.trans ba.os, hg.tape.trans ba.tape, hg.output.trans ba.output, ?_, fun k hk hne hr => ?_, fun cs t hc => ⟨.slice (some ⟨g, 0, none⟩) (l.length + 1) cap, ?_⟩⟩, c2, f2⟩
  · have := own_keep ho (W' := w2.setCell ⟨b, off, none⟩ (.slice (some ⟨g, 0, none⟩) (l.length + 1) cap)) fun k e => oth k (by intro e'; subst e'; cases e; exact hbg rfl)
    rw [cs2_app, List.length_append]
    exact this
  · intro e; cases e; exact hbg rfl
  · rw [World.size_setCell]; exact Nat.le_trans ba.size hg.size
  · rw [oth k hne, hg.block k (Nat.lt_of_lt_of_le hk ba.size) hr, ba.block k hk]
  · exact heap_setCell_same w2 b off cs t _ (hb2.trans hc)
theorem Pil.cut {w : World} {B b off g n cap : Nat} {l m : List Pr} {x : Pr} (h : Pil w B b off (.slice (some ⟨g, 0, none⟩) (n + 1) cap) l) (hl : l = m ++ [x]) : Pil (w.setCell ⟨b, off, none⟩ (.slice (some ⟨g, 0, none⟩) n cap)) B b off (.slice (some ⟨g, 0, none⟩) n cap) m ∧ Mv w (w.setCell ⟨b, off, none⟩ (.slice (some ⟨g, 0, none⟩) n cap)) b off (some g) := by
  subst hl
  have hn : n = m.length := by have := h.len.1; simp at this; omega
  subst hn
  have ho : w.ownsRow B 165 2 (.slice (some ⟨g, 0, none⟩) (m.length + 1) cap) (m.length + 1) (cs2 m ++ [.int .i64 x.1, .int .i64 x.2]) := by
    have := h.own
    rw [cs2_app, List.length_append] at this
    exact this
  have hp := ownsRow_pop (by rw [cs2_len]) ho
  have hbg : b ≠ g := fun e => h.apart (by rw [e]; rfl)
  have oth : ∀ k, k ≠ b → (w.setCell ⟨b, off, none⟩ (.slice (some ⟨g, 0, none⟩) m.length cap)).heap[k]? = w.heap[k]? := fun k hk => Below.heap_setCell _ _ _ _ hk
  refine ⟨⟨World.cell?_setCell_same w ⟨b, off, none⟩ _ h.cell, by simp [h.thaw], own_keep hp fun k e => oth k (by intro e'; subst e'; cases e; exact hbg rfl), h.apart⟩, rfl, rfl, rfl, by rw [World.size_setCell]; exact Nat.le_refl _, fun k hk hne _ => oth k hne, fun cs t hc => ⟨_, heap_setCell_same w b off cs t _ hc⟩⟩

def PutOut (B b off : Nat) (v : Value) (l : List Pr) (x : Pr) (w : World) (e : Ending) (w' : World) : Prop :=
  ∃ v' l', e = .returned (.tuple #[]) ∧ Pil w' B b off v' l' ∧ Heap plt l' ∧ l'.Perm (x :: l) ∧ Mv w w' b off v.ownBlock ∧ (v'.ownBlock = v.ownBlock ∨ ∀ g, v'.ownBlock = some g → w.heap.size ≤ g)
end Go.Proofs.Ytmmlibehihknbaa.pp

namespace Go.Proofs.Ytmmlibehihknbaa.pp
open Go.ChangeShapes Go.WideShapes Go.ChangeAt Go.RowKit
open Go.Sort
open hp (Lt Heap Up Dn kidOf kid_none kid_one kid_two kid_lt nv own_keep Mv below_drewN set_self)
set_option linter.unusedVariables false
set_option maxRecDepth 100000

set_option maxHeartbeats 4000000 in
theorem put_any (x1 x2 : Int) {l : List Pr} (hl : l.length ≤ 999998) {w : World} {B b off : Nat} {v : Value} (h0 : Pil w B b off v l) (hB : B ≤ b) (hh : Heap plt l) :
    Calls Try.prog 106 #[.pointer (some ⟨b, off, none⟩), pv (x1, x2)] w (PutOut B b off v l (x1, x2) w) := by
  have ba0 := (Below.refl w.heap.size w).alloc (Nat.le_refl _) (.cells #[.int .i64 x1, .int .i64 x2] 165)
  have h := h0.later ba0
  have V0 := (show Hid (Mv w (w.alloc (.cells #[.int .i64 x1, .int .i64 x2] 165)) b off v.ownBlock) from (Mv.refl h0.cell).below ba0 h0.lt)
  have hx : (w.alloc (.cells #[.int .i64 x1, .int .i64 x2] 165)).heap[w.heap.size]? = some (.cells #[.int .i64 x1, .int .i64 x2] 165 (0, 0)) := World.alloc_heap_new w _
  have hBs : B ≤ w.heap.size := Nat.le_trans hB (Nat.le_of_lt h0.lt)
  have ba := (Below.refl (w.alloc (.cells #[.int .i64 x1, .int .i64 x2] 165)).heap.size (w.alloc (.cells #[.int .i64 x1, .int .i64 x2] 165))).alloc (Nat.le_refl _) (.cells #[.int .i64 x1, .int .i64 x2] 165)
  have hc := h.cell
  have hc1 : ((w.alloc (.cells #[.int .i64 x1, .int .i64 x2] 165)).alloc (.cells #[.int .i64 x1, .int .i64 x2] 165)).cell? ⟨b, off, none⟩ = some v := (World.cell?_of_block (a := ⟨b, off, none⟩) (ba.block b h.lt)).trans h.cell
  have ho : ((w.alloc (.cells #[.int .i64 x1, .int .i64 x2] 165)).alloc (.cells #[.int .i64 x1, .int .i64 x2] 165)).drew.ownsRow B 165 2 v l.length (cs2 l) := (h.own.alloc _).drew
  have HM := (show Hid (∀ (g cap : Nat) (w2 : World), w2.ownsRow B 165 2 (.slice (some ⟨g, 0, none⟩) (l.length + 1) cap) (l.length + 1) (cs2 l ++ [.int .i64 x1, .int .i64 x2]) → ((w.alloc (.cells #[.int .i64 x1, .int .i64 x2] 165)).alloc (.cells #[.int .i64 x1, .int .i64 x2] 165)).grownBy w2 v.ownBlock → (some g = v.ownBlock ∨ ((w.alloc (.cells #[.int .i64 x1, .int .i64 x2] 165)).alloc (.cells #[.int .i64 x1, .int .i64 x2] 165)).heap.size ≤ g) → _) from fun g cap w2 => h.more (w2 := w2) (g := g) (cap := cap) (x := (x1, x2)))
  have HO := (show Hid _ from ho)
  have HX := (show Hid _ from hx)
  have hbl := h.lt
  have hbl0 := h0.lt
  have hN := (show Hid (∀ j x, [Value.int .i64 x1, .int .i64 x2][j]? = some x → ((w.alloc (.cells #[.int .i64 x1, .int .i64 x2] 165)).alloc (.cells #[.int .i64 x1, .int .i64 x2] 165)).drew.cell? ((⟨w.heap.size + 1, 0, none⟩ : Addr).add j) = some x) from fun j x hx => by
    have := new2 (w.alloc (.cells #[.int .i64 x1, .int .i64 x2] 165)) (.int .i64 x1) (.int .i64 x2) 165 j x hx
    rw [show (w.alloc (.cells #[.int .i64 x1, .int .i64 x2] 165)).heap.size = w.heap.size + 1 by simp] at this
    exact this)
  have hvs : ∀ g, some g = v.ownBlock → g = w.heap.size → False := fun g e e' => by have := (h0.own.lt g e.symm).2; omega
  have HX1 := (show Hid (((w.alloc (.cells #[.int .i64 x1, .int .i64 x2] 165)).alloc (.cells #[.int .i64 x1, .int .i64 x2] 165)).heap[w.heap.size]? = some (.cells #[.int .i64 x1, .int .i64 x2] 165 (0, 0))) from (ba.block _ (by simp)).trans hx)
  clear ho h hx h0 ba ba0
  go_enter Try.func106, Try.ntmps106
  go_wp2_with (fail)
  go_region_law (refine ow.step_append (by rfl) (.tmp 9) (.tmp 11) 156 (by rfl) 165 (.agg #[.int .i64 0, .int .i64 0]) 2 16 Try.underlying156 info165 rfl (by omega) (by omega) B v l.length (cs2 l) (w.heap.size + 1) [.int .i64 x1, .int .i64 x2] (by rfl) (by rfl) HO.out rfl hN.out (one2 _ _ rfl rfl) (by omega) (by show B ≤ _; simp; omega) ?_; intro g' cap' w2 h1 h2 h3; obtain ⟨p1, p2, p3, p4⟩ := HM.out g' cap' w2 h1 ⟨h2.os, h2.tape, h2.output, h2.size, h2.block⟩ h3; have HXX := (show Hid (w2.heap[w.heap.size]? = some (.cells #[.int .i64 x1, .int .i64 x2] 165 (0, 0))) from (h2.block w.heap.size (by show _ < _; simp; omega) (fun e => hvs w.heap.size e rfl)).trans HX1.out))
  all_goals (
    have HW := (show Hid (v.ownBlock = some g' ∨ (w.heap.size ≤ g' ∧ g' ≠ w.heap.size)) from by
      show _ ∨ _
      rcases h3 with e | e
      · exact .inl e.symm
      · right
        have e : w.heap.size + 1 + 1 ≤ g' := by simpa using e
        omega)
    have HGX := (show Hid (g' ≠ w.heap.size) from by
      show _ ≠ _
      rcases HW.out with e | e
      · intro e'; subst e'; exact hvs _ e.symm rfl
      · exact e.2)
    have P2 := (show Hid (Mv w (w2.setCell ⟨b, off, none⟩ (.slice (some ⟨g', 0, none⟩) (l.length + 1) cap')) b off v.ownBlock) from V0.out.trans p2 (.inl rfl))
    have HX3 : Hid ((w2.setCell ⟨b, off, none⟩ (.slice (some ⟨g', 0, none⟩) (l.length + 1) cap')).heap[w.heap.size]? = some (.cells #[.int .i64 x1, .int .i64 x2] 165 (0, 0))) := (Below.heap_setCell _ _ _ _ (by show _ ≠ b; omega)).trans HXX.out
    clear HM HO HX HX1 HXX hN h1 h2 h3 p2 p3 p4 hc hc1 V0 hvs
    generalize w2.setCell ⟨b, off, none⟩ (.slice (some ⟨g', 0, none⟩) (l.length + 1) cap') = w3 at *
    obtain ⟨n, HN⟩ : ∃ n, Hid (n = l.length) := ⟨_, rfl⟩
    have HP : Hid (Pil w3 B b off (.slice (some ⟨g', 0, none⟩) (n + 1) cap') (l ++ [(x1, x2)])) := by show Pil _ _ _ _ _ _; rw [HN.out]; exact p1
    have HU : Hid (Up plt (l ++ [(x1, x2)]) n (x1, x2)) := by show Up _ _ _ _; rw [HN.out]; exact Up.start hh _
    have hn : n ≤ 999998 := by rw [HN.out]; exact hl
    have hc := p1.cell
    rw [← HN.out] at hc ⊢
    obtain ⟨xb, HXB⟩ : ∃ xb, Hid (xb = w.heap.size) := ⟨_, rfl⟩
    rw [← HXB.out]
    have hxb : b < xb := by rw [HXB.out]; exact hbl0
    have HX3 : Hid (w3.heap[xb]? = some (.cells #[.int .i64 x1, .int .i64 x2] 165 (0, 0))) := by rw [HXB.out]; exact HX3
    have HGX : Hid (g' ≠ xb) := by rw [HXB.out]; exact HGX
    clear p1 hh hl
    go_wp2_with (fail)
    clear hc
    go_loopw [4] (fun y wr => ∃ (k : Nat) (m : List Pr), y = .int .i64 k ∧ k ≤ n ∧ Hid (m.length = n + 1) ∧ Hid (Pil wr B b off (.slice (some ⟨g', 0, none⟩) (n + 1) cap') m) ∧ Hid (Mv w wr b off v.ownBlock) ∧ Hid (Up plt m k (x1, x2)) ∧ Hid ((m.set k (x1, x2)).Perm (l ++ [(x1, x2)])) ∧ Hid (wr.heap[xb]? = some (.cells #[.int .i64 x1, .int .i64 x2] 165 (0, 0)))) (fun y _ => (intOf y).toNat)
    case atStart => exact ⟨n, l ++ [(x1, x2)], by go_num, Nat.le_refl _, by show _ = _; rw [HN.out]; simp, HP, P2, HU, by show List.Perm _ _; rw [HN.out]; simp, HX3⟩
    case round =>
      clear HP P2 HU HX3
      obtain ⟨k, m, rfl, hk, HL, HP, HV, HU, HR, HX⟩ := hrel
      have hfin : ∀ W, Below wr.heap.size wr W → ∀ e W', e = .returned (.tuple #[]) → W'.heap = ((W.setCell ⟨g', k * 2, none⟩ (.int .i64 x1)).setCell ⟨g', k * 2 + 1, none⟩ (.int .i64 x2)).heap → W'.os = W.os → W'.tape = W.tape → W'.output = W.output → (k = 0 ∨ ∃ y, m[(k - 1) / 2]? = some y ∧ plt (x1, x2) y = false) → PutOut B b off v l (x1, x2) w e W' := by
        intro W bW e W' he hW h1 h2 h3 hs
        obtain ⟨q1, q2⟩ := (HP.out.later bW).set k (x1, x2)
        have q3 : Mv w ((W.setCell ⟨g', k * 2, none⟩ (.int .i64 x1)).setCell ⟨g', k * 2 + 1, none⟩ (.int .i64 x2)) b off v.ownBlock := (HV.out.below bW hbl0).trans q2 (by rcases HW.out with e | e; exact .inl e.symm; exact .inr fun g eg => by cases eg; exact e.1)
        exact ⟨_, _, he, q1.keep (by rw [hW]) (fun _ _ => by rw [hW]), HU.out.stop hs, HR.out.trans List.perm_append_comm, ⟨h1.trans q3.os, h2.trans q3.tape, h3.trans q3.output, by rw [hW]; exact q3.size, fun k a b c => by rw [hW]; exact q3.block k a b c, fun cs t hc => by rw [hW]; exact q3.self cs t hc⟩, by rcases HW.out with e | e; exact .inl e.symm; exact .inr fun g eg => by cases eg; exact e.1⟩
      have HF := (show Hid _ from hfin)
      clear hfin
      have hcell := HP.out.cell
      have hx1 : wr.cell? ⟨xb, 0, none⟩ = some (.int .i64 x1) := by rw [Lib.cell_of_heap HX.out]; rfl
      have hx2 : wr.cell? ⟨xb, 1, none⟩ = some (.int .i64 x2) := by rw [Lib.cell_of_heap HX.out]; rfl
      obtain ⟨-, c1, c2⟩ := HP.out.len
      rcases k with _ | j
      · obtain ⟨y0, hy0⟩ : ∃ y0, m[0]? = some y0 := ⟨_, List.getElem?_eq_getElem (by rw [HL.out]; omega)⟩
        obtain ⟨r1, r2, r3, r4⟩ := HP.out.row hy0
        have r5 := r3 0
        have r6 := r3 1
        simp only [Nat.zero_mul, Nat.zero_add] at r1 r2
        clear hy0 r3
        go_wp2_with (fail)
        go_quiet (fail)
        go_wp2_with (fail)
        go_region
        go_end0
        exact HF.out wr (Below.refl _ _) _ _ rfl rfl rfl rfl rfl (by first | exact .inl rfl | exact .inl trivial)
      · obtain ⟨y0, hy0⟩ : ∃ y0, m[j + 1]? = some y0 := ⟨_, List.getElem?_eq_getElem (by rw [HL.out]; omega)⟩
        obtain ⟨y1, hy1⟩ : ∃ y1, m[j / 2]? = some y1 := ⟨_, List.getElem?_eq_getElem (by rw [HL.out]; omega)⟩
        have HY0 := (show Hid (m[j + 1]? = some y0) from hy0)
        have HY1 := (show Hid (m[j / 2]? = some y1) from hy1)
        obtain ⟨y11, y12⟩ := y1
        obtain ⟨r1, r2, -, -⟩ := HP.out.row hy1
        simp only at r1 r2
        have z0 := cell_regrown hcell
        have z1 := cell_regrown hx1
        have z2 := cell_regrown hx2
        have z3 := cell_regrown r1
        have z4 := cell_regrown r2
        have hm := fun W => method_pair (x1, x2) W
        clear hy0 hy1 hcell hx1 hx2 r1 r2
        have d1 : decide (0 < j + 1) = true := by simp
        have HBX : Hid (∀ W, Below wr.heap.size wr W → W.heap[xb]? = some (.cells #[.int .i64 x1, .int .i64 x2] 165 (0, 0))) := fun W bW => (bW.block xb (Array.getElem?_eq_some_iff.1 HX.out).1).trans HX.out
        cases hb : plt (x1, x2) (y11, y12) with
        | false =>
          have ca : ∀ d os, Calls Try.prog 133 #[pv (x1, x2), pv (y11, y12)] (grow (redrawn wr d) os) fun e w'' => e = .returned (.bool false) ∧ ∃ p : Regrown, w'' = grow (redrawn wr p.d) p.os := fun d os => Calls.regrown_of (hb ▸ ahead_pair x1 x2 y11 y12 _)
          have HB := (show Hid (plt (x1, x2) (y11, y12) = false) from hb)
          clear hb
          go_wp2_with (fail)
          refine wp_region_quiet_below (by kernel_rfl) (by kernel_rfl) ?_
          repeat (go_big_quiet_step (first | (with_reducible exact ca _ _)))
          refine wpQuiet_nil ?_
          intro _ hw'
          obtain ⟨⟨dq, osq⟩, hw''⟩ := hw'
          subst hw''
          have b1 := below_regrown wr dq osq
          clear ca z0 z1 z2 z3 z4 hm
          generalize grow (redrawn wr dq) osq = w5 at *
          have p5 := HP.out.later b1
          have hcell := p5.cell
          obtain ⟨s1, s2, s3, s4⟩ := p5.row HY0.out
          have s5 := s3 ((j + 1) * 2)
          have s6 := s3 ((j + 1) * 2 + 1)
          have hx1 : w5.cell? ⟨xb, 0, none⟩ = some (.int .i64 x1) := by rw [Lib.cell_of_heap (HBX.out w5 b1)]; rfl
          have hx2 : w5.cell? ⟨xb, 1, none⟩ = some (.int .i64 x2) := by rw [Lib.cell_of_heap (HBX.out w5 b1)]; rfl
          clear p5 s3
          go_wp2_with (fail)
          go_region
          go_end0
          exact HF.out w5 b1 _ _ rfl rfl rfl rfl rfl (.inr ⟨_, by simpa using HY1.out, HB.out⟩)
        | true =>
          have ca : ∀ d os, Calls Try.prog 133 #[pv (x1, x2), pv (y11, y12)] (grow (redrawn wr d) os) fun e w'' => e = .returned (.bool true) ∧ ∃ p : Regrown, w'' = grow (redrawn wr p.d) p.os := fun d os => Calls.regrown_of (hb ▸ ahead_pair x1 x2 y11 y12 _)
          have HB := (show Hid (plt (x1, x2) (y11, y12) = true) from hb)
          clear hb
          go_wp2_with (fail)
          refine wp_region_quiet_below (by kernel_rfl) (by kernel_rfl) ?_
          repeat (go_big_quiet_step (first | (with_reducible exact ca _ _)))
          refine wpQuiet_nil ?_
          intro _ hw'
          obtain ⟨⟨dq, osq⟩, hw''⟩ := hw'
          subst hw''
          have b1 := below_regrown wr dq osq
          clear ca z0 z1 z2 z3 z4 hm
          generalize grow (redrawn wr dq) osq = w5 at *
          have p5 := HP.out.later b1
          have hcell := p5.cell
          obtain ⟨s1, s2, s3, s4⟩ := p5.row HY0.out
          obtain ⟨t1, t2, -, -⟩ := p5.row HY1.out
          have s5 := s3 ((j + 1) * 2)
          have s6 := s3 ((j + 1) * 2 + 1)
          have HP5 := (show Hid (Pil w5 B b off (.slice (some ⟨g', 0, none⟩) (n + 1) cap') m) from p5)
          simp only at t1 t2
          clear p5 s3
          go_wp2_with (fail)
          go_region
          go_wp2_with (fail)
          obtain ⟨q1, q2⟩ := HP5.out.set (j + 1) (y11, y12)
          obtain ⟨q3, q4⟩ := HU.out.step plt_ok (by omega) (by simpa using HY1.out) HB.out
          have q5 := (HV.out.below b1 hbl0).trans q2 (by rcases HW.out with e | e; exact .inl e.symm; exact .inr fun g eg => by cases eg; exact e.1)
          go_roundw
          case rel => exact ⟨j / 2, m.set (j + 1) (y11, y12), by go_num, by omega, by show _ = _; simpa using HL.out, q1.keep rfl (fun _ _ => rfl), q5.drew, by show Up _ _ _ _; simpa using q3, by show List.Perm _ _; exact (by simpa using q4 : List.Perm _ _).trans HR.out, by
            have e1 := q2.block xb (Array.getElem?_eq_some_iff.1 (HBX.out w5 b1)).1 (by omega) (fun e => HGX.out (by cases e; rfl))
            exact e1.trans (HBX.out w5 b1)⟩
          case measure => simp [intOf]; omega
  )
end Go.Proofs.Ytmmlibehihknbaa.pp
