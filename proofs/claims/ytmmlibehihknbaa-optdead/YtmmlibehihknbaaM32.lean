/-
  Texts put together: Contracts over this program: opt.partsOf. Contracts over this program: opt.Live; the law OptLive, walked.
-/
import Derived.Test.YtmmlibehihknbaaM26
import Derived.Deep.RegionLaw
namespace Go.Proofs.Ytmmlibehihknbaa.op
open Go.ChangeShapes Go.WideShapes Go.ChangeAt Go.RowKit
open mg (chain below_alloc IntsV Mgs)
open tr (Mc Mp mv MAt)
open ir (Sm SmAt Gs svL SBox Kinds)
set_option linter.unusedVariables false
set_option linter.unusedSimpArgs false
set_option maxRecDepth 100000

theorem info32z : (Try.prog.info? 32).map (fun i => (i.zero, i.size, i.bytes)) = some (some (.agg #[.slice none 0 0, .slice none 0 0, .slice none 0 0, .slice none 0 0]), 4, 96) := by kernel_rfl
/-- parts and the row of machines that grows -/
structure Pt (w : World) (gp : Nat) (l : List Sm) (M : List Value) (vm vd : Value) (i : Nat) (v : Value) (wr : World) : Prop where
  be : Below w.heap.size w wr
  gx : ∃ X : Array Value, wr.heap[gp]? = some (.cells X 87 (0, 0)) ∧ X.size = 519 ∧ X[0]? = some v ∧ (∀ x, x < 256 → X[259 + x]? = M[x]?) ∧ X[515]? = some vm ∧ X[516]? = some vd
  own : wr.ownsRow w.heap.size 32 4 v i (mcells l i)
  lo : w.heap.size ≤ gp
theorem Pt.later {w wr w' : World} {gp : Nat} {l : List Sm} {M : List Value} {vm vd : Value} {i : Nat} {v : Value} (h : Pt w gp l M vm vd i v wr) (b : Below wr.heap.size wr w') : Pt w gp l M vm vd i v w' := by
  obtain ⟨X, h1, h2⟩ := h.gx
  exact ⟨h.be.trans (b.mono h.be.size), ⟨X, (b.block gp (Array.getElem?_eq_some_iff.1 h1).1).trans h1, h2⟩, ow.later h.own b, h.lo⟩
theorem Pt.cell {w wr : World} {gp : Nat} {l : List Sm} {M : List Value} {vm vd : Value} {i : Nat} {v : Value} (h : Pt w gp l M vm vd i v wr) : wr.cell? ⟨gp, 0, none⟩ = some v ∧ wr.frozen? ⟨gp, 0, none⟩ = false := by
  obtain ⟨X, h1, _, h2, _⟩ := h.gx
  exact ⟨by rw [Lib.cell_of_heap h1]; exact h2, Lib.frozen_of_heap h1 0⟩
theorem Pt.put {w wr w1 wz : World} {gp : Nat} {l : List Sm} {M : List Value} {vm vd : Value} {i : Nat} {v : Value} (h : Pt w gp l M vm vd i v wr) (b : Below wr.heap.size wr w1) (hi : i < l.length) {g cap : Nat} (ho : wz.ownsRow w.heap.size 32 4 (.slice (some ⟨g, 0, none⟩) (i + 1) cap) (i + 1) (mcells l i ++ (mv l[i].m l[i].q).toList)) (hg : w1.grownBy wz v.ownBlock) :
    (wz.cell? ⟨gp, 0, none⟩ = some v ∧ wz.frozen? ⟨gp, 0, none⟩ = false) ∧ Pt w gp l M vm vd (i + 1) (.slice (some ⟨g, 0, none⟩) (i + 1) cap) (wz.setCell ⟨gp, 0, none⟩ (.slice (some ⟨g, 0, none⟩) (i + 1) cap)) := by
  obtain ⟨X, h1, h2, h3, h4, h5, h6⟩ := (h.later b).gx
  have hne : some gp ≠ v.ownBlock := ow.type (h.later b).own h1 (by decide)
  have hz : wz.heap[gp]? = some (.cells X 87 (0, 0)) := (hg.block gp (Array.getElem?_eq_some_iff.1 h1).1 hne).trans h1
  refine ⟨⟨by rw [Lib.cell_of_heap hz]; exact h3, Lib.frozen_of_heap hz 0⟩, ?_, ⟨X.setIfInBounds 0 (.slice (some ⟨g, 0, none⟩) (i + 1) cap), ?_, by simp [h2], by simp [Array.getElem?_setIfInBounds, h2], fun x hx => ?_, ?_, ?_⟩, ?_, h.lo⟩
  · exact ((h.later b).be.grown hg (h.later b).be.size (fun k hk => (ow.lt (h.later b).own hk).1)).setCell (p := ⟨gp, 0, none⟩) h.lo _
  · rw [ir.set_heap wz gp _ 87 0 _ hz]
  · rw [Array.getElem?_setIfInBounds, if_neg (by omega)]; exact h4 x hx
  · rw [Array.getElem?_setIfInBounds, if_neg (by omega)]; exact h5
  · rw [Array.getElem?_setIfInBounds, if_neg (by omega)]; exact h6
  · rw [mcells_succ l i hi]
    exact ow.keep ho fun q hq => Below.heap_setCell _ _ _ q (fun e => by
      subst e
      exact ow.type ho hz (by decide) hq.symm)
theorem range_of_own {w : World} {B g n cap : Nat} {xs : List Value} (h : w.ownsRow B 32 4 (.slice (some ⟨g, 0, none⟩) n cap) n xs) : w.rangeAt g 0 xs := by
  intro j v hj
  have hl := (List.getElem?_eq_some_iff.1 hj).1
  have h0 := h.1
  rw [World.ownsRow.cellAt h (0 + j) (by omega), Nat.zero_add]
  exact hj
theorem Pt.done {w wr : World} {gp : Nat} {l : List Sm} {mp : Nat → Nat} {vm vd : Value} {k : Nat} {v : Value} (h : Pt w gp l (ir.mapL mp) vm vd k v wr) (hk : k ≤ l.length) : ∃ mo mc, PB wr gp l k mp vm vd mo mc := by
  obtain ⟨X, h1, h2, h3, h4, h5, h6⟩ := h.gx
  obtain ⟨mo, mc, rfl, f1, f2⟩ := ow.form h.own
  refine ⟨mo, mc, (Array.getElem?_eq_some_iff.1 h1).1, by rw [Lib.cell_of_heap h1]; exact h3, f1, f2, fun i hi hik => ?_, fun x hx => by rw [Lib.cell_of_heap h1]; exact (h4 x hx).trans (ir.mapL_at mp x hx), by rw [Lib.cell_of_heap h1]; exact h5, by rw [Lib.cell_of_heap h1]; exact h6⟩
  have hlen := mcells_len l k hk
  obtain ⟨g, cap, e, hlt, _⟩ := ow.cell h.own 0 (by omega)
  simp only [Value.slice.injEq, true_and] at e
  obtain ⟨rfl, rfl⟩ := e
  refine ⟨g, 0, rfl, hlt, fun j v hj => ?_⟩
  have := range_of_own h.own (i * 4 + j) v (mcells_at l k i hi hk hik j v hj)
  rw [show (0 + (i * 4 + j)) = (0 + i * 4 + j) by omega] at this
  exact this
set_option maxHeartbeats 8000000 in
theorem parts_any (b off cap n k k1 k2 : Nat) (hk : k ≤ 4) (h0 : n = k + 3) (h1 : k1 = k + 1) (h2 : k2 = k + 2) (l : List Sm) (x0 x1 x2 : Sm) (K : Kinds l k x0 x1 x2) (w : World) (h : Gs w (some ⟨b, off, none⟩) cap l) : Calls Try.prog 26 #[.slice (some ⟨b, off, none⟩) n cap] w fun e w' => ∃ gp mo mc, e = .returned (.pointer (some ⟨gp, 0, none⟩)) ∧ PB w' gp l k x0.g.mp x1.p.vm x1.p.vd mo mc ∧ Below w.heap.size w w' := by
  have hlen := K.len
  have hc1 := h.fit
  have hc2 := h.top
  rw [hlen, ← h0] at hc1
  have HS := (show Hid (∀ W, Below w.heap.size w W → ∀ i (hi : i < l.length), W.rangeAt b (off + i * 523) (svL l[i].g l[i].p) ∧ SmAt W l[i]) from fun W k i hi => by
    obtain ⟨b', off', e, _, hr, hs⟩ := (h.later k).lie i hi
    simp at e
    obtain ⟨rfl, rfl⟩ := e
    exact ⟨hr, hs⟩)
  have HT := (show Hid (∀ W, Below w.heap.size w W → ir.Lst W b off k k1 k2 x0 x1 x2) from fun W c => by
    have a0 := HS.out W c k (by omega)
    have a1 := HS.out W c k1 (by omega)
    have a2 := HS.out W c k2 (by omega)
    have e0 := K.e0
    have e1 := K.e1
    have e2 := K.e2
    rw [← h1] at e1
    rw [← h2] at e2
    rw [List.getElem?_eq_getElem (by omega)] at e0 e1 e2
    rw [Option.some.inj e0] at a0
    rw [Option.some.inj e1] at a1
    rw [Option.some.inj e2] at a2
    exact ⟨a0.1, a1.1, a2.1, a0.2, a1.2, a2.2⟩)
  obtain ⟨Z, hZ⟩ : ∃ Z, Z = ir.z39.toArray := ⟨_, rfl⟩
  have hzero : ∀ w, (zeroValue 39).run Try.prog w = .ok (.agg Z) w := by rw [hZ]; exact ir.zero39
  have hzs : Z.size = 523 := by rw [hZ, List.size_toArray]; exact ir.z39_len
  have f0 : ((n : Nat) : Int) - 3 = (k : Int) := by omega
  have hkn : k < n := by omega
  have HLN := (show Hid (l.length = n) from by show _ = _; omega)
  have HL0 := (show Hid (ir.Lst w b off k k1 k2 x0 x1 x2) from HT.out w (Below.refl _ _))
  obtain ⟨Cs, hCs⟩ : ∃ Cs : Nat → Array Value, Cs = fun i => if i = 0 then (svL x0.g x0.p).toArray else if i = 1 then (svL x1.g x1.p).toArray else (svL x2.g x2.p).toArray := ⟨_, rfl⟩
  have E0 : Cs 0 = (svL x0.g x0.p).toArray := by rw [hCs]; rfl
  have E1 : Cs 1 = (svL x1.g x1.p).toArray := by rw [hCs]; rfl
  have E2 : Cs 2 = (svL x2.g x2.p).toArray := by rw [hCs]; rfl
  have s0 : (Cs 0).size = 523 := by rw [E0, List.size_toArray]; exact HL0.out.s0.s.len
  have s1 : (Cs 1).size = 523 := by rw [E1, List.size_toArray]; exact HL0.out.s1.s.len
  have s2 : (Cs 2).size = 523 := by rw [E2, List.size_toArray]; exact HL0.out.s2.s.len
  have o0 : (Cs 0).all (·.oneCell') = true := by rw [E0]; exact HL0.out.s0.s.all
  have o1 : (Cs 1).all (·.oneCell') = true := by rw [E1]; exact HL0.out.s1.s.all
  have o2 : (Cs 2).all (·.oneCell') = true := by rw [E2]; exact HL0.out.s2.s.all
  have HR0 := (show Hid (∀ W, Below w.heap.size w W → W.rangeAt b (off + k * 523) (Cs 0).toList) from fun W c => by rw [E0]; exact (HT.out W c).r0)
  have HR1 := (show Hid (∀ W, Below w.heap.size w W → W.rangeAt b (off + k1 * 523) (Cs 1).toList) from fun W c => by rw [E1]; exact (HT.out W c).r1)
  have HR2 := (show Hid (∀ W, Below w.heap.size w W → W.rangeAt b (off + k2 * 523) (Cs 2).toList) from fun W c => by rw [E2]; exact (HT.out W c).r2)
  have HE := (show Hid (Cs 0 = (svL x0.g x0.p).toArray ∧ Cs 1 = (svL x1.g x1.p).toArray ∧ Cs 2 = (svL x2.g x2.p).toArray) from ⟨E0, E1, E2⟩)
  obtain ⟨mp, hmp⟩ : ∃ mp, mp = x0.g.mp := ⟨_, rfl⟩
  obtain ⟨vm, hvm⟩ : ∃ vm, vm = x1.p.vm := ⟨_, rfl⟩
  obtain ⟨vd, hvd⟩ : ∃ vd, vd = x1.p.vd := ⟨_, rfl⟩
  have HEQ := (show Hid (mp = x0.g.mp ∧ vm = x1.p.vm ∧ vd = x1.p.vd) from ⟨hmp, hvm, hvd⟩)
  rw [← hmp, ← hvm, ← hvd]
  have p1 : k + 1 = k1 := by omega
  have p2 : k + 2 = k2 := by omega
  have p3 : k1 < n := by omega
  have p4 : k2 < n := by omega
  have p5 : k2 ≤ 1000 := by omega
  clear hCs E0 E1 E2 hZ K hlen h hmp hvm hvd h0 h1 h2
  have P := (show Hid (k + 1 = k1 ∧ k + 2 = k2) from ⟨p1, p2⟩)
  clear p1 p2
  go_enter Try.func26, Try.ntmps26
  go_upto_region 2 with (fail)
  refine regP rfl ⟨b, off, n, cap, k, k1, k2⟩ Cs Z rfl rfl P.out.1 P.out.2 p5 hkn p3 p4 s0 s1 s2 o0 o1 o2 hzero hzs HR0.out HR1.out HR2.out ?_
  intro vals g0 g1 g2 w3 hb3 v14 v15 v16 a0 a1 a2 hx
  have e0 : vals 0 = .slice (some ⟨b, off, none⟩) n cap := hx 0 (by decide) _ rfl
  have e1 : vals 1 = .int .i64 (k : Int) := hx 1 (by decide) _ rfl
  have e2 : vals 2 = .pointer (some ⟨b, off + k * 523, none⟩) := hx 2 (by decide) _ rfl
  have e3 : vals 3 = .agg (Cs 0) := hx 3 (by decide) _ rfl
  have e4 : vals 4 = .slice (some ⟨b, off, none⟩) n cap := hx 4 (by decide) _ rfl
  have e5 : vals 5 = .int .i64 (k : Int) := hx 5 (by decide) _ rfl
  have e6 : vals 6 = .int .i64 (k1 : Int) := hx 6 (by decide) _ rfl
  have e7 : vals 7 = .pointer (some ⟨b, off + k1 * 523, none⟩) := hx 7 (by decide) _ rfl
  have e8 : vals 8 = .agg (Cs 1) := hx 8 (by decide) _ rfl
  have e9 : vals 9 = .slice (some ⟨b, off, none⟩) n cap := hx 9 (by decide) _ rfl
  have e10 : vals 10 = .int .i64 (k : Int) := hx 10 (by decide) _ rfl
  have e11 : vals 11 = .int .i64 (k2 : Int) := hx 11 (by decide) _ rfl
  have e12 : vals 12 = .pointer (some ⟨b, off + k2 * 523, none⟩) := hx 12 (by decide) _ rfl
  have e13 : vals 13 = .agg (Cs 2) := hx 13 (by decide) _ rfl
  rw [foldP]
  rw [e0, e1, e2, e3, e4, e5, e6, e7, e8, e9, e10, e11, e12, e13, v14, v15, v16]
  simp only [Act.put, List.setIfInBounds_toArray, List.set_cons_zero, List.set_cons_succ]
  have hbx0 : SBox w3 g0 x0.g x0.p := by unfold SBox; rw [a0, HE.out.1]
  have hbx1 : SBox w3 g1 x1.g x1.p := by unfold SBox; rw [a1, HE.out.2.1]
  have hbx2 : SBox w3 g2 x2.g x2.p := by unfold SBox; rw [a2, HE.out.2.2]
  have hL3 := HT.out w3 hb3
  have r5 := hbx0.rcs hL3.s0.s
  have r263 := hbx0.rmp hL3.s0.s
  obtain ⟨q519, q520, _, _⟩ := hbx1.last hL3.s1.s
  obtain ⟨_, _, q521, q522⟩ := hbx2.last hL3.s2.s
  have hD : x0.p.cs.toList.length = 258 := by rw [Array.length_toList]; exact hL3.s0.s.d.size
  have hM : (ir.mapL x0.g.mp).length = 256 := ir.mapL_len _
  obtain ⟨X, hX, hPC⟩ := built87 x0.p.cs.toList (ir.mapL x0.g.mp) hD hM x1.p.vm x1.p.vd x2.p.vb x2.p.va (by obtain ⟨o, c, e, _⟩ := hL3.s1.s.ms.form; exact ⟨o, _, c, e⟩) (by obtain ⟨o, c, e, _⟩ := hL3.s1.s.dr; exact ⟨o, _, c, e⟩) (by obtain ⟨o, c, e, _⟩ := hL3.s2.s.bf; exact ⟨o, _, c, e⟩) (by obtain ⟨o, c, e, _⟩ := hL3.s2.s.af; exact ⟨o, _, c, e⟩)
  have i1 : (Try.prog.info? 36).map (·.size) = some x0.p.cs.toList.length := by rw [hD]; exact ir.info36
  have i2 : (Try.prog.info? 33).map (·.size) = some (ir.mapL x0.g.mp).length := by rw [hM]; exact ir.info33
  have HPT0 := (show Hid (Pt w w3.heap.size l (ir.mapL x0.g.mp) x1.p.vm x1.p.vd 0 (.slice none 0 0) (w3.alloc (.cells X 87))) from
    ⟨hb3.alloc hb3.size _, ⟨X, heap_alloc_new w3 _, hPC.size, hPC.c0, hPC.tos, hPC.mg, hPC.dr⟩, ow.nil _ _ _ _, hb3.size⟩)
  rw [← HEQ.out.1] at HPT0 r263 hX i2
  rw [← HEQ.out.2.1] at HPT0 hX q519
  rw [← HEQ.out.2.2] at HPT0 hX q520
  generalize x2.p.vb = vb at *
  generalize x2.p.va = va at *
  obtain ⟨D, hDD⟩ : ∃ D, D = x0.p.cs.toList := ⟨_, rfl⟩
  obtain ⟨M, hMM⟩ : ∃ M, M = ir.mapL mp := ⟨_, rfl⟩
  rw [← hDD] at r5 hX i1
  rw [← hMM] at r263 hX i2 HPT0
  have HMM := (show Hid (M = ir.mapL mp) from hMM)
  obtain ⟨gp, hgp⟩ : ∃ gp, gp = w3.heap.size := ⟨_, rfl⟩
  have HGP := (show Hid (gp = w3.heap.size) from hgp)
  rw [← hgp] at HPT0
  have hkc : (k : Int) ≤ (cap : Int) := by omega
  have hkl : k ≤ l.length := by rw [HLN.out]; omega
  clear e0 e1 e2 e3 e4 e5 e6 e7 e8 e9 e10 e11 e12 e13 v14 v15 v16 hx a0 a1 a2 hbx0 hbx1 hbx2 hL3 hD hM hPC hDD hMM hgp s0 s1 s2 o0 o1 o2 HR0 HR1 HR2 HE hb3
  go_upto_region 4 with (first | (refine wpList_load_mid rfl 36 (.tmp 27) rfl g0 5 rfl D _ r5 Try.underlying36 rfl i1 ?_) | (refine wpList_load_mid rfl 33 (.tmp 29) rfl g0 263 rfl M _ r263 Try.underlying33 rfl i2 ?_) | (refine wpList_build87 rfl (.tmp 28) (.tmp 30) (.tmp 32) (.tmp 34) (.tmp 36) (.tmp 38) rfl (.agg D.toArray) (.agg M.toArray) vm vd vb va rfl rfl rfl rfl rfl rfl X hX ?_) | (refine wp_build87 (.tmp 28) (.tmp 30) (.tmp 32) (.tmp 34) (.tmp 36) (.tmp 38) rfl (.agg D.toArray) (.agg M.toArray) vm vd vb va rfl rfl rfl rfl rfl rfl X hX ?_))
  rw [← HGP.out]
  generalize w3.alloc (.cells X 87) = w4 at *
  clear r5 r263 i1 i2 hX q519 q520 q521 q522
  go_wp2_with (fail)
  go_loopw [45] (fun y wr => ∃ (i : Nat) (v : Value), y = .int .i64 (i : Int) ∧ i ≤ k ∧ Hid (Pt w gp l M vm vd i v wr)) (fun y _ => k - (intOf y).toNat)
  case atStart => exact ⟨0, _, rfl, by omega, HPT0⟩
  case round =>
    clear HPT0
    obtain ⟨i, v, rfl, hi, HP⟩ := hrel
    by_cases hend : i < k
    · have hil : i < l.length := by omega
      have hin : i < n := by omega
      obtain ⟨hrg, hsm⟩ := HS.out wr HP.out.be i hil
      have hs := hsm.s
      obtain ⟨W3, hW3, hbx, b3⟩ := ir.stage_new wr Z hs
      have hl1 := ir.info39c hs
      have hl2 := ir.info39a hs
      have hone := hs.all
      have hold : Z.size = (svL l[i].g l[i].p).toArray.size := by rw [hzs, List.size_toArray, hs.len]
      have hnew := World.alloc_heap_new wr (.cells Z 39)
      have hmc := hbx.rmc (hs.later b3)
      rw [hsm.e] at hmc
      obtain ⟨m0, m1, m2, m3⟩ := ir.mc_cells hmc
      have hP3 := HP.out.later b3
      obtain ⟨qc, qf⟩ := hP3.cell
      obtain ⟨vo, vc, rfl, vf1, vf2⟩ := ow.form HP.out.own
      have hmv : (mv l[i].m l[i].q).toList = [.slice l[i].q.no l[i].m.next.length l[i].q.nc, .slice l[i].q.po l[i].m.put.length l[i].q.pc, .slice l[i].q.eo l[i].m.fin.length l[i].q.ec, .slice l[i].q.xo l[i].m.txt.length l[i].q.xc] := rfl
      have HPUT := (show Hid (∀ (w1 wz : World) (g cap : Nat), Below W3.heap.size W3 w1 → wz.ownsRow w.heap.size 32 4 (.slice (some ⟨g, 0, none⟩) (i + 1) cap) (i + 1) (mcells l i ++ (mv l[i].m l[i].q).toList) → w1.grownBy wz (Value.slice vo i vc).ownBlock → (wz.cell? ⟨gp, 0, none⟩ = some (.slice vo i vc) ∧ wz.frozen? ⟨gp, 0, none⟩ = false) ∧ Pt w gp l M vm vd (i + 1) (.slice (some ⟨g, 0, none⟩) (i + 1) cap) (wz.setCell ⟨gp, 0, none⟩ (.slice (some ⟨g, 0, none⟩) (i + 1) cap))) from fun w1 wz g cap hb ho hg => hP3.put hb hil ho hg)
      rw [hmv] at HPUT
      generalize l[i].m.next.length = n0 at *
      generalize l[i].m.put.length = n1 at *
      generalize l[i].m.fin.length = n2 at *
      generalize l[i].m.txt.length = n3 at *
      generalize hCL : svL l[i].g l[i].p = CL at *
      generalize l[i].q = q at *
      have HO : Hid ((W3.alloc (.cells #[.slice q.no n0 q.nc, .slice q.po n1 q.pc, .slice q.eo n2 q.ec, .slice q.xo n3 q.xc] 32)).drew.ownsRow w.heap.size 32 4 (.slice vo i vc) i (mcells l i)) := (hP3.own.alloc _).drew
      have HN : Hid (∀ j u, [Value.slice q.no n0 q.nc, .slice q.po n1 q.pc, .slice q.eo n2 q.ec, .slice q.xo n3 q.xc][j]? = some u → (W3.alloc (.cells #[.slice q.no n0 q.nc, .slice q.po n1 q.pc, .slice q.eo n2 q.ec, .slice q.xo n3 q.xc] 32)).drew.cell? ((⟨W3.heap.size, 0, none⟩ : Addr).add j) = some u) := fun j u hj => by
        have ad : ((⟨W3.heap.size, 0, none⟩ : Addr).add j) = ⟨W3.heap.size, j, none⟩ := by unfold Addr.add; simp; omega
        rw [ad]
        show (W3.alloc _).cell? _ = _
        rw [Lib.cell_of_heap (World.alloc_heap_new W3 _), List.getElem?_toArray]
        exact hj
      have HONE : Hid (∀ u ∈ [Value.slice q.no n0 q.nc, .slice q.po n1 q.pc, .slice q.eo n2 q.ec, .slice q.xo n3 q.xc], u.oneCell' = true) := fun u hu => by
        simp only [List.mem_cons, List.not_mem_nil, or_false] at hu
        rcases hu with rfl | rfl | rfl | rfl <;> rfl
      have HBw : Hid (w.heap.size ≤ (W3.alloc (.cells #[.slice q.no n0 q.nc, .slice q.po n1 q.pc, .slice q.eo n2 q.ec, .slice q.xo n3 q.xc] 32)).drew.heap.size) := Nat.le_trans hP3.be.size (by show _ ≤ (W3.alloc _).heap.size; simp)
      have HBD : Hid (Below W3.heap.size W3 (W3.alloc (.cells #[.slice q.no n0 q.nc, .slice q.po n1 q.pc, .slice q.eo n2 q.ec, .slice q.xo n3 q.xc] 32)).drew) := ((Below.refl _ W3).alloc (Nat.le_refl _) _).drew
      have qc2 : (W3.alloc (.cells #[.slice q.no n0 q.nc, .slice q.po n1 q.pc, .slice q.eo n2 q.ec, .slice q.xo n3 q.xc] 32)).cell? ⟨gp, 0, none⟩ = some (.slice vo i vc) := (hP3.later (below_alloc W3 _)).cell.1
      clear hs hsm b3 hCL hbx hmc hmv hP3 HP hil
      go_upto_region 7 with (first | (refine wpList_load_mid rfl 39 (.tmp 47) rfl b (off + i * 523) rfl CL _ hrg Try.underlying39 rfl hl1 ?_) | (refine wpList_store_row rfl 39 (.tmp 9) (.tmp 48) rfl wr.heap.size CL.toArray rfl rfl 39 Z hnew hl2 hold hone ?_; rw [hW3]))
      clear hW3 hrg hl1 hl2 hone hold hnew
      go_region_law (refine ow.step_append (by rfl) (.tmp 53) (.tmp 56) 85 (by rfl) 32 (.agg #[.slice none 0 0, .slice none 0 0, .slice none 0 0, .slice none 0 0]) 4 96 Try.underlying85 info32z rfl (by omega) (by omega) w.heap.size (.slice vo i vc) i (mcells l i) W3.heap.size [.slice q.no n0 q.nc, .slice q.po n1 q.pc, .slice q.eo n2 q.ec, .slice q.xo n3 q.xc] (by rfl) (by rfl) HO.out rfl HN.out HONE.out (by omega) HBw.out ?_; intro g' cap' wz h1 h2 h3; obtain ⟨⟨p1, p2⟩, p4⟩ := HPUT.out _ wz g' cap' HBD.out h1 h2)
      all_goals
        have HP4 := (show Hid _ from p4)
        clear HO HN HONE HBw HBD HPUT h1 h2 h3 p1 p2 p4 m0 m1 m2 m3 qc qc2 qf
        go_wp2_with (fail)
        go_roundw
        case rel => exact ⟨i + 1, _, by go_num, by omega, HP4⟩
        case measure => simp [intOf]; omega
    · have HD := (show Hid (∃ mo mc, PB wr gp l k mp vm vd mo mc) from by
        have hie : i = k := by omega
        rw [hie, HMM.out] at HP
        exact HP.out.done hkl)
      have HBW := (show Hid (Below w.heap.size w wr) from HP.out.be)
      clear HP
      go_wp2_with (fail)
      go_ret
      obtain ⟨mo, mc, hpb⟩ := HD.out
      exact ⟨gp, mo, mc, rfl, hpb, HBW.out⟩
end Go.Proofs.Ytmmlibehihknbaa.op

namespace Go.Proofs.Ytmmlibehihknbaa.op
open Go.ChangeShapes Go.WideShapes Go.ChangeAt Go.RowKit
open mg (chain below_alloc IntsV Mgs)
open tr (Mc Mp mv MAt Right)
open ir (Sm SmAt Gs svL SBox Kinds rightL)
set_option linter.unusedVariables false
set_option linter.unusedSimpArgs false
set_option maxRecDepth 100000

theorem cm_0 (l : List Sm) : cmB l 0 = fun _ => true := funext fun b => rfl
theorem cm_k {l : List Sm} {k' : Nat} (h : k' < l.length) : cmB l (k' + 1) = putsB l[k'].m := funext fun b => by
  show (l[k']?.map fun x => putsB x.m b).getD true = _
  rw [List.getElem?_eq_getElem h]
  rfl
theorem comes_any {l : List Sm} {k : Nat} {x0 x1 x2 : Sm} (K : Kinds l k x0 x1 x2) {w : World} (hsm : ∀ i (hi : i < l.length), SmAt w l[i]) {gp : Nat} {mp : Nat → Nat} {vm vd : Value} {mo : Option Addr} {mc : Nat} (hP : PB w gp l k mp vm vd mo mc) : Calls Try.prog 35 #[.pointer (some ⟨gp, 0, none⟩)] w (CsOut (cmB l k) w) := by
  have hlen := K.len
  match k, K, hP, hlen with
  | 0, K, hP, hlen =>
    rw [cm_0]
    exact comes_0 gp w mo mc hP.c0 hP.lt
  | k' + 1, K, hP, hlen =>
    have hi : k' < l.length := by omega
    obtain ⟨bm, boff, e, hb, hr⟩ := hP.ms k' hi (by omega)
    have c0 := hP.c0
    rw [e] at c0
    rw [cm_k hi]
    exact comes_k gp (k' + 1) k' rfl w bm boff mc hP.fit hP.top c0 hP.lt hb l[k'].m l[k'].q hr (tr.right_iff.1 (K.ms k' hi (by omega)).2) (hsm k' hi).m
theorem coming_any {l : List Sm} {k n b off cap : Nat} {x0 x1 x2 : Sm} (K : Kinds l k x0 x1 x2) (hn : n = k + 3) {w : World} (h : Gs w (some ⟨b, off, none⟩) cap l) : Calls Try.prog 28 #[.slice (some ⟨b, off, none⟩) n cap] w (CmOut (cmB l k) w) := by
  have hlen := K.len
  have hc1 := h.fit
  have hc2 := h.top
  have HS : ∀ W, Below w.heap.size w W → ∀ i (hi : i < l.length), W.rangeAt b (off + i * 523) (svL l[i].g l[i].p) ∧ SmAt W l[i] := fun W k i hi => by
    obtain ⟨b', off', e, _, hr, hs⟩ := (h.later k).lie i hi
    simp at e
    obtain ⟨rfl, rfl⟩ := e
    exact ⟨hr, hs⟩
  match k, K, hlen, hn with
  | 0, K, hlen, hn =>
    subst hn
    rw [cm_0]
    exact coming_0 _ cap w
  | k' + 1, K, hlen, hn =>
    have hi : k' < l.length := by omega
    rw [cm_k hi]
    exact coming_k b off cap n (k' + 1) k' hn rfl (by omega) hc2 l[k'] (tr.right_iff.1 (K.ms k' hi (by omega)).2) w fun W c => HS W c k' hi
/-- the live ids of stages -/
def liveOf (l : List Sm) (k : Nat) (x0 x1 : Sm) : List Bool := lvL (cmB l k) x0.g.mp x1.g.ms x1.g.dr x1.g.ms.length
theorem drop_len {d : List Int} {n : Nat} : ∀ {least : Int}, hp.numB least n d = true → 0 ≤ least → (d.length : Int) ≤ (n : Int) - least ∨ d = [] := by
  induction d with
  | nil => intro least _ _; exact .inr rfl
  | cons x d ih =>
    intro least h hl
    unfold hp.numB at h
    split at h
    · cases h
    · rename_i h1
      rcases ih h (by omega) with h2 | h2
      · left; simp; omega
      · left; subst h2; simp; omega
set_option maxHeartbeats 4000000 in
theorem live_not (o : Option Addr) (cap : Nat) (l : List Sm) (w : World) (h : Gs w o cap l) (hr : rightL l = false) : Calls Try.prog 12 #[.slice o l.length cap] w fun e w' => e = .returned (.tuple #[.slice none 0 0, .int .i64 190]) ∧ Below w.heap.size w w' := by
  have c6 := ir.right_all o cap l w h
  rw [hr] at c6
  clear h hr
  generalize l.length = n at *
  go_enter Try.func12, Try.ntmps12
  go_wp2_with (fail)
  go_at_call 6
  refine c6.mono ?_
  rintro e w1 ⟨rfl, b1⟩
  clear c6
  go_wp2_with (fail)
  go_ret2
  exact ⟨rfl, b1⟩
set_option maxHeartbeats 4000000 in
theorem live_yes (b off cap n k : Nat) (hk : k ≤ 4) (hn : n = k + 3) (l : List Sm) (x0 x1 x2 : Sm) (K : Kinds l k x0 x1 x2) (w : World) (h : Gs w (some ⟨b, off, none⟩) cap l) (hr : rightL l = true) : Calls Try.prog 12 #[.slice (some ⟨b, off, none⟩) n cap] w fun e w' => ∃ v, e = .returned (.tuple #[v, .int .i64 0]) ∧ OwnB w' w.heap.size v (liveOf l k x0 x1) ∧ Below w.heap.size w w' := by
  have hlen := K.len
  have c6 := ir.right_all _ cap l w h
  rw [hr, hlen, ← hn] at c6
  have H26 := (show Hid (∀ W, Below w.heap.size w W → Calls Try.prog 26 #[.slice (some ⟨b, off, none⟩) n cap] W fun e w' => ∃ gp mo mc, e = .returned (.pointer (some ⟨gp, 0, none⟩)) ∧ PB w' gp l k x0.g.mp x1.p.vm x1.p.vd mo mc ∧ Below W.heap.size W w') from fun W c => parts_any b off cap n k (k + 1) (k + 2) hk hn rfl rfl l x0 x1 x2 K W (h.later c))
  obtain ⟨herr, hnb⟩ := (ir.newE_0 _ _).1 K.r1
  have hSM : ∀ W, Below w.heap.size w W → ∀ i (hi : i < l.length), SmAt W l[i] := fun W c i hi => by
    obtain ⟨_, _, _, _, _, hs⟩ := (h.later c).lie i hi
    exact hs
  have h1024 := (mg.ok_run herr).1
  have hdl : x1.g.dr.length ≤ 100000 := by
    rcases drop_len hnb (by omega) with h2 | h2
    · omega
    · rw [h2]; simp
  have H27 := (show Hid (∀ W gp mo mc, Below w.heap.size w W → PB W gp l k x0.g.mp x1.p.vm x1.p.vd mo mc → Calls Try.prog 27 #[.pointer (some ⟨gp, 0, none⟩)] W fun e w' => ∃ v, e = .returned v ∧ OwnB w' W.heap.size v (liveOf l k x0 x1) ∧ Below W.heap.size W w') from fun W gp mo mc c hP => by
    have hx1 : SmAt W x1 := by
      have := hSM W c (k + 1) (by omega)
      rwa [ir.at_k (by omega) K.e1] at this
    have hx0 : SmAt W x0 := by
      have := hSM W c k (by omega)
      rwa [ir.at_k (by omega) K.e0] at this
    exact live_any gp l k x0.g.mp x1.p.vm x1.p.vd mo mc x1.g.ms x1.g.dr (cmB l k) W hP hx1.s.ms hx1.s.dr hnb hdl herr (fun x _ => hx0.s.mp x) fun W' c' => comes_any K (hSM W' (chain c c')) (hP.later c'))
  clear h hr K hlen hSM hnb hdl herr h1024 hn
  go_enter Try.func12, Try.ntmps12
  go_wp2_with (fail)
  go_at_call 6
  refine c6.mono ?_
  rintro e w1 ⟨rfl, b1⟩
  have c26 := H26.out w1 b1
  have HB1 := (show Hid (Below w.heap.size w w1) from b1)
  clear c6 b1
  go_wp2_with (fail)
  go_at_call 26
  refine c26.mono ?_
  rintro e w2 ⟨gp, mo, mc, rfl, hP, b2⟩
  have c27 := H27.out w2 gp mo mc (chain HB1.out b2) hP
  have HB2 := (show Hid (Below w.heap.size w w2) from chain HB1.out b2)
  clear c26 b2 hP
  go_wp2_with (fail)
  go_at_call 27
  refine c27.mono ?_
  rintro e w3 ⟨v, rfl, hv, b3⟩
  have HV := (show Hid (OwnB w3 w.heap.size v (liveOf l k x0 x1)) from pc.base_down hv HB2.out.size)
  have HB3 := (show Hid (Below w.heap.size w w3) from chain HB2.out b3)
  clear c27 hv b3
  go_wp2_with (fail)
  go_ret2
  exact ⟨v, rfl, HV.out, HB3.out⟩
set_option maxHeartbeats 4000000 in
theorem optlive_no (o : Option Addr) (cap : Nat) (l : List Sm) (w : World) (h : Gs w o cap l) (hr : rightL l = false) : Calls Try.prog 4 #[.slice o l.length cap] w fun e w' => e = .returned (.bool true) ∧ Below w.heap.size w w' := by
  have c12 := live_not o cap l w h hr
  have H7 := (show Hid (∀ W, Below w.heap.size w W → Calls Try.prog 7 #[.slice o l.length cap] W fun e w' => e = .returned (.bool false) ∧ Below W.heap.size W w') from fun W c => by rw [← hr]; exact ir.rright_all o cap l W (h.later c))
  clear h hr
  generalize l.length = n at *
  go_enter Try.func4, Try.ntmps4
  go_wp2_with (fail)
  go_at_call 12
  refine c12.mono ?_
  rintro e w1 ⟨rfl, b1⟩
  have c7 := H7.out w1 b1
  have HB1 := (show Hid (Below w.heap.size w w1) from b1)
  clear c12 b1
  go_wp2_with (fail)
  go_at_call 7
  refine c7.mono ?_
  rintro e w2 ⟨rfl, b2⟩
  have HB2 := (show Hid (Below w.heap.size w w2) from chain HB1.out b2)
  clear c7 b2
  go_wp2_with (fail)
  go_ret
  exact ⟨rfl, HB2.out⟩
set_option maxHeartbeats 4000000 in
theorem optlive_yes (b off cap n k : Nat) (hk : k ≤ 4) (hn : n = k + 3) (l : List Sm) (x0 x1 x2 : Sm) (K : Kinds l k x0 x1 x2) (w : World) (h : Gs w (some ⟨b, off, none⟩) cap l) (hr : rightL l = true) : Calls Try.prog 4 #[.slice (some ⟨b, off, none⟩) n cap] w fun e w' => e = .returned (.bool true) ∧ Below w.heap.size w w' := by
  have hlen := K.len
  have hc1 := h.fit
  have hc2 := h.top
  have c12 := live_yes b off cap n k hk hn l x0 x1 x2 K w h hr
  have H7 := (show Hid (∀ W, Below w.heap.size w W → Calls Try.prog 7 #[.slice (some ⟨b, off, none⟩) n cap] W fun e w' => e = .returned (.bool true) ∧ Below W.heap.size W w') from fun W c => by
    have := ir.rright_all _ cap l W (h.later c)
    rw [hr, hlen, ← hn] at this
    exact this)
  obtain ⟨herr, hnb⟩ := (ir.newE_0 _ _).1 K.r1
  have h1024 := (mg.ok_run herr).1
  have HS : ∀ W, Below w.heap.size w W → ∀ i (hi : i < l.length), W.rangeAt b (off + i * 523) (svL l[i].g l[i].p) ∧ SmAt W l[i] := fun W k i hi => by
    obtain ⟨b', off', e, _, hr, hs⟩ := (h.later k).lie i hi
    simp at e
    obtain ⟨rfl, rfl⟩ := e
    exact ⟨hr, hs⟩
  have H13 := (show Hid (∀ W, Below w.heap.size w W → Calls Try.prog 13 #[.slice (some ⟨b, off, none⟩) n cap] W (LvOut (fin (cmB l k) x0.g.mp x1.g.ms x1.g.dr) x1.g.ms.length W)) from fun W c => rlive_any b off cap n k (k + 1) hn rfl (by omega) hc2 x0 x1 (cmB l k) W (fun W' c' => by
    have a0 := HS W' (chain c c') k (by omega)
    have a1 := HS W' (chain c c') (k + 1) (by omega)
    rw [ir.at_k (by omega) K.e0] at a0
    rw [ir.at_k (by omega) K.e1] at a1
    exact ⟨a0.1, a0.2, a1.1, a1.2⟩) herr fun W' c' => coming_any K hn (h.later (chain c c')))
  obtain ⟨L, hL⟩ : ∃ L, L = liveOf l k x0 x1 := ⟨_, rfl⟩
  obtain ⟨F, hF⟩ : ∃ F, F = fin (cmB l k) x0.g.mp x1.g.ms x1.g.dr := ⟨_, rfl⟩
  have HLL := (show Hid (L.length = 256 + x1.g.ms.length) from by show _ = _; rw [hL]; exact lvL_len _ _ _ _ _)
  have HLF := (show Hid (∀ i (hi : i < L.length), L[i] = F i) from fun i hi => by
    rw [hF]
    unfold fin
    have e : L = lvL (cmB l k) x0.g.mp x1.g.ms x1.g.dr x1.g.ms.length := hL
    rw [← e, List.getD_eq_getElem?_getD, List.getElem?_eq_getElem hi]
    rfl)
  rw [← hF] at H13
  rw [← hL] at c12
  generalize x1.g.ms.length = nm at *
  clear h hr K hlen hnb herr hn hL hF HS
  go_enter Try.func4, Try.ntmps4
  go_wp2_with (fail)
  go_at_call 12
  refine c12.mono ?_
  rintro e w1 ⟨v, rfl, hv, b1⟩
  have c7 := H7.out w1 b1
  have HB1 := (show Hid (Below w.heap.size w w1) from b1)
  have HV1 := (show Hid (OwnB w1 w.heap.size v L) from hv)
  clear c12 b1 hv
  go_wp2_with (fail)
  go_at_call 7
  refine c7.mono ?_
  rintro e w2 ⟨rfl, b2⟩
  have HB2 := (show Hid (Below w.heap.size w w2) from chain HB1.out b2)
  have HV2 := (show Hid (OwnB w2 w.heap.size v L) from ow.later HV1.out b2)
  have c13 := H13.out w2 HB2.out
  clear c7 b2 HV1
  go_wp2_with (fail)
  go_at_call 13
  refine c13.mono ?_
  rintro e w3 ⟨g, rfl, hF3, _, b3⟩
  have HB3 := (show Hid (Below w.heap.size w w3) from chain HB2.out b3)
  have HV3 := (show Hid (OwnB w3 w.heap.size v L) from ow.later HV2.out b3)
  have HF3 := (show Hid (FRow w3 g 3 (256 + nm) (fi F)) from hF3)
  obtain ⟨vo, vc, hve, _, _⟩ := ow.form HV3.out
  rw [HLL.out] at hve
  subst hve
  clear c13 b3 hF3 HV2
  go_wp2_with (fail)
  go_loopw [36] (fun y wr => ∃ i : Nat, y = .int .i64 (i : Int) ∧ i ≤ 256 + nm ∧ wr = w3) (fun y _ => (256 + nm) - (intOf y).toNat)
  case atStart => exact ⟨0, rfl, by omega, rfl⟩
  case round =>
    obtain ⟨i, rfl, hi, rfl⟩ := hrel
    by_cases hin : i < 256 + nm
    · have hil : i < L.length := by rw [HLL.out]; exact hin
      have q1 := HF3.out.cell hin
      obtain ⟨g2, c2, e2, q2⟩ := HV3.out.at i hil
      simp only [Value.slice.injEq] at e2
      obtain ⟨rfl, -, -⟩ := e2
      rw [HLF.out i hil] at q2
      have hii : (i : Int) < (256 : Int) + (nm : Int) := by omega
      unfold fi at q1
      generalize F i = x at *
      cases x
      · simp only [Bool.false_eq_true, if_false] at q1
        go_wp2_with (fail)
        go_roundw
        case rel => exact ⟨i + 1, by go_num, by omega, trivial⟩
        case measure => simp [intOf]; omega
      · simp only [if_true] at q1
        go_wp2_with (fail)
        go_roundw
        case rel => exact ⟨i + 1, by go_num, by omega, trivial⟩
        case measure => simp [intOf]; omega
    · have hii : ¬ (i : Int) < (256 : Int) + (nm : Int) := by omega
      go_wp2_with (fail)
      go_ret
      exact ⟨rfl, HB3.out⟩
theorem optlive_any (o : Option Addr) (cap : Nat) (l : List Sm) (w : World) (h : Gs w o cap l) : Calls Try.prog 4 #[.slice o l.length cap] w fun e w' => e = .returned (.bool true) ∧ Below w.heap.size w w' := by
  cases hr : rightL l
  · exact optlive_no o cap l w h hr
  · obtain ⟨k, x0, x1, x2, hk, K⟩ := ir.kinds_good hr
    have hlen := K.len
    obtain ⟨b, off, rfl, _, _⟩ := h.row (by omega)
    exact optlive_yes b off cap l.length k hk hlen l x0 x1 x2 K w h hr
end Go.Proofs.Ytmmlibehihknbaa.op
