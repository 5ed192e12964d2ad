/-
  Contracts over this program: a state is left (maker[string].leave).
-/
import Derived.Test.YtlmodfeiphffcaaKSl
namespace Go.Proofs.Ytlmodfeiphffcaa.ms
open Go.ChangeShapes Go.WideShapes Go.ChangeAt Go.RowKit Go.Shelf Go.Maps
open tr
open mk (Kv kcells svs rcs MapN mapN_nil map_keep own_ne own_cells law9 zero3 OkT kt key9 kt_inj look83 info9)
open wr (Gw BufG Rw)
open ru (Ru)
set_option linter.unusedVariables false
set_option linter.unusedSimpArgs false

theorem KI.offC {B kb : Nat} {f0 f1 : Value} {q : Kv} {d : Kq} {W : World} (k : KI B kb f0 f1 q d W) {g : Nat} {cs : Array Value} {T : TypeId} {fr : Nat × Nat} (hg : W.heap[g]? = some (.cells cs T fr)) (h1 : T ≠ 103) (h2 : T ≠ 9) (h3 : T ≠ 23) (h4 : T ≠ 3) : ¬ Fp kb q d g := by
  have hc := k.cells hg
  rintro (h | h | h | h | h | h | h | h | ⟨x, hx, h⟩)
  · exact hc.2.2 h1 h
  · exact hc.1 h
  · exact hc.2.1 h
  · exact ow.type k.os hg h2 h.symm
  · exact ow.type k.o0 hg h3 h.symm
  · exact ow.type k.o1 hg h3 h.symm
  · exact ow.type k.o2 hg h4 h.symm
  · exact ow.type k.o3 hg h2 h.symm
  · have hi : ∃ l, IRow W x.1 l := by
      rcases List.mem_append.1 hx with hx | hx
      · exact ⟨_, k.i0 x hx⟩
      · exact ⟨_, k.i1 x hx⟩
    obtain ⟨l, hi⟩ := hi
    unfold IRow at hi
    rw [h, hg] at hi
    cases hi
    exact h4 rfl
theorem rw_fp {B kb cb : Nat} {l : List Ru} {lv : Value} {sm fm : Nat} {f0 f1 : Value} {q : Kv} {d : Kq} {W W' : World} (h : Rw B cb l lv sm fm W) (k : KI B kb f0 f1 q d W) (ns : sm ≠ q.nm ∧ sm ≠ q.tm) (nf : fm ≠ q.nm ∧ fm ≠ q.tm) (hb : Below B W W') (off : ∀ g, g < W.heap.size → ¬ Fp kb q d g → W'.heap[g]? = W.heap[g]?) : Rw B cb l lv sm fm W' := by
  obtain ⟨a1, a2, a3⟩ := h.sobj
  obtain ⟨c1, c2, c3⟩ := h.fobj
  exact h.keep hb (off _ h.rl (k.offC h.box (by decide) (by decide) (by decide) (by decide))) (off _ (Array.getElem?_eq_some_iff.1 a3).1 (k.offM a3 ns.1 ns.2)) (off _ (Array.getElem?_eq_some_iff.1 c3).1 (k.offM c3 nf.1 nf.2))
set_option maxHeartbeats 8000000 in
set_option maxRecDepth 100000 in
theorem leave_any {l : List Ru} (hg : ru.Good l) {B kb cb : Nat} {lv : Value} {sm fm : Nat} {q : Kv} {d : Kq} {W : World} (hC : Rw B cb l lv sm fm W) (k : KI B kb (F0 cb) (F1 cb) q d W) (ns : sm ≠ q.nm ∧ sm ≠ q.tm) (nf : fm ≠ q.nm ∧ fm ≠ q.tm) (s : ByteArray) (hs : s.data.toList = [] ∨ ru.rw.waits l s.data.toList = true) (hn : d.sts.length ≤ 400000) (ht : d.txs.length ≤ 400000) (hr : d.r0.length ≤ 400000 ∧ d.r1.length ≤ 400000 ∧ d.fn.length ≤ 400000) (hBW : B ≤ W.heap.size) :
    Calls Try.prog 55 #[.pointer (some ⟨kb, 0, none⟩), .string s] W (LvOut B kb cb l lv sm fm q d s W) := by
  have hsl0 := list_len s
  have hs15 : s.size ≤ 15 := by rw [← hsl0]; exact ru.rw.wait_len hg hs
  have mk := mk256
  obtain ⟨w0, HW0⟩ : ∃ w0, Hid (w0 = ((W.alloc (.cells (icells z256) 3)).alloc (.cells (icells z256) 3)).drew) := ⟨_, rfl⟩
  have B1 : Below W.heap.size W w0 := by rw [HW0.out]; exact (tr.chain (below_alloc W _) (below_alloc _ _)).drew
  have HLI : Hid (∀ gn gp, (gn = W.heap.size ∧ gp = W.heap.size + 1 ∨ gn = W.heap.size + 1 ∧ gp = W.heap.size) → LI B kb cb l lv sm fm q d gn gp s 0 (.slice none 0 0) [] q.sv q.v3 q.lg d.sts d.txs z256 z256 w0) := fun gn gp hg => by
    have kA := k.later B1
    have i1 : IRow w0 W.heap.size z256 := by
      rw [HW0.out]
      exact (irow_new W z256).keep (Below.heap_alloc _ _ _ (by rw [World.size_alloc]; omega))
    have i2 : IRow w0 (W.heap.size + 1) z256 := by
      rw [HW0.out]
      have := irow_new (W.alloc (.cells (icells z256) 3)) z256
      rw [World.size_alloc] at this
      exact this
    have fresh : ∀ g, W.heap.size ≤ g → q.v2.ownBlock ≠ some g ∧ ∀ x ∈ d.r0 ++ d.r1, x.1 ≠ g := fun g hg => ⟨fun e => by have := (k.fp (.inr (.inr (.inr (.inr (.inr (.inr (.inl e)))))))).2; omega, fun x hx e => by have := (k.fp (.inr (.inr (.inr (.inr (.inr (.inr (.inr (.inr ⟨x, hx, rfl⟩))))))))).2; omega⟩
    have hi : IRow w0 gn z256 ∧ IRow w0 gp z256 ∧ gn ≠ gp ∧ W.heap.size ≤ gn ∧ W.heap.size ≤ gp := by
      rcases hg with ⟨rfl, rfl⟩ | ⟨rfl, rfl⟩
      · exact ⟨i1, i2, by omega, by omega, by omega⟩
      · exact ⟨i2, i1, by omega, by omega, by omega⟩
    exact ⟨hC.later B1, kA, ns, nf, ⟨World.ownsRow_nil _ _ _ _, Nat.le_trans hBW B1.size⟩, hi.1, hi.2.1, hi.2.2.1, fresh gn hi.2.2.2.1, fresh gp hi.2.2.2.2, by omega, by omega, ⟨z256_len, z256_len, fun c hc => by omega⟩, Adv.refl⟩
  have HB0 := (show Hid (Below B W w0) from B1.mono hBW)
  have HK0 := (show Hid (K26 W w0) from K26.below B1)
  have HST := (show Hid (∀ (c : UInt8) v W', Rw B cb l lv sm fm W' → Buf B v [] W' → Calls Try.prog 35 #[.pointer (some ⟨cb, 0, none⟩), v, .string s, .int .u8 (c.toNat : Int)] W'.drew (fun e w9 => ∃ v' o y, e = .returned (.tuple #[v', .string y]) ∧ BufG false B v' o w9 ∧ Rw B cb l lv sm fm w9 ∧ Gw fm W' v w9 v' ∧ o.length ≤ 3000 ∧ OkT y ∧ CSt l s c o y)) from fun c v W' h1 h2 => by
    have bd : Below W'.heap.size W' W'.drew := (Below.refl _ _).drew
    refine (wr.step_any l hg (s.size + 1) s (by omega) hs false B cb lv sm fm v [] W'.drew c (h1.later bd) ((BufG.of h2).later bd) (by simp; omega)).mono ?_
    rintro e w9 ⟨v', rfl, b9, r9, g9, _⟩
    have hol := ru.rw.out_len hg s.data.toList c
    have hyl := ru.rw.wait_len hg (ru.rw.does hg s.data.toList c).1
    refine ⟨v', _, _, rfl, b9, r9, Gw.ahead bd g9, by simp; omega, ?_, ?_⟩
    · unfold OkT
      rw [bs_size]
      omega
    · show _ = _
      simp)
  have HEN := (show Hid (∀ v W', Rw B cb l lv sm fm W' → Buf B v [] W' → Calls Try.prog 36 #[.pointer (some ⟨cb, 0, none⟩), v, .string s] W' (fun e w9 => ∃ v' o, e = .returned v' ∧ Buf B v' o w9 ∧ Gr W' v w9 v' ∧ o.length ≤ 3000000 ∧ CEr l s o)) from fun v W' h1 h2 => by
    refine (wr.end_any l hg B cb lv sm fm v [] W' s h1 h2 (by simp) (by omega)).mono ?_
    rintro e w9 ⟨v', rfl, b9, g9⟩
    have := ru.rw.end_len hg s.data.toList
    exact ⟨v', _, rfl, b9, g9, by simp; omega, rfl⟩)
  have HNS := (show Hid ((sm ≠ q.nm ∧ sm ≠ q.tm) ∧ (fm ≠ q.nm ∧ fm ≠ q.tm)) from ⟨ns, nf⟩)
  have HBF := (show Hid (B ≤ fm) from hC.bf)
  clear hC k B1 ns nf hs
  go_enter Try.func55, Try.ntmps55
  go_wp2_with (fail)
  go_region_law (fail)
  have HLa := (show Hid _ from HLI.out (W.heap.size) (W.heap.size + 1) (.inl ⟨rfl, rfl⟩))
  clear HLI
  generalize W.heap.size + 1 = gp at *
  obtain ⟨gn, HGN⟩ : ∃ gn, Hid (gn = W.heap.size) := ⟨_, rfl⟩
  rw [← HGN.out] at HLa ⊢
  clear HGN
  rotate_left
  have HLa := (show Hid _ from HLI.out (W.heap.size + 1) (W.heap.size) (.inr ⟨rfl, rfl⟩))
  clear HLI
  generalize W.heap.size + 1 = gn at *
  obtain ⟨gp, HGN⟩ : ∃ gp, Hid (gp = W.heap.size) := ⟨_, rfl⟩
  rw [← HGN.out] at HLa ⊢
  clear HGN
  rotate_left
  all_goals
    rw [← HW0.out]
    clear HW0 mk
    go_wp2_with (fail)
    go_loopw [6, 11] (fun o x wr => ∃ (i : Nat) (xs : List UInt8) (sv v3 : Value) (lg : Nat) (sts : List ByteArray) (txs : List ByteArray) (rn rp : List Int), x = .int .i64 i ∧ i ≤ 256 ∧ Hid (LI B kb cb l lv sm fm q d gn gp s i o xs sv v3 lg sts txs rn rp wr) ∧ Hid (Below B W wr) ∧ Hid (K26 W wr)) (fun _ x _ => 256 - (intOf x).toNat)
    case atStart => exact ⟨0, [], q.sv, q.v3, q.lg, d.sts, d.txs, z256, z256, rfl, by omega, HLa, HB0, HK0⟩
    case round =>
      obtain ⟨i, xs, sv, v3, lg, sts, txs, rn, rp, rfl, hi, HL, HBL, HKL⟩ := hrel
      clear HLa HB0 HK0
      have hsl : sts.length ≤ 500000 := by have := HL.out.adv.ll; omega
      have htl : txs.length ≤ 500000 := by have := HL.out.adv.ln; omega
      obtain ⟨vg, vc, hv, vb1, vb2⟩ := HL.out.bu.form
      subst hv
      by_cases hend : i < 256
      · have hu := u8_nat i hend
        have hci := of_nat i hend
        have c0 := HL.out.ki.c0
        have HCUT : Hid (Buf B (.slice vg 0 vc) [] wr) := Buf.cut HL.out.bu 0 (by omega)
        have c37 := HST.out (UInt8.ofNat i) (.slice vg 0 vc) wr HL.out.rw HCUT.out
        rw [hci] at c37
        go_wp2_with (fail)
        go_region_law (go_simp; go_at_call 35; refine c37.mono ?_; rintro e w9 ⟨v', o, y', rfl, hb9, hR9, hG9, hol, hok, hgo⟩)
        all_goals
          obtain ⟨vg9, vc9, hv9, v19, v29⟩ := hb9.form
          subst hv9
          have HCS : Hid (CSt l s (UInt8.ofNat i) o y') := hgo
          have HL10 := (show Hid _ from HL.out.step (BufG.of HCUT.out) hG9 hR9 hb9)
          have HB10 := (show Hid (Below B W w9) from HBL.out.trans (hG9.below (BufG.of HCUT.out) HBF.out))
          have HK10 := (show Hid (K26 W w9) from HKL.out.trans (K26.gw hG9 (BufG.of HCUT.out) HL.out.rw.fobj))
          clear c37 hG9 hb9 hgo HCUT c0 HL HBL hR9
          have c56 := state_any HL10.out.ki y' hok (by show sts.length ≤ _; omega)
          go_wp2_with (fail)
          go_at_call 54
          refine c56.mono ?_
          rintro e w11 ⟨n, sv', sts', rfl, e1, e2, k1, z1, os1, tp1, ou1, h1, hw1⟩
          obtain ⟨bu11, i011, i111⟩ := HL10.out.mid h1 z1
          have c70 := put_any k1 bu11 (by omega) (by show txs.length ≤ _; omega) (UInt8.ofNat i)
          rw [hci] at c70
          have HE1 := (show Hid _ from e1)
          have HE2 := (show Hid _ from e2)
          have HK1 := (show Hid _ from k1)
          have HH1 := (show Hid _ from h1)
          have HI0 := (show Hid _ from i011)
          have HI1 := (show Hid _ from i111)
          have hnl : n < sts'.length := (List.getElem?_eq_some_iff.1 e1).1
          clear e1 e2 k1 h1 hw1 c56 bu11 i011 i111
          go_wp2_with (fail)
          go_at_call 68
          refine c70.mono ?_
          rintro e w12 ⟨k, odd, t, v3', lg', txs', rfl, ⟨e5, e6⟩, e3, e4, k2, z2, os2, tp2, ou2, h2, hw2⟩
          obtain ⟨i012, i112⟩ := rows_kept HK1.out HI0.out HI1.out h2
          have hB12 : Below B w9 w12 := ⟨os2.trans os1, tp2.trans tp1, ou2.trans ou1, Nat.le_trans z1 z2, fun g hg => by
            have f1 : ∀ g', Fp kb { q with sv := sv, v3 := v3, lg := lg } { d with sts := sts, txs := txs } g' → B ≤ g' := fun g' hf => (HL10.out.ki.fp hf).1
            have f2 : ∀ g', Fp kb { q with sv := sv', v3 := v3, lg := lg } { d with sts := sts', txs := txs } g' → B ≤ g' := fun g' hf => (HK1.out.fp hf).1
            have g10 : g < w9.heap.size := Nat.lt_of_lt_of_le hg HL10.out.hb
            rw [h2 g (Nat.lt_of_lt_of_le g10 z1) (fun e => by have := f1 g (.inl e); omega) (fun e => by have := f1 g (.inr (.inr (.inl e))); omega) (fun e => by have := f2 g (.inr (.inr (.inr (.inr (.inr (.inr (.inr (.inl e)))))))); omega), HH1.out g g10 (fun e => by have := f1 g (.inl e); omega) (fun e => by have := f1 g (.inr (.inl e)); omega) (fun e => by have := f1 g (.inr (.inr (.inr (.inl e)))); omega)]⟩
          have HLN := (show Hid _ from HL10.out.nums HK1.out k2 HE1.out HE2.out e3 e4 HH1.out h2 z1 z2 hB12 hend HCS.out e5 e6)
          have HBN := (show Hid _ from HB10.out.trans hB12)
          have HKN := (show Hid (K26 W ((w12.setCell ⟨gn, i, none⟩ (.int .i64 (n : Int))).setCell ⟨gp, i, none⟩ (.int .i64 ((2 * k + odd.toNat : Nat) : Int)))) from (((HK10.out.trans (K26.state HL10.out.ki HH1.out)).trans (K26.text HK1.out h2)).set i012 i _).set (i112.other (Ne.symm HL10.out.ne) i _) i _)
          have hrn := HL10.out.rows.1
          have hrp := HL10.out.rows.2.1
          have y0 := i012.cell i (by omega)
          have y1 := i112.cell i (by omega)
          have z0' := i012.fz i
          have z1' := i112.fz i
          have hb0 := HL10.out.b0
          have hb1 := HL10.out.b1
          have hne := HL10.out.ne
          clear HK1 HE1 HE2 HH1 HI0 HI1 k2 e3 e4 h2 hw2 c70 hB12 HL10 HB10 i012 i112 e5 e6
          generalize hpp : 2 * k + odd.toNat = pp at *
          clear hpp
          go_wp2_with (fail)
          go_roundw
          case rel => exact ⟨i + 1, o, sv', v3', lg', sts', txs', _, _, by go_num, by omega, HLN, (HBN.out.setCell (p := ⟨gn, i, none⟩) hb0 _).setCell (p := ⟨gp, i, none⟩) hb1 _, HKN⟩
          case measure => simp [intOf]; omega
      · obtain rfl : i = 256 := by omega
        have hif : ¬ (256 : Nat) < 256 := by omega
        obtain ⟨g0, cc0, hv0, _, _⟩ := ow.form HL.out.ki.o0
        obtain ⟨g1, cc1, hv1, _, _⟩ := ow.form HL.out.ki.o1
        obtain ⟨g2, cc2, hv2, _, _⟩ := ow.form HL.out.ki.o2
        have hv0' : q.v0 = .slice g0 d.r0.length cc0 := hv0
        have hv1' : q.v1 = .slice g1 d.r1.length cc1 := hv1
        have hv2' : q.v2 = .slice g2 d.fn.length cc2 := hv2
        have c6 : wr.cell? ⟨kb, 6, none⟩ = some (.slice g0 d.r0.length cc0) := by rw [← hv0']; exact HL.out.ki.c6
        have HO := (show Hid ((wr.alloc (.cells #[.slice (some ⟨gn, 0, none⟩) 256 256] 23)).ownsRow B 23 1 (.slice g0 d.r0.length cc0) d.r0.length (rcs d.r0)) from by rw [← hv0']; exact ow.later HL.out.ki.o0 (below_alloc wr _))
        have HN2 := (show Hid _ from ow.new1 wr (.slice (some ⟨gn, 0, none⟩) 256 256) 23)
        have hBw : B ≤ (wr.alloc (.cells #[.slice (some ⟨gn, 0, none⟩) 256 256] 23)).heap.size := Nat.le_trans HL.out.hb (below_alloc wr _).size
        go_wp2_with (first | (at_builtin; refine ow.wpList_append (by rfl) (.tmp 48) (.tmp 50) 22 (by rfl) 23 (.slice none 0 0) 1 24 Try.underlying22 info23 (by rfl) (by decide) (by decide) B (.slice g0 d.r0.length cc0) d.r0.length (rcs d.r0) wr.heap.size [.slice (some ⟨gn, 0, none⟩) 256 256] (by rfl) (by rfl) (by exact HO.out) (by rfl) (by exact HN2.out) (by exact ow.one1 _ rfl) (by omega) (by exact hBw) ?_; intro g' cap' w3 ho hgr hw3; obtain ⟨x3, hh3, ho3, hwh3, hb3⟩ := pushed (j := 6) HL.out.ki (e := 23) (v := q.v0) (n := d.r0.length) HL.out.ki.o0 (by decide) ho (by rw [hv0']; exact hgr) (by rw [hv0']; exact hw3); have y7 : w3.cell? ⟨kb, 7, none⟩ = some (.slice g1 d.r1.length cc1) := by { rw [Lib.cell_of_heap x3, ← hv1']; rfl }; have y6 : w3.cell? ⟨kb, 6, none⟩ = some (.slice g0 d.r0.length cc0) := by { rw [Lib.cell_of_heap x3, ← hv0']; rfl }; have z6 : w3.frozen? ⟨kb, 6, none⟩ = false := Lib.frozen_of_heap x3 6; have K4 := (show Hid _ from HL.out.ki.push0 HL.out.in0 HL.out.b0 HL.out.o0.1 hh3 (by { rw [set_heap _ _ _ _ 6 _ x3]; rfl }) (by { rw [List.length_append]; rw [show rcs (d.r0 ++ [(gn, rn)]) = rcs d.r0 ++ [.slice (some ⟨gn, 0, none⟩) 256 256] from by simp [rcs]]; exact ho3 }) hwh3); have HO4 := (show Hid (((w3.setCell ⟨kb, 6, none⟩ (.slice (some ⟨g', 0, none⟩) (d.r0.length + 1) cap')).alloc (.cells #[.slice (some ⟨gp, 0, none⟩) 256 256] 23)).ownsRow B 23 1 (.slice g1 d.r1.length cc1) d.r1.length (rcs d.r1)) from by { rw [← hv1']; exact ow.later K4.out.o1 (below_alloc _ _) }); have HN4 := (show Hid (∀ j x, [Value.slice (some ⟨gp, 0, none⟩) 256 256][j]? = some x → ((w3.setCell ⟨kb, 6, none⟩ (.slice (some ⟨g', 0, none⟩) (d.r0.length + 1) cap')).alloc (.cells #[.slice (some ⟨gp, 0, none⟩) 256 256] 23)).cell? ((⟨w3.heap.size, 0, none⟩ : Addr).add j) = some x) from by { have h := ow.new1 (w3.setCell ⟨kb, 6, none⟩ (.slice (some ⟨g', 0, none⟩) (d.r0.length + 1) cap')) (.slice (some ⟨gp, 0, none⟩) 256 256) 23; rw [World.size_setCell] at h; exact h }); have hB4 : B ≤ ((w3.setCell ⟨kb, 6, none⟩ (.slice (some ⟨g', 0, none⟩) (d.r0.length + 1) cap')).alloc (.cells #[.slice (some ⟨gp, 0, none⟩) 256 256] 23)).heap.size := Nat.le_trans (Nat.le_trans K4.out.bk (Nat.le_of_lt K4.out.kl)) (below_alloc _ _).size; clear ho hgr hw3) | (at_builtin; refine ow.wpList_append (by rfl) (.tmp 60) (.tmp 62) 22 (by rfl) 23 (.slice none 0 0) 1 24 Try.underlying22 info23 (by rfl) (by decide) (by decide) B (.slice g1 d.r1.length cc1) d.r1.length (rcs d.r1) _ [.slice (some ⟨gp, 0, none⟩) 256 256] (by rfl) (by rfl) (by exact HO4.out) (by rfl) (by exact HN4.out) (by exact ow.one1 _ rfl) (by omega) (by exact hB4) ?_; intro g5 cap5 w5 ho hgr hw5; obtain ⟨x5, hh5, ho5, hwh5, hb5⟩ := pushed (j := 7) K4.out (e := 23) (v := q.v1) (n := d.r1.length) K4.out.o1 (by decide) ho (by rw [hv1']; exact hgr) (by rw [hv1']; exact hw5); have y7 : w5.cell? ⟨kb, 7, none⟩ = some (.slice g1 d.r1.length cc1) := by { rw [Lib.cell_of_heap x5, ← hv1']; rfl }; have z7 : w5.frozen? ⟨kb, 7, none⟩ = false := Lib.frozen_of_heap x5 7))
        have hh5' := hh5
        have K6 := (show Hid _ from K4.out.push1 (HL.out.in1.keep (carry HL.out.ki HL.out.ki.o0 hh3 HL.out.in1 (by decide) (by decide))) HL.out.b1 HL.out.o1.1 hh5 (by rw [set_heap _ _ _ _ 7 _ x5]; rfl) (by rw [List.length_append]; rw [show rcs (d.r1 ++ [(gp, rp)]) = rcs d.r1 ++ [.slice (some ⟨gp, 0, none⟩) 256 256] from by simp [rcs]]; exact ho5) hwh5)
        have HBU := (show Hid _ from carry_buf K4.out K4.out.o1 hh5 hb5.size (by decide) (carry_buf HL.out.ki HL.out.ki.o0 hh3 hb3.size (by decide) HL.out.bu))
        have HCN := (show Hid _ from rw_fp (rw_fp HL.out.rw HL.out.ki HNS.out.1 HNS.out.2 hb3 (fun g hl hf => hh3 g hl (fun e => hf (.inl e)) (fun e => hf (.inr (.inr (.inr (.inr (.inl e)))))))) K4.out HNS.out.1 HNS.out.2 hb5 (fun g hl hf => hh5 g hl (fun e => hf (.inl e)) (fun e => hf (.inr (.inr (.inr (.inr (.inr (.inl e)))))))))
        have HB6 := (show Hid _ from HBL.out.trans (hb3.trans hb5))
        have HK6 := (show Hid _ from (HKL.out.trans (K26.push HL.out.ki HL.out.ki.o0 (by decide) hh3)).trans (K26.push K4.out K4.out.o1 (by decide) hh5))
        have HRW := (show Hid _ from HL.out.rows)
        have HAD := (show Hid _ from HL.out.adv)
        clear hh5' hh3 hh5 ho3 ho5 hwh3 hwh5 hb3 hb5 x3 x5 y6 y7 z6 z7 HL HBL HO HO4 HN2 HN4 hBw hB4 c6 K4 ho hgr hw5
        generalize w5.setCell ⟨kb, 7, none⟩ (.slice (some ⟨g5, 0, none⟩) (d.r1.length + 1) cap5) = w6 at *
        generalize Value.slice (some ⟨g', 0, none⟩) (d.r0.length + 1) cap' = v0n at *
        generalize Value.slice (some ⟨g5, 0, none⟩) (d.r1.length + 1) cap5 = v1n at *
        have c8 : w6.cell? ⟨kb, 8, none⟩ = some (.slice g2 d.fn.length cc2) := by rw [← hv2']; exact K6.out.c8
        have c1 := K6.out.c1
        have HCUT : Hid (Buf B (.slice vg 0 vc) [] w6) := Buf.cut HBU.out 0 (by omega)
        have c38 := HEN.out (.slice vg 0 vc) w6.drew (HCN.out.later (Below.refl _ _).drew) HCUT.out.drew
        clear HBU hv0 hv1 hv2 hv0' hv1' hend hif
        refine wp_region_held (S := SS kb cb) (by kernel_rfl) ?_
        have hS0 : SS kb cb w6.drew := c1
        refine rg.take_op (i := 0) 67 (v := (.pointer (some ⟨kb, 0, none⟩))) rfl rfl (rg.yields_run (by kernel_rfl) (fun W h => by kernel_rfl)) (by kernel_rfl) (by kernel_rfl) (by kernel_rfl) (fun _ _ _ h => h) hS0 ?_
        simp only [Act.put, List.setIfInBounds_toArray, List.set_cons_zero, List.set_cons_succ]
        refine rg.take_op (i := 1) 68 (v := (.pointer (some ⟨kb, 0, none⟩))) rfl rfl (rg.yields_run (by kernel_rfl) (fun W h => by kernel_rfl)) (by kernel_rfl) (by kernel_rfl) (by kernel_rfl) (fun _ _ _ h => h) hS0 ?_
        simp only [Act.put, List.setIfInBounds_toArray, List.set_cons_zero, List.set_cons_succ]
        refine rg.take_op (i := 2) 69 (v := (.pointer (some ⟨kb, 0, none⟩))) rfl rfl (rg.yields_run (by kernel_rfl) (fun W h => by kernel_rfl)) (by kernel_rfl) (by kernel_rfl) (by kernel_rfl) (fun _ _ _ h => h) hS0 ?_
        simp only [Act.put, List.setIfInBounds_toArray, List.set_cons_zero, List.set_cons_succ]
        refine rg.take_op (i := 3) 70 (v := (.pointer (some ⟨kb, 6, none⟩))) rfl rfl (rg.yields_run (by kernel_rfl) (fun W h => by kernel_rfl)) (by kernel_rfl) (by kernel_rfl) (by kernel_rfl) (fun _ _ _ h => h) hS0 ?_
        simp only [Act.put, List.setIfInBounds_toArray, List.set_cons_zero, List.set_cons_succ]
        refine rg.take_op (i := 4) 71 (v := (.pointer (some ⟨kb, 8, none⟩))) rfl rfl (rg.yields_run (by kernel_rfl) (fun W h => by kernel_rfl)) (by kernel_rfl) (by kernel_rfl) (by kernel_rfl) (fun _ _ _ h => h) hS0 ?_
        simp only [Act.put, List.setIfInBounds_toArray, List.set_cons_zero, List.set_cons_succ]
        refine rg.take_op (i := 6) 73 (v := (.pointer (some ⟨kb, 0, none⟩))) rfl rfl (rg.yields_run (by kernel_rfl) (fun W h => by kernel_rfl)) (by kernel_rfl) (by kernel_rfl) (by kernel_rfl) (fun _ _ _ h => h) hS0 ?_
        simp only [Act.put, List.setIfInBounds_toArray, List.set_cons_zero, List.set_cons_succ]
        refine rg.take_op (i := 7) 74 (v := (.pointer (some ⟨kb, 0, none⟩))) rfl rfl (rg.yields_run (by kernel_rfl) (fun W h => by kernel_rfl)) (by kernel_rfl) (by kernel_rfl) (by kernel_rfl) (fun _ _ _ h => h) hS0 ?_
        simp only [Act.put, List.setIfInBounds_toArray, List.set_cons_zero, List.set_cons_succ]
        refine rg.take_op (i := 8) 75 (v := (.pointer (some ⟨kb, 0, none⟩))) rfl rfl (rg.yields_run (by kernel_rfl) (fun W h => by kernel_rfl)) (by kernel_rfl) (by kernel_rfl) (by kernel_rfl) (fun _ _ _ h => h) hS0 ?_
        simp only [Act.put, List.setIfInBounds_toArray, List.set_cons_zero, List.set_cons_succ]
        refine rg.take_op (i := 9) 76 (v := (.pointer (some ⟨kb, 0, none⟩))) rfl rfl (rg.yields_run (by kernel_rfl) (fun W h => by kernel_rfl)) (by kernel_rfl) (by kernel_rfl) (by kernel_rfl) (fun _ _ _ h => h) hS0 ?_
        simp only [Act.put, List.setIfInBounds_toArray, List.set_cons_zero, List.set_cons_succ]
        refine rg.take_op (i := 10) 77 (v := (.pointer (some ⟨kb, 1, none⟩))) rfl rfl (rg.yields_run (by kernel_rfl) (fun W h => by kernel_rfl)) (by kernel_rfl) (by kernel_rfl) (by kernel_rfl) (fun _ _ _ h => h) hS0 ?_
        simp only [Act.put, List.setIfInBounds_toArray, List.set_cons_zero, List.set_cons_succ]
        refine rg.take_op (i := 11) 78 (v := (F1 cb)) rfl rfl (rg.yields_run (by kernel_rfl) (fun W h => x_load68 (x := .tmp 77) rfl rfl h)) (by kernel_rfl) (by kernel_rfl) (by kernel_rfl) (fun _ _ _ h => h) hS0 ?_
        simp only [Act.put, List.setIfInBounds_toArray, List.set_cons_zero, List.set_cons_succ]
        refine rg.take_op (i := 12) 79 (v := (.slice vg xs.length vc)) rfl rfl (rg.yields_run (by kernel_rfl) (fun W h => by kernel_rfl)) (by kernel_rfl) (by kernel_rfl) (by kernel_rfl) (fun _ _ _ h => h) hS0 ?_
        simp only [Act.put, List.setIfInBounds_toArray, List.set_cons_zero, List.set_cons_succ]
        refine rg.take_op (i := 13) 80 (v := (.slice vg 0 vc)) rfl rfl (rg.yields_run (by kernel_rfl) (fun W h => x_cut51 (x := .tmp 79) rfl rfl)) (by kernel_rfl) (by kernel_rfl) (by kernel_rfl) (fun _ _ _ h => h) hS0 ?_
        simp only [Act.put, List.setIfInBounds_toArray, List.set_cons_zero, List.set_cons_succ]
        refine rg.take_op (i := 14) 81 (v := (.string s)) rfl rfl (rg.yields_run (by kernel_rfl) (fun W h => by kernel_rfl)) (by kernel_rfl) (by kernel_rfl) (by kernel_rfl) (fun _ _ _ h => h) hS0 ?_
        simp only [Act.put, List.setIfInBounds_toArray, List.set_cons_zero, List.set_cons_succ]
        refine two (i := 5) (j := 15) (by kernel_rfl) ?_ ?_
        · skip
          refine op_val 5 72 rfl rfl (by kernel_rfl) (rg.x_load23 (x := .tmp 71) rfl rfl (by exact c8)) ⟨hS0, ?_⟩
          simp only [Act.put, List.setIfInBounds_toArray, List.set_cons_zero, List.set_cons_succ]
          refine one (i := 15) (by kernel_rfl) ?_
          refine op_call 15 82 rfl rfl (by kernel_rfl) (f := 36) (args := #[.pointer (some ⟨cb, 0, none⟩), .slice vg 0 vc, .string s]) (by kernel_rfl) ?_
          refine c38.mono ?_
          rintro e w9 ⟨v', o, rfl, hb9, hG9, hol, hgo⟩
          have hG9 := hG9.undrew
          have k9 := K6.out.buf HCUT.out hG9
          have c89 : w9.cell? ⟨kb, 8, none⟩ = some (.slice g2 d.fn.length cc2) := by rw [← hv2']; exact k9.c8
          have hS9 : SS kb cb w9 := SS.of k9
          have c71 := text_any k9 hb9 (by omega) (by show txs.length ≤ _; omega)
          refine ⟨_, rfl, hS9, ?_⟩
          simp only [Act.put, List.setIfInBounds_toArray, List.set_cons_zero, List.set_cons_succ]
          refine one (i := 16) (by kernel_rfl) ?_
          refine op_call 16 83 rfl rfl (by kernel_rfl) (f := 69) (args := #[.pointer (some ⟨kb, 0, none⟩), v']) (by kernel_rfl) ?_
          refine c71.mono ?_
          rintro e w10 ⟨kk, v3', lg', txs', rfl, e3, e4, k10, z10, os10, tp10, ou10, h10, hw10⟩
          have c810 : w10.cell? ⟨kb, 8, none⟩ = some (.slice g2 d.fn.length cc2) := by rw [← hv2']; exact k10.c8
          have hS10 : SS kb cb w10 := SS.of k10
          have hS10a : SS kb cb (w10.alloc (.cells #[.int .i64 (kk : Int)] 3)) := SS.of (k10.later (below_alloc _ _))
          have HO10 : (w10.alloc (.cells #[.int .i64 (kk : Int)] 3)).ownsRow B 3 1 (.slice g2 d.fn.length cc2) d.fn.length (icl d.fn) := by rw [← hv2']; exact ow.later k10.o2 (below_alloc _ _)
          have hB10 : B ≤ (w10.alloc (.cells #[.int .i64 (kk : Int)] 3)).heap.size := Nat.le_trans (Nat.le_trans k10.bk (Nat.le_of_lt k10.kl)) (below_alloc _ _).size
          have q10 : (w10.alloc (.cells #[.int .i64 (kk : Int)] 3)).cell? ⟨kb, 8, none⟩ = some (.slice g2 d.fn.length cc2) := by rw [(below_alloc w10 _).cell (show kb < w10.heap.size from k10.kl)]; exact c810
          refine ⟨_, rfl, hS10, ?_⟩
          simp only [Act.put, List.setIfInBounds_toArray, List.set_cons_zero, List.set_cons_succ]
          refine one (i := 17) (by kernel_rfl) ?_
          refine op_val 17 84 rfl rfl (by kernel_rfl) (x_build23 (x := .tmp 83) (n := (kk : Int)) rfl rfl) ⟨hS10a, ?_⟩
          simp only [Act.put, List.setIfInBounds_toArray, List.set_cons_zero, List.set_cons_succ]
          refine one (i := 18) (by kernel_rfl) (op_wp 18 rfl (by kernel_rfl) ?_)
          refine ow.wp_append (.tmp 72) (.tmp 84) 23 rfl 3 (.int .i64 0) 1 8 Try.underlying23 info3 rfl (by decide) (by decide) B (.slice g2 d.fn.length cc2) d.fn.length (icl d.fn) w10.heap.size [.int .i64 (kk : Int)] rfl rfl HO10 rfl (ow.new1 w10 (.int .i64 (kk : Int)) 3) (ow.one1 _ rfl) (by omega) hB10 ?_
          intro g11 cap11 w11 ho hgr hw11
          have HP := pushed (j := 8) k10 (e := 3) (v := q.v2) (n := d.fn.length) k10.o2 (by decide) ho (by rw [hv2']; exact hgr) (by rw [hv2']; exact hw11)
          have hS11 : SS kb cb w11 := SS.box HP.1
          refine ⟨hS11, ?_⟩
          simp only [Act.put, List.setIfInBounds_toArray, List.set_cons_zero, List.set_cons_succ]
          refine rg.take_op (i := 19) 86 (v := (.pointer (some ⟨kb, 0, none⟩))) rfl rfl (rg.yields_run (by kernel_rfl) (fun W h => by kernel_rfl)) (by kernel_rfl) (by kernel_rfl) (by kernel_rfl) (fun _ _ _ h => h) hS11 ?_
          simp only [Act.put, List.setIfInBounds_toArray, List.set_cons_zero, List.set_cons_succ]
          refine rg.take_op (i := 20) 87 (v := (.pointer (some ⟨kb, 6, none⟩))) rfl rfl (rg.yields_run (by kernel_rfl) (fun W h => by kernel_rfl)) (by kernel_rfl) (by kernel_rfl) (by kernel_rfl) (fun _ _ _ h => h) hS11 ?_
          simp only [Act.put, List.setIfInBounds_toArray, List.set_cons_zero, List.set_cons_succ]
          refine rg.take_op (i := 21) 88 (v := (.pointer (some ⟨kb, 8, none⟩))) rfl rfl (rg.yields_run (by kernel_rfl) (fun W h => by kernel_rfl)) (by kernel_rfl) (by kernel_rfl) (by kernel_rfl) (fun _ _ _ h => h) hS11 ?_
          simp only [Act.put, List.setIfInBounds_toArray, List.set_cons_zero, List.set_cons_succ]
          refine one (i := 22) (by kernel_rfl) (op_wp 22 rfl (by kernel_rfl) ?_)
          have y8 : w11.cell? ⟨kb, 8, none⟩ = some (.slice g2 d.fn.length cc2) := by rw [Lib.cell_of_heap HP.1, ← hv2']; rfl
          have z8 : w11.frozen? ⟨kb, 8, none⟩ = false := Lib.frozen_of_heap HP.1 8
          unfold Oper.wp execOp
          go_simp
          refine ⟨SS.store HP.1, ?_⟩
          refine rg.done_op (by kernel_rfl) ?_
          have hbs : (bs o).data.toList = o := by simp
          have hce : CEr l s (bs o).data.toList := by rw [hbs]; exact hgo
          have HH : Hid (LvOut B kb cb l lv sm fm q d s W (.returned (.tuple #[])) (w11.setCell ⟨kb, 8, none⟩ (.slice (some ⟨g11, 0, none⟩) (d.fn.length + 1) cap11))) := show LvOut B kb cb l lv sm fm q d s W _ _ from ⟨sv, v0n, v1n, .slice (some ⟨g11, 0, none⟩) (d.fn.length + 1) cap11, v3', lg', gn, gp, kk, sts, txs', rn, rp, bs o, rfl, k10.push2 HP.2.1 (by rw [set_heap _ _ _ _ 8 _ HP.1]; rfl) (by rw [List.length_append, icl_one]; exact HP.2.2.1) HP.2.2.2.1, Rows.mono HRW.out (List.prefix_refl _) (pre_of e4), HAD.out.en e4 hce, e3, hce, ((HB6.out.trans (hG9.below HCUT.out)).trans (text_below k9 os10 tp10 ou10 z10 h10)).trans HP.2.2.2.2, rw_fp (rw_fp (HCN.out.buf HCUT.out hG9) k9 HNS.out.1 HNS.out.2 (text_below k9 os10 tp10 ou10 z10 h10) (fun g hl hf => h10 g hl (fun e => hf (.inl e)) (fun e => hf (.inr (.inr (.inl e)))) (fun e => hf (.inr (.inr (.inr (.inr (.inr (.inr (.inr (.inl e))))))))))) k10 HNS.out.1 HNS.out.2 HP.2.2.2.2 (fun g hl hf => HP.2.1 g hl (fun e => hf (.inl e)) (fun e => hf (.inr (.inr (.inr (.inr (.inr (.inr (.inl e))))))))), ((K26.trans HK6.out (K26.gr hG9 HCUT.out)).trans (K26.text k9 h10)).trans (K26.push k10 k10.o2 (by decide) HP.2.1)⟩
          clear HP hce hbs hgo h10 e3 e4 hw10 k10 k9 HO10 hB10 q10 c810 hS10 hS10a hS11 hS9 c89 c71 hG9 hb9 ho hgr hw11
          go_end0
          exact HH.out
        · skip
          refine op_call 15 82 rfl rfl (by kernel_rfl) (f := 36) (args := #[.pointer (some ⟨cb, 0, none⟩), .slice vg 0 vc, .string s]) (by kernel_rfl) ?_
          refine c38.mono ?_
          rintro e w9 ⟨v', o, rfl, hb9, hG9, hol, hgo⟩
          have hG9 := hG9.undrew
          have k9 := K6.out.buf HCUT.out hG9
          have c89 : w9.cell? ⟨kb, 8, none⟩ = some (.slice g2 d.fn.length cc2) := by rw [← hv2']; exact k9.c8
          have hS9 : SS kb cb w9 := SS.of k9
          have c71 := text_any k9 hb9 (by omega) (by show txs.length ≤ _; omega)
          refine ⟨_, rfl, hS9, ?_⟩
          simp only [Act.put, List.setIfInBounds_toArray, List.set_cons_zero, List.set_cons_succ]
          refine two (i := 5) (j := 16) (by kernel_rfl) ?_ ?_
          · skip
            refine op_val 5 72 rfl rfl (by kernel_rfl) (rg.x_load23 (x := .tmp 71) rfl rfl (by exact c89)) ⟨hS9, ?_⟩
            simp only [Act.put, List.setIfInBounds_toArray, List.set_cons_zero, List.set_cons_succ]
            refine one (i := 16) (by kernel_rfl) ?_
            refine op_call 16 83 rfl rfl (by kernel_rfl) (f := 69) (args := #[.pointer (some ⟨kb, 0, none⟩), v']) (by kernel_rfl) ?_
            refine c71.mono ?_
            rintro e w10 ⟨kk, v3', lg', txs', rfl, e3, e4, k10, z10, os10, tp10, ou10, h10, hw10⟩
            have c810 : w10.cell? ⟨kb, 8, none⟩ = some (.slice g2 d.fn.length cc2) := by rw [← hv2']; exact k10.c8
            have hS10 : SS kb cb w10 := SS.of k10
            have hS10a : SS kb cb (w10.alloc (.cells #[.int .i64 (kk : Int)] 3)) := SS.of (k10.later (below_alloc _ _))
            have HO10 : (w10.alloc (.cells #[.int .i64 (kk : Int)] 3)).ownsRow B 3 1 (.slice g2 d.fn.length cc2) d.fn.length (icl d.fn) := by rw [← hv2']; exact ow.later k10.o2 (below_alloc _ _)
            have hB10 : B ≤ (w10.alloc (.cells #[.int .i64 (kk : Int)] 3)).heap.size := Nat.le_trans (Nat.le_trans k10.bk (Nat.le_of_lt k10.kl)) (below_alloc _ _).size
            have q10 : (w10.alloc (.cells #[.int .i64 (kk : Int)] 3)).cell? ⟨kb, 8, none⟩ = some (.slice g2 d.fn.length cc2) := by rw [(below_alloc w10 _).cell (show kb < w10.heap.size from k10.kl)]; exact c810
            refine ⟨_, rfl, hS10, ?_⟩
            simp only [Act.put, List.setIfInBounds_toArray, List.set_cons_zero, List.set_cons_succ]
            refine one (i := 17) (by kernel_rfl) ?_
            refine op_val 17 84 rfl rfl (by kernel_rfl) (x_build23 (x := .tmp 83) (n := (kk : Int)) rfl rfl) ⟨hS10a, ?_⟩
            simp only [Act.put, List.setIfInBounds_toArray, List.set_cons_zero, List.set_cons_succ]
            refine one (i := 18) (by kernel_rfl) (op_wp 18 rfl (by kernel_rfl) ?_)
            refine ow.wp_append (.tmp 72) (.tmp 84) 23 rfl 3 (.int .i64 0) 1 8 Try.underlying23 info3 rfl (by decide) (by decide) B (.slice g2 d.fn.length cc2) d.fn.length (icl d.fn) w10.heap.size [.int .i64 (kk : Int)] rfl rfl HO10 rfl (ow.new1 w10 (.int .i64 (kk : Int)) 3) (ow.one1 _ rfl) (by omega) hB10 ?_
            intro g11 cap11 w11 ho hgr hw11
            have HP := pushed (j := 8) k10 (e := 3) (v := q.v2) (n := d.fn.length) k10.o2 (by decide) ho (by rw [hv2']; exact hgr) (by rw [hv2']; exact hw11)
            have hS11 : SS kb cb w11 := SS.box HP.1
            refine ⟨hS11, ?_⟩
            simp only [Act.put, List.setIfInBounds_toArray, List.set_cons_zero, List.set_cons_succ]
            refine rg.take_op (i := 19) 86 (v := (.pointer (some ⟨kb, 0, none⟩))) rfl rfl (rg.yields_run (by kernel_rfl) (fun W h => by kernel_rfl)) (by kernel_rfl) (by kernel_rfl) (by kernel_rfl) (fun _ _ _ h => h) hS11 ?_
            simp only [Act.put, List.setIfInBounds_toArray, List.set_cons_zero, List.set_cons_succ]
            refine rg.take_op (i := 20) 87 (v := (.pointer (some ⟨kb, 6, none⟩))) rfl rfl (rg.yields_run (by kernel_rfl) (fun W h => by kernel_rfl)) (by kernel_rfl) (by kernel_rfl) (by kernel_rfl) (fun _ _ _ h => h) hS11 ?_
            simp only [Act.put, List.setIfInBounds_toArray, List.set_cons_zero, List.set_cons_succ]
            refine rg.take_op (i := 21) 88 (v := (.pointer (some ⟨kb, 8, none⟩))) rfl rfl (rg.yields_run (by kernel_rfl) (fun W h => by kernel_rfl)) (by kernel_rfl) (by kernel_rfl) (by kernel_rfl) (fun _ _ _ h => h) hS11 ?_
            simp only [Act.put, List.setIfInBounds_toArray, List.set_cons_zero, List.set_cons_succ]
            refine one (i := 22) (by kernel_rfl) (op_wp 22 rfl (by kernel_rfl) ?_)
            have y8 : w11.cell? ⟨kb, 8, none⟩ = some (.slice g2 d.fn.length cc2) := by rw [Lib.cell_of_heap HP.1, ← hv2']; rfl
            have z8 : w11.frozen? ⟨kb, 8, none⟩ = false := Lib.frozen_of_heap HP.1 8
            unfold Oper.wp execOp
            go_simp
            refine ⟨SS.store HP.1, ?_⟩
            refine rg.done_op (by kernel_rfl) ?_
            have hbs : (bs o).data.toList = o := by simp
            have hce : CEr l s (bs o).data.toList := by rw [hbs]; exact hgo
            have HH : Hid (LvOut B kb cb l lv sm fm q d s W (.returned (.tuple #[])) (w11.setCell ⟨kb, 8, none⟩ (.slice (some ⟨g11, 0, none⟩) (d.fn.length + 1) cap11))) := show LvOut B kb cb l lv sm fm q d s W _ _ from ⟨sv, v0n, v1n, .slice (some ⟨g11, 0, none⟩) (d.fn.length + 1) cap11, v3', lg', gn, gp, kk, sts, txs', rn, rp, bs o, rfl, k10.push2 HP.2.1 (by rw [set_heap _ _ _ _ 8 _ HP.1]; rfl) (by rw [List.length_append, icl_one]; exact HP.2.2.1) HP.2.2.2.1, Rows.mono HRW.out (List.prefix_refl _) (pre_of e4), HAD.out.en e4 hce, e3, hce, ((HB6.out.trans (hG9.below HCUT.out)).trans (text_below k9 os10 tp10 ou10 z10 h10)).trans HP.2.2.2.2, rw_fp (rw_fp (HCN.out.buf HCUT.out hG9) k9 HNS.out.1 HNS.out.2 (text_below k9 os10 tp10 ou10 z10 h10) (fun g hl hf => h10 g hl (fun e => hf (.inl e)) (fun e => hf (.inr (.inr (.inl e)))) (fun e => hf (.inr (.inr (.inr (.inr (.inr (.inr (.inr (.inl e))))))))))) k10 HNS.out.1 HNS.out.2 HP.2.2.2.2 (fun g hl hf => HP.2.1 g hl (fun e => hf (.inl e)) (fun e => hf (.inr (.inr (.inr (.inr (.inr (.inr (.inl e))))))))), ((K26.trans HK6.out (K26.gr hG9 HCUT.out)).trans (K26.text k9 h10)).trans (K26.push k10 k10.o2 (by decide) HP.2.1)⟩
            clear HP hce hbs hgo h10 e3 e4 hw10 k10 k9 HO10 hB10 q10 c810 hS10 hS10a hS11 hS9 c89 c71 hG9 hb9 ho hgr hw11
            go_end0
            exact HH.out
          · skip
            refine op_call 16 83 rfl rfl (by kernel_rfl) (f := 69) (args := #[.pointer (some ⟨kb, 0, none⟩), v']) (by kernel_rfl) ?_
            refine c71.mono ?_
            rintro e w10 ⟨kk, v3', lg', txs', rfl, e3, e4, k10, z10, os10, tp10, ou10, h10, hw10⟩
            have c810 : w10.cell? ⟨kb, 8, none⟩ = some (.slice g2 d.fn.length cc2) := by rw [← hv2']; exact k10.c8
            have hS10 : SS kb cb w10 := SS.of k10
            have hS10a : SS kb cb (w10.alloc (.cells #[.int .i64 (kk : Int)] 3)) := SS.of (k10.later (below_alloc _ _))
            have HO10 : (w10.alloc (.cells #[.int .i64 (kk : Int)] 3)).ownsRow B 3 1 (.slice g2 d.fn.length cc2) d.fn.length (icl d.fn) := by rw [← hv2']; exact ow.later k10.o2 (below_alloc _ _)
            have hB10 : B ≤ (w10.alloc (.cells #[.int .i64 (kk : Int)] 3)).heap.size := Nat.le_trans (Nat.le_trans k10.bk (Nat.le_of_lt k10.kl)) (below_alloc _ _).size
            have q10 : (w10.alloc (.cells #[.int .i64 (kk : Int)] 3)).cell? ⟨kb, 8, none⟩ = some (.slice g2 d.fn.length cc2) := by rw [(below_alloc w10 _).cell (show kb < w10.heap.size from k10.kl)]; exact c810
            refine ⟨_, rfl, hS10, ?_⟩
            simp only [Act.put, List.setIfInBounds_toArray, List.set_cons_zero, List.set_cons_succ]
            refine two (i := 5) (j := 17) (by kernel_rfl) ?_ ?_
            · skip
              refine op_val 5 72 rfl rfl (by kernel_rfl) (rg.x_load23 (x := .tmp 71) rfl rfl (by exact c810)) ⟨hS10, ?_⟩
              simp only [Act.put, List.setIfInBounds_toArray, List.set_cons_zero, List.set_cons_succ]
              refine one (i := 17) (by kernel_rfl) ?_
              refine op_val 17 84 rfl rfl (by kernel_rfl) (x_build23 (x := .tmp 83) (n := (kk : Int)) rfl rfl) ⟨hS10a, ?_⟩
              simp only [Act.put, List.setIfInBounds_toArray, List.set_cons_zero, List.set_cons_succ]
              refine one (i := 18) (by kernel_rfl) (op_wp 18 rfl (by kernel_rfl) ?_)
              refine ow.wp_append (.tmp 72) (.tmp 84) 23 rfl 3 (.int .i64 0) 1 8 Try.underlying23 info3 rfl (by decide) (by decide) B (.slice g2 d.fn.length cc2) d.fn.length (icl d.fn) w10.heap.size [.int .i64 (kk : Int)] rfl rfl HO10 rfl (ow.new1 w10 (.int .i64 (kk : Int)) 3) (ow.one1 _ rfl) (by omega) hB10 ?_
              intro g11 cap11 w11 ho hgr hw11
              have HP := pushed (j := 8) k10 (e := 3) (v := q.v2) (n := d.fn.length) k10.o2 (by decide) ho (by rw [hv2']; exact hgr) (by rw [hv2']; exact hw11)
              have hS11 : SS kb cb w11 := SS.box HP.1
              refine ⟨hS11, ?_⟩
              simp only [Act.put, List.setIfInBounds_toArray, List.set_cons_zero, List.set_cons_succ]
              refine rg.take_op (i := 19) 86 (v := (.pointer (some ⟨kb, 0, none⟩))) rfl rfl (rg.yields_run (by kernel_rfl) (fun W h => by kernel_rfl)) (by kernel_rfl) (by kernel_rfl) (by kernel_rfl) (fun _ _ _ h => h) hS11 ?_
              simp only [Act.put, List.setIfInBounds_toArray, List.set_cons_zero, List.set_cons_succ]
              refine rg.take_op (i := 20) 87 (v := (.pointer (some ⟨kb, 6, none⟩))) rfl rfl (rg.yields_run (by kernel_rfl) (fun W h => by kernel_rfl)) (by kernel_rfl) (by kernel_rfl) (by kernel_rfl) (fun _ _ _ h => h) hS11 ?_
              simp only [Act.put, List.setIfInBounds_toArray, List.set_cons_zero, List.set_cons_succ]
              refine rg.take_op (i := 21) 88 (v := (.pointer (some ⟨kb, 8, none⟩))) rfl rfl (rg.yields_run (by kernel_rfl) (fun W h => by kernel_rfl)) (by kernel_rfl) (by kernel_rfl) (by kernel_rfl) (fun _ _ _ h => h) hS11 ?_
              simp only [Act.put, List.setIfInBounds_toArray, List.set_cons_zero, List.set_cons_succ]
              refine one (i := 22) (by kernel_rfl) (op_wp 22 rfl (by kernel_rfl) ?_)
              have y8 : w11.cell? ⟨kb, 8, none⟩ = some (.slice g2 d.fn.length cc2) := by rw [Lib.cell_of_heap HP.1, ← hv2']; rfl
              have z8 : w11.frozen? ⟨kb, 8, none⟩ = false := Lib.frozen_of_heap HP.1 8
              unfold Oper.wp execOp
              go_simp
              refine ⟨SS.store HP.1, ?_⟩
              refine rg.done_op (by kernel_rfl) ?_
              have hbs : (bs o).data.toList = o := by simp
              have hce : CEr l s (bs o).data.toList := by rw [hbs]; exact hgo
              have HH : Hid (LvOut B kb cb l lv sm fm q d s W (.returned (.tuple #[])) (w11.setCell ⟨kb, 8, none⟩ (.slice (some ⟨g11, 0, none⟩) (d.fn.length + 1) cap11))) := show LvOut B kb cb l lv sm fm q d s W _ _ from ⟨sv, v0n, v1n, .slice (some ⟨g11, 0, none⟩) (d.fn.length + 1) cap11, v3', lg', gn, gp, kk, sts, txs', rn, rp, bs o, rfl, k10.push2 HP.2.1 (by rw [set_heap _ _ _ _ 8 _ HP.1]; rfl) (by rw [List.length_append, icl_one]; exact HP.2.2.1) HP.2.2.2.1, Rows.mono HRW.out (List.prefix_refl _) (pre_of e4), HAD.out.en e4 hce, e3, hce, ((HB6.out.trans (hG9.below HCUT.out)).trans (text_below k9 os10 tp10 ou10 z10 h10)).trans HP.2.2.2.2, rw_fp (rw_fp (HCN.out.buf HCUT.out hG9) k9 HNS.out.1 HNS.out.2 (text_below k9 os10 tp10 ou10 z10 h10) (fun g hl hf => h10 g hl (fun e => hf (.inl e)) (fun e => hf (.inr (.inr (.inl e)))) (fun e => hf (.inr (.inr (.inr (.inr (.inr (.inr (.inr (.inl e))))))))))) k10 HNS.out.1 HNS.out.2 HP.2.2.2.2 (fun g hl hf => HP.2.1 g hl (fun e => hf (.inl e)) (fun e => hf (.inr (.inr (.inr (.inr (.inr (.inr (.inl e))))))))), ((K26.trans HK6.out (K26.gr hG9 HCUT.out)).trans (K26.text k9 h10)).trans (K26.push k10 k10.o2 (by decide) HP.2.1)⟩
              clear HP hce hbs hgo h10 e3 e4 hw10 k10 k9 HO10 hB10 q10 c810 hS10 hS10a hS11 hS9 c89 c71 hG9 hb9 ho hgr hw11
              go_end0
              exact HH.out
            · skip
              refine op_val 17 84 rfl rfl (by kernel_rfl) (x_build23 (x := .tmp 83) (n := (kk : Int)) rfl rfl) ⟨hS10a, ?_⟩
              simp only [Act.put, List.setIfInBounds_toArray, List.set_cons_zero, List.set_cons_succ]
              refine one (i := 5) (by kernel_rfl) ?_
              refine op_val 5 72 rfl rfl (by kernel_rfl) (rg.x_load23 (x := .tmp 71) rfl rfl (by exact q10)) ⟨hS10a, ?_⟩
              simp only [Act.put, List.setIfInBounds_toArray, List.set_cons_zero, List.set_cons_succ]
              refine one (i := 18) (by kernel_rfl) (op_wp 18 rfl (by kernel_rfl) ?_)
              refine ow.wp_append (.tmp 72) (.tmp 84) 23 rfl 3 (.int .i64 0) 1 8 Try.underlying23 info3 rfl (by decide) (by decide) B (.slice g2 d.fn.length cc2) d.fn.length (icl d.fn) w10.heap.size [.int .i64 (kk : Int)] rfl rfl HO10 rfl (ow.new1 w10 (.int .i64 (kk : Int)) 3) (ow.one1 _ rfl) (by omega) hB10 ?_
              intro g11 cap11 w11 ho hgr hw11
              have HP := pushed (j := 8) k10 (e := 3) (v := q.v2) (n := d.fn.length) k10.o2 (by decide) ho (by rw [hv2']; exact hgr) (by rw [hv2']; exact hw11)
              have hS11 : SS kb cb w11 := SS.box HP.1
              refine ⟨hS11, ?_⟩
              simp only [Act.put, List.setIfInBounds_toArray, List.set_cons_zero, List.set_cons_succ]
              refine rg.take_op (i := 19) 86 (v := (.pointer (some ⟨kb, 0, none⟩))) rfl rfl (rg.yields_run (by kernel_rfl) (fun W h => by kernel_rfl)) (by kernel_rfl) (by kernel_rfl) (by kernel_rfl) (fun _ _ _ h => h) hS11 ?_
              simp only [Act.put, List.setIfInBounds_toArray, List.set_cons_zero, List.set_cons_succ]
              refine rg.take_op (i := 20) 87 (v := (.pointer (some ⟨kb, 6, none⟩))) rfl rfl (rg.yields_run (by kernel_rfl) (fun W h => by kernel_rfl)) (by kernel_rfl) (by kernel_rfl) (by kernel_rfl) (fun _ _ _ h => h) hS11 ?_
              simp only [Act.put, List.setIfInBounds_toArray, List.set_cons_zero, List.set_cons_succ]
              refine rg.take_op (i := 21) 88 (v := (.pointer (some ⟨kb, 8, none⟩))) rfl rfl (rg.yields_run (by kernel_rfl) (fun W h => by kernel_rfl)) (by kernel_rfl) (by kernel_rfl) (by kernel_rfl) (fun _ _ _ h => h) hS11 ?_
              simp only [Act.put, List.setIfInBounds_toArray, List.set_cons_zero, List.set_cons_succ]
              refine one (i := 22) (by kernel_rfl) (op_wp 22 rfl (by kernel_rfl) ?_)
              have y8 : w11.cell? ⟨kb, 8, none⟩ = some (.slice g2 d.fn.length cc2) := by rw [Lib.cell_of_heap HP.1, ← hv2']; rfl
              have z8 : w11.frozen? ⟨kb, 8, none⟩ = false := Lib.frozen_of_heap HP.1 8
              unfold Oper.wp execOp
              go_simp
              refine ⟨SS.store HP.1, ?_⟩
              refine rg.done_op (by kernel_rfl) ?_
              have hbs : (bs o).data.toList = o := by simp
              have hce : CEr l s (bs o).data.toList := by rw [hbs]; exact hgo
              have HH : Hid (LvOut B kb cb l lv sm fm q d s W (.returned (.tuple #[])) (w11.setCell ⟨kb, 8, none⟩ (.slice (some ⟨g11, 0, none⟩) (d.fn.length + 1) cap11))) := show LvOut B kb cb l lv sm fm q d s W _ _ from ⟨sv, v0n, v1n, .slice (some ⟨g11, 0, none⟩) (d.fn.length + 1) cap11, v3', lg', gn, gp, kk, sts, txs', rn, rp, bs o, rfl, k10.push2 HP.2.1 (by rw [set_heap _ _ _ _ 8 _ HP.1]; rfl) (by rw [List.length_append, icl_one]; exact HP.2.2.1) HP.2.2.2.1, Rows.mono HRW.out (List.prefix_refl _) (pre_of e4), HAD.out.en e4 hce, e3, hce, ((HB6.out.trans (hG9.below HCUT.out)).trans (text_below k9 os10 tp10 ou10 z10 h10)).trans HP.2.2.2.2, rw_fp (rw_fp (HCN.out.buf HCUT.out hG9) k9 HNS.out.1 HNS.out.2 (text_below k9 os10 tp10 ou10 z10 h10) (fun g hl hf => h10 g hl (fun e => hf (.inl e)) (fun e => hf (.inr (.inr (.inl e)))) (fun e => hf (.inr (.inr (.inr (.inr (.inr (.inr (.inr (.inl e))))))))))) k10 HNS.out.1 HNS.out.2 HP.2.2.2.2 (fun g hl hf => HP.2.1 g hl (fun e => hf (.inl e)) (fun e => hf (.inr (.inr (.inr (.inr (.inr (.inr (.inl e))))))))), ((K26.trans HK6.out (K26.gr hG9 HCUT.out)).trans (K26.text k9 h10)).trans (K26.push k10 k10.o2 (by decide) HP.2.1)⟩
              clear HP hce hbs hgo h10 e3 e4 hw10 k10 k9 HO10 hB10 q10 c810 hS10 hS10a hS11 hS9 c89 c71 hG9 hb9 ho hgr hw11
              go_end0
              exact HH.out
end Go.Proofs.Ytlmodfeiphffcaa.ms
