/-
  Contracts over this program: a builder is made (newBuilder).
-/
import Derived.Test.YtfilndgbgdnpiaaM31
namespace Go.Proofs.Ytfilndgbgdnpiaa.bd
open Go.Sort Go.ChangeShapes Go.WideShapes Go.ChangeAt Go.RowKit Go.Maps
open df (Kp Row iv In IntsV Owns)
open nf (Nfa Ed Rt EdAt Eds nfaV)
open st (Q4 none4 Fits has nth jn sig Blk OwnSets)
set_option linter.unusedVariables false
set_option maxRecDepth 10000
theorem below_eq {w w' : World} {o : Obj} (e : w' = w.alloc o) : Below w.heap.size w w' := by rw [e]; exact nf.below_alloc _ _
theorem cell3 {w : World} {g : Nat} {p q r v : Value} (h : w.heap[g]? = some (.cells #[p, q, r, v] 31 (0, 0))) : w.cell? ⟨g, 3, none⟩ = some v := by rw [Lib.cell_of_heap h]; rfl
theorem info25 : (Try.prog.info? 25).map (fun i => (i.zero, i.size, i.bytes)) = some (some (.agg #[.int .u64 0, .int .u64 0, .int .u64 0, .int .u64 0]), 4, 32) := by kernel_rfl
theorem info5 : (Try.prog.info? 5).map (fun i => (i.zero, i.size, i.bytes)) = some (some (.int .u8 0), 1, 1) := by kernel_rfl
set_option maxHeartbeats 4000000 in
set_option maxRecDepth 100000 in
theorem newb_any (x : Nfa) (n e : Nat) (R1 : Rt x n) (hfit : ∀ e ∈ x.edges, nf.Fits e) (hxe : x.e = (e : Int)) (eo : Option Addr) (ec : Nat) (W : World) (hE : Eds W eo ec x.edges) : Calls Try.prog 38 #[nfaV x.n x.s x.e eo x.edges.length ec] W fun ev W' => ∃ b mb h ob fb lo lc X D, ev = .returned (.pointer (some ⟨b, 0, none⟩)) ∧ Made W x n e eo ec W' b mb h ob fb lo lc X D (lsOf x) (xsOf x) := by
  have HR1 := (show Hid (Rt x n) from R1)
  have HE := (show Hid (Eds W eo ec x.edges) from hE)
  have HXE := (show Hid (x.e = (e : Int)) from hxe)
  have HFIT := (show Hid (∀ e ∈ x.edges, nf.Fits e) from hfit)
  have efit := hE.fit
  have etop := hE.top
  have hm16 := R1.m
  clear hxe hfit hE
  have hn1 := R1.n1
  have hn2 := R1.n2
  have hx := R1.hx
  have now := now_any n (by omega)
  unfold NowIs at now
  rw [hx]
  go_enter Try.func38, Try.ntmps38
  go_wp2_with (fail)
  obtain ⟨w1, HW1⟩ : ∃ w1, Hid (w1 = W.alloc (.cells #[.int .i64 (n : Int), .int .i64 x.s, .int .i64 x.e, .slice eo x.edges.length ec] 31)) := ⟨_, rfl⟩
  rw [← HW1.out]
  refine reg41_1 rfl ⟨W.heap.size, n, x.s, x.e, eo, x.edges.length, ec⟩ (by show n ≤ 1000000; omega) rfl (W := w1) ?_ ?_
  · intro w hb
    have hk : w.heap[W.heap.size]? = some (.cells #[.int .i64 (n : Int), .int .i64 x.s, .int .i64 x.e, .slice eo x.edges.length ec] 31 (0, 0)) := by
      rw [hb.block _ (by rw [HW1.out]; simp), HW1.out]; exact World.alloc_heap_new W _
    exact ⟨by rw [Lib.cell_of_heap hk]; rfl, by rw [Lib.cell_of_heap hk]; rfl, by rw [Lib.cell_of_heap hk]; rfl, by rw [Lib.cell_of_heap hk]; rfl⟩
  · intro vals w2 ob fb b v9 b2 l1 l2 l3 ho hf hb
    rw [fold41_1, v9]
    have HB2 := (show Hid (Below w1.heap.size w1 w2) from b2)
    have HO2 := (show Hid (w2.heap[ob]? = some (.cells ((List.range n).map fun _ => Value.slice none 0 0).toArray 29 (0, 0))) from ho)
    have HF2 := (show Hid (w2.heap[fb]? = some (.cells ((List.range n).map fun _ => Value.slice none 0 0).toArray 39 (0, 0))) from hf)
    have kb : BBox w2 b (hd0 n x.s x.e eo x.edges.length ec n ob fb) (.slice none 0 0) (.map none) (.slice none 0 0) (.slice none 0 0) := ⟨hb, by simp [hd0]⟩
    have hmm := @run_makeMap Try.prog
    have hmade := World.ownsMap_made w2 Try.prog 9 (plainElem (H := Unit) Try.prog 3)
    obtain ⟨w3, HW3⟩ : ∃ w3, Hid (w3 = w2.alloc (.map #[] 0)) := ⟨_, rfl⟩
    rw [← HW3.out] at hmade
    have k3 := kb.keep (W' := w3) (by rw [HW3.out]; exact Below.heap_alloc _ _ _ kb.lt)
    have hnow := now b w3 (by rw [k3.c0]; rfl)
    have HK3 := (show Hid _ from k3)
    clear b2 ho hf hb now k3 kb
    have h53 : ∀ w4 : World, w4 = w3.alloc (.cells (scells (List.replicate n none4)) 25) → Calls Try.prog 59 #[.pointer (some ⟨b, 0, none⟩), .slice (some ⟨w3.heap.size, 0, none⟩) n n, .int .u8 0] w4 fun e w' => e = .returned (.string (txtB (off n))) ∧ Below w4.heap.size w4 w' := fun w4 e4 => by
      have k4 := HK3.out.keep (W' := w4) (by rw [e4]; exact Below.heap_alloc _ _ _ HK3.out.lt)
      have r4 : SRow w4 w3.heap.size (List.replicate n none4) := by rw [e4]; exact srow_new w3 _
      have := text_sig (List.replicate n none4) (fun r hr => by rw [List.eq_of_mem_replicate hr]; exact st.fits_none) (by simp; omega) (by simp; omega) 0 (by omega) b (.slice (some ⟨w3.heap.size, 0, none⟩) n n) w4 k4.lt (by rw [k4.c0]; simp [hd0]) (by have := r4.sets (by simp; omega); simpa using this)
      rw [sig_off] at this
      exact this
    have hlt : w2.heap.size < w3.heap.size := by rw [HW3.out]; simp
    have hbm : b < w2.heap.size := by
      have := HK3.out.lt
      refine Nat.lt_of_le_of_ne (by rw [HW3.out] at this; simp at this; omega) fun e => ?_
      have h1 := HK3.out.blk
      rw [HW3.out, e, World.alloc_heap_new] at h1
      cases h1
    have hkey : keyOf Try.prog 9 (.string (txtB (off n))) = some (.string (txt (off n))) := key_of (off n) (by rw [off_len]; omega)
    have HBX := (show Hid (∀ w5 w6 : World, Below w3.heap.size w3 w5 → w5.grownBy w6 (some w2.heap.size) → (w6.setCell ⟨b, 8, none⟩ (.map (some w2.heap.size))).heap[W.heap.size]? = some (.cells #[.int .i64 (n : Int), .int .i64 x.s, .int .i64 x.e, .slice eo x.edges.length ec] 31 (0, 0))) from fun w5 w6 h5 h6 => by
      have q0 : W.heap.size < w1.heap.size := by rw [HW1.out]; simp
      have e0 : w2.heap[W.heap.size]? = some (.cells #[.int .i64 (n : Int), .int .i64 x.s, .int .i64 x.e, .slice eo x.edges.length ec] 31 (0, 0)) := by
        rw [HB2.out.block _ q0, HW1.out]; exact World.alloc_heap_new W _
      have e3 : w3.heap[W.heap.size]? = some (.cells #[.int .i64 (n : Int), .int .i64 x.s, .int .i64 x.e, .slice eo x.edges.length ec] 31 (0, 0)) := by rw [HW3.out]; exact old_at e0 _
      have q2 := HB2.out.size
      have e5 := (h5.block W.heap.size (by omega)).trans e3
      have q5 := h5.size
      have e6 := (h6.block W.heap.size (by omega) (by intro e; have := Option.some.inj e; omega)).trans e5
      exact (Below.heap_setCell _ _ _ _ (by show W.heap.size ≠ b; omega)).trans e6)
    go_wp2_with (first | (go_at_call 60; rw [← HW3.out]; refine hnow.mono ?_; rintro ev w4 ⟨rfl, hw4⟩; have h53' := h53 w4 hw4; have b4 := below_eq hw4; clear hw4) | (go_at_call 59; refine h53'.mono ?_; rintro ev w5 ⟨rfl, b5⟩; have b35 := st.chain b4 b5; have hm5 := map_keep hmade (b35.block _ hlt); have HK5 := (show Hid _ from HK3.out.keep (b35.block b HK3.out.lt))) | (refine insert_own _ (by rfl) (.tmp 19) (.tmp 23) (.const (.int .i64 (-1))) (by rfl) w2.heap.size 0 (.map []) (by rfl) hm5 (by unfold maxLen; omega) (.string (txtB (off n))) (.int .i64 (-1)) (.string (txt (off n))) (by rfl) (by rfl) hkey (.lit (.int .i64 (-1))) [] (plainElem_int Try.underlying3 (WalkArith.wf_i64 (by omega))) ?_; intro w6 hown6 hgr6; have HK6 := (show Hid _ from HK5.out.keep (hgr6.block b HK5.out.lt (by intro e; cases e; omega))); have z8 := HK6.out.c8; have y8 := HK6.out.fz 8; have HB7 := (show Hid _ from HBX.out w5 w6 b35 hgr6); have c3 := cell3 HB7.out))
    obtain ⟨h, HH⟩ : ∃ h, Hid (h = hd0 n x.s x.e eo x.edges.length ec n ob fb) := ⟨_, rfl⟩
    obtain ⟨w8, HW8⟩ : ∃ w8, Hid (w8 = w6.setCell ⟨b, 8, none⟩ (.map (some w2.heap.size))) := ⟨_, rfl⟩
    obtain ⟨D, mb, HMO, HST⟩ : ∃ D mb, Hid (MapOk n [] D) ∧ Hid (L1 W h n b mb ob fb D [] [] (.slice none 0 0) (fun _ => .slice none 0 0) (fun _ => .slice none 0 0) w8) := by
      have c1 : Below W.heap.size W w1 := by rw [HW1.out]; exact nf.below_alloc _ _
      have c2 : Below W.heap.size W w2 := st.chain c1 HB2.out
      have q := c1.size
      refine ⟨_, w2.heap.size, map_start n, ?_⟩
      show L1 _ _ _ _ _ _ _ _ _ _ _ _ _ _
      rw [HW8.out, HH.out]
      exact L1.start (by omega) c2 HO2.out HF2.out (by omega) (by omega) (by omega) HW3.out b35 hgr6 HK6.out hown6
    rw [← HW8.out]
    clear hmade hmm hnow h53 h53' b4 b5 b35 hm5 HK5 hown6 hgr6 HK6 z8 y8 HB7 c3 HBX HK3 HW3 HO2 HF2 HB2 v9 hlt hkey l1 l2 l3 HW1 HW8 hbm
    go_loopw [4, 30] (fun v z wr => ∃ (i : Nat) (Vo Vf : Nat → Value), z = .int .i64 i ∧ i ≤ x.edges.length ∧ Hid (L1 W h n b mb ob fb D (x.edges.take i) (parts (x.edges.take i)) v Vo Vf wr)) (fun _ z _ => x.edges.length - (intOf z).toNat)
    case atStart => exact ⟨0, _, _, rfl, by omega, HST⟩
    case round =>
      obtain ⟨i, Vo, Vf, rfl, hi, HI⟩ := hrel
      obtain ⟨v, rfl⟩ : ∃ v, v = u4 := ⟨_, rfl⟩
      clear HST
      by_cases hend : i < x.edges.length
      · obtain ⟨eb, eoff, rfl, heb, hed⟩ := (HE.out.later HI.out.be).lie i hend
        obtain ⟨c0, c1, c2, c3, c4, c5, c6⟩ := hed
        have HTK := (show Hid (x.edges.take (i + 1) = x.edges.take i ++ [x.edges[i]]) from List.take_succ_eq_append_getElem hend)
        have hfr := HR1.out.fr x.edges[i] (List.getElem_mem hend)
        have HLL := (show Hid ((x.edges.take i).length ≤ 1000000) from by show _ ≤ _; rw [List.length_take]; omega)
        generalize x.edges[i] = y at *
        generalize x.edges.take i = l at *
        obtain ⟨s, hs⟩ : ∃ s : Nat, y.fr = (s : Int) := ⟨y.fr.toNat, by omega⟩
        have HS := (show Hid (y.fr = (s : Int)) from hs)
        have hsn : s < n := by omega
        have HNP := (show Hid (¬ Mine ob fb n Vo Vf wr.heap.size) from fun m => by have := (HI.out.nb.lt m).2; omega)
        have HSZ := (show Hid (W.heap.size ≤ wr.heap.size) from HI.out.be.size)
        clear hs hfr heb
        cases hf : y.free with
        | true =>
          rw [hf] at c2
          obtain ⟨w9, HW9⟩ : ∃ w9, Hid (w9 = wr.alloc (.cells #[.int .i64 y.fr, .int .i64 y.to, .bool true, .int .u64 y.a, .int .u64 y.b, .int .u64 y.c, .int .u64 y.d] 68)) := ⟨_, rfl⟩
          have HEB := (show Hid (EBox w9 wr.heap.size y) from by show EBox _ _ _; rw [HW9.out]; unfold EBox; rw [hf]; exact heap_alloc_new wr _)
          have HBW := (show Hid (Below wr.heap.size wr w9) from by show Below _ _ _; rw [HW9.out]; exact nf.below_alloc _ _)
          have HFF := (show Hid (y.free = true) from hf)
          clear hf
          go_wp2_with (fail)
          rw [← HW9.out]
          refine put_free rfl rfl rfl (HI.out.later HBW.out).nb (HI.out.later HBW.out).bx (by rw [HH.out]; rfl) HEB.out HNP.out (by have := HBW.out.size; have := HSZ.out; omega) HLL.out hsn HS.out HFF.out ?_
          intro vals Vf' w' hnb hst
          rw [fold41_8]
          have HN := (show Hid (L1 W h n b mb ob fb D (l ++ [y]) (parts (l ++ [y])) v Vo Vf' w') from by show L1 _ _ _ _ _ _ _ _ _ _ _ _ _ _; rw [parts_free l y HFF.out]; exact (HI.out.later HBW.out).stay hnb hst)
          clear hnb hst HEB HBW HNP HI c0 c1 c2 c3 c4 c5 c6 HW9
          go_wp2_with (fail)
          go_roundw
          case rel => exact ⟨i + 1, Vo, Vf', by go_num, by omega, by rw [HTK.out]; exact HN⟩
          case measure => simp [intOf]; omega
        | false =>
          rw [hf] at c2
          obtain ⟨w9, HW9⟩ : ∃ w9, Hid (w9 = wr.alloc (.cells #[.int .i64 y.fr, .int .i64 y.to, .bool false, .int .u64 y.a, .int .u64 y.b, .int .u64 y.c, .int .u64 y.d] 68)) := ⟨_, rfl⟩
          have HEB := (show Hid (EBox w9 wr.heap.size y) from by show EBox _ _ _; rw [HW9.out]; unfold EBox; rw [hf]; exact heap_alloc_new wr _)
          have HBW := (show Hid (Below wr.heap.size wr w9) from by show Below _ _ _; rw [HW9.out]; exact nf.below_alloc _ _)
          have HFF := (show Hid (y.free = false) from hf)
          clear hf
          go_wp2_with (fail)
          rw [← HW9.out]
          refine put_over rfl rfl rfl (HI.out.later HBW.out).nb (HI.out.later HBW.out).bx (by rw [HH.out]; rfl) HEB.out HNP.out (by have := HBW.out.size; have := HSZ.out; omega) HLL.out hsn HS.out HFF.out ?_
          intro vals Vo' w' hnb hst
          rw [fold41_9]
          have HN := (show Hid (L1 W h n b mb ob fb D (l ++ [y]) (parts l) v Vo' Vf w') from (HI.out.later HBW.out).stay hnb hst)
          have HE2 := (show Hid (EBox w' wr.heap.size y) from (hst.block _ HEB.out.lt HNP.out).trans HEB.out)
          obtain ⟨d3, d4, d5, d6⟩ := HE2.out.c3
          have HPL := (show Hid ((parts l).length ≤ 1000000) from Nat.le_trans (parts_len l) HLL.out)
          have HS2 := (show Hid (W.heap.size ≤ w'.heap.size) from HN.out.be.size)
          have HPO := (show Hid (parts (l ++ [y]) = parts l ++ [nf.setOf y]) from parts_over l y HFF.out)
          clear hnb hst HEB HBW HNP HI c0 c1 c2 c3 c4 c5 c6 HW9 HE2
          generalize nf.setOf y = q at *
          generalize parts l = pl at *
          go_wp2_with (at_builtin; refine ow.wpList_append (by rfl) (.tmp 73) (.tmp 76) 112 (by rfl) 25 _ 4 32 Try.underlying112 info25 (by rfl) (by decide) (by decide) W.heap.size v pl.length (st.cells4 pl) w'.heap.size [.int .u64 q.a, .int .u64 q.b, .int .u64 q.c, .int .u64 q.d] (by rfl) (by rfl) (by exact ow.later HN.out.pr (nf.below_alloc _ _)) (by rfl) (by exact st.four_cells w' q) (by exact st.four_one q) (by exact HPL.out) (by rw [World.size_alloc]; have := HS2.out; omega) ?_; intro g' cap' w12 ho hg hnw; have HN2 := (show Hid _ from (HN.out.later (nf.below_alloc _ _)).app (q := q) ho hg); clear ho hg hnw)
          go_roundw
          case rel => exact ⟨i + 1, Vo', Vf, by go_num, by omega, by rw [HTK.out, HPO.out]; exact HN2⟩
          case measure => simp [intOf]; omega
      · have HI2 := (show Hid (L1 W h n b mb ob fb D x.edges (parts x.edges) v Vo Vf wr) from by have := HI.out; rw [List.take_of_length_le (by omega)] at this; exact this)
        have h55 : Calls Try.prog 61 #[v] wr fun e w' => e = .returned (.tuple #[.agg (st.cells36 (xsOf x)), .int .i64 ((lsOf x).length : Nat)]) ∧ Below wr.heap.size wr w' := st.classes_any (parts x.edges) (parts_fit HFIT.out) (by have := parts_len x.edges; omega) v wr HI2.out.pr.sets
        have HXL := (show Hid ((xsOf x).length = 256) from xs_len x)
        obtain ⟨R, HR0, HR1', HRN⟩ : ∃ R : Nat → List Nat, Hid (R 0 = []) ∧ Hid (R 256 = lsOf x) ∧ Hid (∀ i, i < 256 → ∃ c : Nat, (xsOf x)[i]? = some c ∧ (c = (R i).length ∧ R (i + 1) = R i ++ [i] ∨ c < (R i).length ∧ R (i + 1) = R i)) :=
          ⟨st.repsBy (st.like (parts x.edges)), rfl, rfl, fun i hi => ⟨_, xs_at x i hi, cls_new x i⟩⟩
        have HRL := (show Hid (∀ i, i ≤ 256 → (R i).length ≤ i) from by
          intro i
          induction i with
          | zero => intro _; rw [HR0.out]; exact Nat.le_refl _
          | succ i ih =>
            intro hi
            obtain ⟨c, _, h | h⟩ := HRN.out i (by omega)
            · rw [h.2]; have := ih (by omega); simp; omega
            · rw [h.2]; have := ih (by omega); omega)
        obtain ⟨xs, HXS⟩ : ∃ xs, Hid (xs = xsOf x) := ⟨_, rfl⟩
        rw [← HXS.out] at h55 HXL HRN
        obtain ⟨kk, HKK⟩ : ∃ kk, Hid (kk = (lsOf x).length) := ⟨_, rfl⟩
        rw [← HKK.out] at h55
        clear HI HKK
        have HCS := (show Hid ((st.cells36 xs).size = 256) from st.cells36_size xs HXL.out)
        have HNX := (show Hid (∀ w1, Below wr.heap.size wr w1 → w1.there b 9 (st.cells36 xs).size ∧ L2 W { h with cl := xs.map fun y : Nat => Value.int .u8 (y : Int) } n b mb ob fb D x.edges Vo Vf [] (.slice none 0 0) (w1.setCells b 9 (st.cells36 xs).toList)) from fun w1 c => by
          refine ⟨by rw [HCS.out]; exact (HI2.out.later c).bx.there, ?_⟩
          have : (st.cells36 xs).toList = xs.map fun y : Nat => Value.int .u8 (y : Int) := by simp [st.cells36]
          rw [this]
          exact HI2.out.next (by rw [HH.out]; rfl) c _ (by rw [List.length_map]; exact HXL.out))
        clear HI2
        go_wp2_with (first | (go_at_call 61; refine h55.mono ?_; rintro ev w10 ⟨rfl, b10⟩; obtain ⟨th, l2⟩ := HNX.out w10 b10; have HL2 := (show Hid _ from l2); clear l2 b10) | (refine wpList_store_mid (by rfl) 48 (.tmp 87) (.tmp 83) (by rfl) b 9 (st.cells36 xs) (by rfl) (by rfl) th (st.info36 xs HXL.out) (st.cells36_one xs) ?_; clear th) | (refine wpList_load_mid (by rfl) 48 (.tmp 91) (by rfl) b 9 (by rfl) (xs.map fun y : Nat => Value.int .u8 (y : Int)) _ (by exact HL2.out.bx.classes) Try.underlying48 (by rfl) (by rw [List.length_map, HXL.out]; exact df.info48) ?_))
        obtain ⟨w11, HW11⟩ : ∃ w11, Hid (w11 = w10.setCells b 9 (st.cells36 xs).toList) := ⟨_, rfl⟩
        rw [← HW11.out] at HL2 ⊢
        obtain ⟨h1, HH1⟩ : ∃ h1 : Hd, Hid (h1 = ({ h with cl := xs.map fun y : Nat => Value.int .u8 (y : Int) } : Hd)) := ⟨_, rfl⟩
        rw [← HH1.out] at HL2
        clear HW11 HNX h55
        have HCL := (show Hid ((xs.map fun y : Nat => Value.int .u8 (y : Int)).toArray = st.cells36 xs) from rfl)
        rw [HCL.out]
        go_loopw [93] (fun z wr => ∃ (i : Nat) (vl : Value), z = .int .i64 i ∧ i ≤ 256 ∧ Hid (L2 W h1 n b mb ob fb D x.edges Vo Vf (R i) vl wr)) (fun z _ => 256 - (intOf z).toNat)
        case atStart => exact ⟨0, .slice none 0 0, rfl, by omega, by rw [HR0.out]; exact HL2⟩
        case round =>
          obtain ⟨i, vl, rfl, hi2, HI⟩ := hrel
          clear HL2
          obtain ⟨go, lcap, rfl, hf1, hf2⟩ := ow.form HI.out.lr
          by_cases hin : i < 256
          · obtain ⟨c, hxc, hnc⟩ := HRN.out i hin
            have hix : ∀ W, (Instr.index 48 (.agg (st.cells36 xs)) (.int .i64 (i : Int))).run Try.prog W = .ok (.int .u8 (c : Int)) W := fun W => df.run_index_arr 48 5 256 _ i hin _ (by unfold st.cells36; rw [List.getElem?_toArray, List.getElem?_map, hxc]; rfl) W Try.underlying48 (Try.isAgg5 W) (Try.sizeOf5 W)
            have hlen := HRL.out i hi2
            have c6 : wr.cell? ⟨b, 6, none⟩ = some (.slice go (R i).length lcap) := HI.out.bx.c6
            have hd2 : decide ((i : Int) < 256) = true := by simp; omega
            have hd1 : decide (i < 256) = true := by simp [hin]
            obtain ⟨k, HK⟩ : ∃ k, Hid (k = (R i).length) := ⟨_, rfl⟩
            rw [← HK.out] at hnc hlen c6 hf1
            have hk256 : k < 256 := by omega
            rcases hnc with ⟨hck, e2⟩ | ⟨hlt, e2⟩
            · subst hck
              obtain ⟨k, rfl⟩ : ∃ k, k = c := ⟨_, rfl⟩
              have HSZ := (show Hid (W.heap.size ≤ wr.heap.size) from HI.out.be.size)
              have HOWN := (show Hid ((wr.alloc (.cells #[.int .u8 (i : Int)] 5)).ownsRow W.heap.size 5 1 (.slice go k lcap) k ((R i).map fun y : Nat => Value.int .u8 (y : Int))) from by show World.ownsRow _ _ _ _ _ _ _; rw [HK.out]; exact ow.later HI.out.lr (nf.below_alloc _ _))
              have HAPP := (show Hid (∀ (g' cap' : Nat) (w12 : World), w12.ownsRow W.heap.size 5 1 (.slice (some ⟨g', 0, none⟩) (k + 1) cap') (k + 1) (((R i).map fun y : Nat => Value.int .u8 (y : Int)) ++ [Value.int .u8 (i : Int)]) → (wr.alloc (.cells #[.int .u8 (i : Int)] 5)).grownBy w12 (Value.slice go k lcap).ownBlock →
                w12.cell? ⟨b, 6, none⟩ = some (.slice go k lcap) ∧ w12.frozen? ⟨b, 6, none⟩ = false ∧ L2 W h1 n b mb ob fb D x.edges Vo Vf (R (i + 1)) (.slice (some ⟨g', 0, none⟩) (k + 1) cap') (w12.setCell ⟨b, 6, none⟩ (.slice (some ⟨g', 0, none⟩) (k + 1) cap'))) from by
                intro g' cap' w12 ho hg
                rw [HK.out] at ho hg ⊢
                obtain ⟨q1, q2⟩ := HI.out.app (nf.below_alloc _ _) ho hg
                exact ⟨q1.c6, q1.fz 6, by rw [e2]; exact q2⟩)
              clear e2 hxc
              generalize ((R i).map fun y : Nat => Value.int .u8 (y : Int)) = rs at *
              go_wp2_with (at_builtin; refine ow.wpList_append (by rfl) (.tmp 109) (.tmp 112) 84 (by rfl) 5 _ 1 1 Try.underlying84 info5 (by rfl) (by decide) (by decide) W.heap.size (.slice go k lcap) k rs wr.heap.size [.int .u8 (i : Int)] (by rfl) (by rfl) (by exact HOWN.out) (by rfl) (by exact ow.new1 wr (.int .u8 (i : Int)) 5) (by exact ow.one1 _ rfl) (by omega) (by rw [World.size_alloc]; have := HSZ.out; omega) ?_; intro g' cap' w12 ho hg hnw; obtain ⟨z6, y6, l2⟩ := HAPP.out g' cap' w12 ho hg; have HN2 := (show Hid _ from l2); clear ho hg hnw l2)
              go_roundw
              case rel => exact ⟨i + 1, _, by go_num, by omega, HN2⟩
              case measure => simp [intOf]; omega
            · have HE2 := (show Hid _ from e2)
              have hne : ((c : Int) == (k : Int)) = false := by rw [beq_eq_false_iff_ne]; omega
              have hc256 : c < 256 := by omega
              clear e2 hxc hlt
              rw [← HK.out] at HI
              go_wp2_with (fail)
              go_roundw
              case rel => exact ⟨i + 1, _, by go_num, by omega, by rw [HE2.out]; exact HI⟩
              case measure => simp [intOf]; omega
          · have he : i = 256 := by omega
            subst he
            have HI3 := (show Hid (L2 W h1 n b mb ob fb D x.edges Vo Vf (lsOf x) (.slice go (lsOf x).length lcap) wr) from by have := HI.out; rw [HR1'.out] at this; exact this)
            clear HI hf1
            have hd2 : decide ((256 : Int) < 256) = false := by simp
            go_wp2_with (fail)
            go_ret
            obtain ⟨h2, X, hm⟩ := HI3.out.made HR1.out HXE.out (xs := xs) (eo := eo) (ec := ec) HMO.out (by rw [HH1.out, HH.out])
            rw [HXS.out] at hm
            exact ⟨b, mb, h2, ob, fb, go, lcap, X, D, rfl, hm⟩
end Go.Proofs.Ytfilndgbgdnpiaa.bd
