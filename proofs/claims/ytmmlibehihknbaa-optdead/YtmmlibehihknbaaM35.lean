/-
  Texts put together: Contracts over this program: the document's Eval (fretsawref19), walked. Plain: how long texts become behind machines of short texts. The law IrTells, walked.
-/
import Derived.Test.YtmmlibehihknbaaKVc
import Derived.Deep.RegionLaw
import Derived.Deep.RegionWith
import Derived.Test.YtmmlibehihknbaaM11
namespace Go.Proofs.Ytmmlibehihknbaa.ir
open Go.ChangeShapes Go.WideShapes Go.ChangeAt Go.RowKit Go.Shelf
open mg (Row In iv IntsV chain below_alloc Mg Mgs app idsOf)
open tr (Mc Mp mv MAt Buf bs)
set_option linter.unusedVariables false
set_option linter.unusedSimpArgs false
set_option maxRecDepth 100000

set_option maxHeartbeats 8000000 in
theorem reval_many (b off cap n k k1 k2 : Nat) (hk : k ≤ 4) (h0 : n = k + 3) (h1 : k1 = k + 1) (h2 : k2 = k + 2) (l : List Sm) (x0 x1 x2 : Sm) (K : Kinds l k x0 x1 x2) (w : World) (h : Gs w (some ⟨b, off, none⟩) cap l) (s : ByteArray) (hs : s.size ≤ 4096) (hbd : ∀ t, chainT (mcs l k) s = some t → t.size ≤ 100000) : Calls Try.prog 10 #[.slice (some ⟨b, off, none⟩) n cap, .string s] w (REvalOut l k x0 x1 x2 s w) := by
  have hlen := K.len
  have hc1 := h.fit
  have hc2 := h.top
  rw [hlen, ← h0] at hc1
  have HS := (show Hid (∀ W, Below w.heap.size w W → ∀ i (hi : i < l.length), W.rangeAt b (off + i * 523) (svL l[i].g l[i].p) ∧ SmAt W l[i]) from fun W k i hi => by
    obtain ⟨b', off', e, _, hr, hs⟩ := (h.later k).lie i hi
    simp at e
    obtain ⟨rfl, rfl⟩ := e
    exact ⟨hr, hs⟩)
  have HK := (show Hid (Kinds l k x0 x1 x2) from K)
  have HT := (show Hid (∀ W, Below w.heap.size w W → Lst W b off k k1 k2 x0 x1 x2) from fun W c => by
    have a0 := HS.out W c k (by omega)
    have a1 := HS.out W c k1 (by omega)
    have a2 := HS.out W c k2 (by omega)
    have e0 := K.e0
    have e1 := K.e1
    have e2 := K.e2
    rw [← h1] at e1
    rw [← h2] at e2
    rw [List.getElem?_eq_getElem (by omega)] at e0 e1 e2
    rw [Option.some.inj e0] at a0
    rw [Option.some.inj e1] at a1
    rw [Option.some.inj e2] at a2
    exact ⟨a0.1, a1.1, a2.1, a0.2, a1.2, a2.2⟩)
  have HL := (show Hid (l.length = n) from by show _ = _; omega)
  have f0 : ((n : Nat) : Int) - 3 = (k : Int) := by omega
  have f1 : ((n : Nat) : Int) - 2 = (k1 : Int) := by omega
  have f2 : ((n : Nat) : Int) - 1 = (k2 : Int) := by omega
  have hkn : k < n := by omega
  have hkn1 : k1 < n := by omega
  have hkn2 : k2 < n := by omega
  have w0 : IntKind.i64.wrap (k : Int) = (k : Int) := IntWalk.i64_in _ (by omega)
  have w1 : IntKind.i64.wrap (k1 : Int) = (k1 : Int) := IntWalk.i64_in _ (by omega)
  have w2 : IntKind.i64.wrap (k2 : Int) = (k2 : Int) := IntWalk.i64_in _ (by omega)
  have HBD := (show Hid (∀ t, chainT (mcs l k) s = some t → t.size ≤ 100000) from hbd)
  have HT0 := (show Hid (chainT (mcs l 0) s = some s) from by show _ = _; simp [mcs, chainT])
  clear h hlen h0 h1 h2 K hbd
  go_enter Try.func10, Try.ntmps10
  go_wp2_with (fail)
  go_loopw [1, 7] (fun y z wr => ∃ (i : Nat) (t : ByteArray), y = .string t ∧ z = .int .i64 (i : Int) ∧ i ≤ k ∧ t.size ≤ 262144 ∧ Hid (chainT (mcs l i) s = some t) ∧ Hid (Below w.heap.size w wr)) (fun _ z _ => k - (intOf z).toNat)
  case atStart => exact ⟨0, s, rfl, rfl, by omega, by omega, HT0, Below.refl _ _⟩
  case round =>
    clear HT0
    obtain ⟨i, t, rfl, rfl, hi, hts, HC, HB⟩ := hrel
    by_cases hend : i < k
    · have fk : decide ((i : Int) < (k : Int)) = true := decide_eq_true (by omega)
      have hil : i < l.length := by rw [HL.out]; omega
      have hin : i < n := by omega
      obtain ⟨hrg, hsm⟩ := HS.out wr HB.out i hil
      have rmc := row_mc hrg
      have hR := (HK.out.ms i hil hend).2
      have c23 := tr.rrun_any l[i].m (tr.right_iff.1 hR) t (by omega) 262144 (by omega) _ _ rfl rfl l[i].q wr hsm.m
      rw [show (Value.agg (mv l[i].m l[i].q)) = .agg l[i].g.mc.toArray by rw [hsm.e]] at c23
      have i1 : (Try.prog.info? 32).map (·.size) = some l[i].g.mc.length := by rw [hsm.s.mc]; exact info32
      obtain ⟨q, hq⟩ : ∃ q, q = stepT l[i].m t := ⟨_, rfl⟩
      have HN := (show Hid (∀ u, q = some u → chainT (mcs l (i + 1)) s = some u ∧ u.size ≤ 262144) from fun u e => by
        rw [mcs_snoc l i hil, chain_snoc _ _ _ _ HC.out, ← hq, e]
        exact ⟨rfl, step_size (hq.symm.trans e)⟩)
      have HD := (show Hid (q = none → chainT (mcs l k) s = none) from fun e => by
        obtain ⟨rest, e2⟩ := mcs_more l i k hil hend
        rw [e2]
        exact chain_dead _ _ _ _ _ HC.out (hq.symm.trans e))
      cases q with
      | none =>
        have e1 := step_none hq.symm
        rw [e1] at c23
        have HDD := (show Hid (chainT (mcs l k) s = none) from HD.out (by trivial))
        generalize tr.rrunT l[i].m t 262144 = u at *
        generalize l[i].g.mc = M at *
        clear hrg hsm HN hq e1 HC HD
        go_wp2_with (refine wpList_load_mid rfl 32 (.tmp 34) rfl b (off + i * 523 + 1) rfl M _ rmc Try.underlying32 rfl i1 ?_)
        go_at_call 23
        refine c23.mono ?_
        rintro e w4 ⟨rfl, b4⟩
        have HB4 := (show Hid (Below w.heap.size w w4) from chain HB.out b4)
        clear c23 b4 rmc
        go_wp2_with (fail)
        go_ret2
        exact .inl ⟨HDD.out, rfl, HB4.out⟩
      | some u =>
        obtain ⟨e0, e1⟩ := step_some hq.symm
        rw [e0, e1] at c23
        obtain ⟨e2, e3⟩ := HN.out u rfl
        have HC2 := (show Hid (chainT (mcs l (i + 1)) s = some u) from e2)
        generalize l[i].g.mc = M at *
        clear hrg hsm HN hq e0 e1 HC HD e2
        go_wp2_with (refine wpList_load_mid rfl 32 (.tmp 34) rfl b (off + i * 523 + 1) rfl M _ rmc Try.underlying32 rfl i1 ?_)
        go_at_call 23
        refine c23.mono ?_
        rintro e w4 ⟨rfl, b4⟩
        have HB4 := (show Hid (Below w.heap.size w w4) from chain HB.out b4)
        clear c23 b4 rmc
        go_wp2_with (fail)
        go_roundw
        case rel => exact ⟨i + 1, u, rfl, by go_num, by omega, e3, HC2, HB4⟩
        case measure => simp [intOf]; omega
    · have fk : decide ((i : Int) < (k : Int)) = false := decide_eq_false (by omega)
      have hie : i = k := by omega
      have HC2 := (show Hid (chainT (mcs l k) s = some t) from by rw [← hie]; exact HC.out)
      have htl := HBD.out t HC2.out
      clear HC hie hi
      obtain ⟨wo, HWO⟩ : ∃ wo, Hid (wo = wr.alloc (.cells #[] 5)) := ⟨_, rfl⟩
      have HBO := (show Hid (Below w.heap.size w wo) from by rw [HWO.out]; exact HB.out.alloc HB.out.size _)
      have hB0 : Buf w.heap.size (.slice (some ⟨wr.heap.size, 0, none⟩) 0 0) [] wo := by
        rw [HWO.out]
        exact ⟨⟨rfl, .inr ⟨wr.heap.size, 0, #[], rfl, HB.out.size, heap_alloc_new wr _, Nat.le_refl _, by unfold maxLen; omega, rfl, rfl⟩⟩, Nat.le_trans HB.out.size (by simp)⟩
      go_upto_region 10 with (fail)
      rw [← HWO.out]
      clear HWO
      obtain ⟨mp, hmp⟩ : ∃ mp, mp = x0.g.mp := ⟨_, rfl⟩
      have HMP := (show Hid (mp = x0.g.mp) from hmp)
      have HLT := (show Hid (∀ x, x < 256 → mp x < 256) from fun x _ => by rw [hmp]; exact (HT.out w (Below.refl _ _)).s0.s.mp x)
      have HCL := (show Hid (∀ W, Below w.heap.size w W → ∀ x, x < 256 → W.cell? ⟨b, off + k * 523 + 263 + x, none⟩ = some (.int .u8 (mp x : Nat))) from fun W c x hx => by
        have hL := HT.out W c
        rw [hmp]
        exact mapL_cell (row_mp hL.r0 hL.s0.s) x hx)
      clear hmp
      go_wp2_with (fail)
      go_loopw [10, 11] (fun y z wr => ∃ (i : Nat) (xs : List UInt8), z = .int .i64 (i : Int) ∧ i ≤ t.size ∧ xs.length = i ∧ Buf w.heap.size y xs wr ∧ Below w.heap.size w wr ∧ Hid (xs = (t.data.toList.take i).map fun c => by8 (mp c.toNat))) (fun _ z _ => t.size - (intOf z).toNat)
      case atStart => exact ⟨0, [], rfl, by omega, rfl, hB0, HBO.out, by show _ = _; simp⟩
      case round =>
        clear hB0 HBO
        obtain ⟨i, xs, rfl, hi, hxl, hbuf, hBq, HX⟩ := hrel
        subst hxl
        obtain ⟨vg, vc, rfl, v1, v2⟩ := hbuf.form
        by_cases hin : xs.length < t.size
        · have hii : (xs.length : Int) < (t.size : Int) := by omega
          have hi2 : xs.length < t.data.toList.length := by rw [tr.list_len]; exact hin
          have h8 := t[xs.length].toNat_lt
          have kc := HCL.out wr hBq t[xs.length].toNat h8
          have hlt := HLT.out t[xs.length].toNat h8
          have HNX := (show Hid (xs ++ [by8 (mp t[xs.length].toNat)] = (t.data.toList.take (xs.length + 1)).map fun c => by8 (mp c.toNat)) from by
            show _ = _
            rw [list_take _ _ hi2, List.map_append, ← HX.out]
            rfl)
          have h8i : ((t[xs.length].toNat : Nat) : Int) < 256 := by omega
          have e8 : ((mp t[xs.length].toNat : Nat) : Int) = ((by8 (mp t[xs.length].toNat)).toNat : Int) := by rw [by8_nat _ hlt]
          rw [e8] at kc
          clear e8 hlt
          generalize by8 (mp t[xs.length].toNat) = y at *
          have HO : Hid ((wr.alloc (.cells #[.int .u8 (y.toNat : Int)] 5)).drew.ownsRow w.heap.size 5 1 (.slice vg xs.length vc) xs.length (Lib.byteCells xs)) := (hbuf.1.alloc _).drew
          have HN2 : Hid (∀ j u, [Value.int .u8 (y.toNat : Int)][j]? = some u → (wr.alloc (.cells #[.int .u8 (y.toNat : Int)] 5)).drew.cell? ((⟨wr.heap.size, 0, none⟩ : Addr).add j) = some u) := ow.new1 wr _ 5
          have HBw : Hid (w.heap.size ≤ (wr.alloc (.cells #[.int .u8 (y.toNat : Int)] 5)).drew.heap.size) := Nat.le_trans hBq.size (by show _ ≤ (wr.alloc _).heap.size; simp)
          have HBB : Hid (Below w.heap.size w (wr.alloc (.cells #[.int .u8 (y.toNat : Int)] 5)).drew) := (hBq.alloc hBq.size _).drew
          clear hbuf HX
          go_wp2_with (fail)
          go_region_law (refine ow.step_append (by rfl) (.tmp 49) (.tmp 60) 63 (by rfl) 5 (.int .u8 0) 1 1 Try.underlying63 tr.info5 rfl (by omega) (by omega) w.heap.size (.slice vg xs.length vc) xs.length (Lib.byteCells xs) wr.heap.size [.int .u8 (y.toNat : Int)] (by rfl) (by rfl) HO.out rfl HN2.out (ow.one1 _ rfl) (by omega) HBw.out ?_; intro g' cap' wz h1 h2 h3)
          all_goals
            have hB2 : Below w.heap.size w wz := HBB.out.grown h2 HBB.out.size (fun q hq => (ow.lt HO.out hq).1)
            have hbuf2 : Buf w.heap.size (.slice (some ⟨g', 0, none⟩) (xs.length + 1) cap') (xs ++ [y]) wz := ⟨by
              rw [tr.byteCells_one, List.length_append]
              exact h1, hB2.size⟩
            clear h1 h2 h3 HO HN2 HBw HBB
            go_wp2_with (fail)
            go_roundw
            case rel => exact ⟨xs.length + 1, xs ++ [y], by go_num, by omega, by simp, hbuf2, hB2, HNX⟩
            case measure => simp [intOf]; omega
        · have hie : xs.length = t.size := by omega
          have HXX := (show Hid (bs xs = tT mp t) from by
            show _ = _
            rw [tT_bs, HX.out, List.take_of_length_le (by rw [tr.list_len]; omega)])
          have hcv := hbuf.conv
          have HBQ := (show Hid (Below w.heap.size w wr) from hBq)
          rw [show (⟨xs.toArray⟩ : ByteArray) = tT mp t from HXX.out] at hcv
          clear HX HXX hbuf hBq hi hin
          generalize xs.length = N at *
          subst hie
          obtain ⟨wv, HWV⟩ : ∃ wv, Hid (wv = wr.alloc (.cells #[] 3)) := ⟨_, rfl⟩
          have HBV := (show Hid (Below w.heap.size w wv) from by rw [HWV.out]; exact HBQ.out.alloc HBQ.out.size _)
          have HO0 := (show Hid (Ids wv w.heap.size (.slice (some ⟨wr.heap.size, 0, none⟩) 0 0) []) from by
            rw [HWV.out]
            exact ⟨rfl, .inr ⟨wr.heap.size, 0, #[], rfl, HBQ.out.size, heap_alloc_new wr _, Nat.le_refl _, by unfold maxLen; omega, rfl, rfl⟩⟩)
          have hL0 := HT.out w (Below.refl _ _)
          obtain ⟨bo, bc, ebf, hb1, hb2, HIB⟩ := iv_of hL0.s2.s.bf
          obtain ⟨ao, ac, eaf, ha1, ha2, HIA⟩ := iv_of hL0.s2.s.af
          have HVB := (show Hid (∀ W, Below w.heap.size w W → W.cell? ⟨b, off + k2 * 523 + 521, none⟩ = some (.slice bo x2.g.bf.length bc) ∧ W.cell? ⟨b, off + k2 * 523 + 522, none⟩ = some (.slice ao x2.g.af.length ac)) from fun W c => by
            have hL := HT.out W c
            obtain ⟨_, _, t1, t2⟩ := row_last hL.r2 hL.s2.s
            rw [← ebf, ← eaf]
            exact ⟨t1, t2⟩)
          obtain ⟨bf, hbf⟩ : ∃ bf, bf = x2.g.bf := ⟨_, rfl⟩
          obtain ⟨af, haf⟩ : ∃ af, af = x2.g.af := ⟨_, rfl⟩
          have HBF := (show Hid (bf = x2.g.bf ∧ af = x2.g.af ∧ bf.length ≤ 32 ∧ af.length ≤ 32) from ⟨hbf, haf, by rw [hbf]; exact ids_32 HK.out.r2, by rw [haf]; exact ids_32 HK.out.r3⟩)
          rw [← hbf] at HVB HIB hb1
          rw [← haf] at HVB HIA ha1
          obtain ⟨T, hT⟩ : ∃ T, T = tT mp t := ⟨_, rfl⟩
          have HTT := (show Hid (T = tT mp t) from hT)
          have hTs : T.size ≤ 100000 := by rw [hT, tT_size]; exact htl
          rw [← hT] at hcv
          have q521 := (HVB.out wv HBV.out).1
          clear hL0 ebf eaf hbf haf hT HCL HLT
          go_upto_region 15 with (fail)
          go_upto_region 16 with (fail)
          rw [← HWV.out]
          go_wp2_with (fail)
          clear HWV hcv
          go_loopw [12, 72] (fun y z wr => ∃ (i : Nat) (o : List Int) (og : Option Addr) (oc : Nat), y = .slice og o.length oc ∧ z = .int .i64 (i : Int) ∧ i ≤ bf.length ∧ Hid (o = bf.take i) ∧ Hid (Ids wr w.heap.size (.slice og o.length oc) o) ∧ Hid (Below w.heap.size w wr)) (fun _ z _ => bf.length - (intOf z).toNat)
          case atStart => exact ⟨0, [], _, _, rfl, rfl, by omega, by show _ = _; simp, HO0, HBV⟩
          case round =>
            clear HO0 HBV q521
            obtain ⟨i, o, og, oc, rfl, rfl, hi, HO, HI, HB3⟩ := hrel
            by_cases hin2 : i < bf.length
            · obtain ⟨bb, boff, rfl, hcell⟩ := HIB.out wr HB3.out i hin2
              have HN3 := (show Hid (o ++ [bf[i]] = bf.take (i + 1)) from by show _ = _; rw [list_take _ _ hin2, ← HO.out])
              have hol : o.length ≤ 32 := by rw [HO.out, List.length_take]; have := HBF.out.2.2.1; omega
              generalize bf[i] = z at *
              clear HO
              go_wp2_with (at_builtin; refine push_int rfl (.tmp 76) (.tmp 78) rfl w wr HB3.out (.slice og o.length oc) o z rfl rfl HI.out (by omega) ?_; intro g' cap' wz p1 p2 p3)
              have P1 := (show Hid _ from p1)
              have P2 := (show Hid (Below w.heap.size w wz) from p2)
              clear p1 p2 p3
              go_roundw
              case rel => exact ⟨i + 1, o ++ [z], _, cap', by simp, by go_num, by omega, HN3, P1, P2⟩
              case measure => simp [intOf]; omega
            · have HO2 := (show Hid (o = bf) from by show _ = _; rw [HO.out, List.take_of_length_le (by omega)])
              clear HO
              have hL1 := HT.out wr HB3.out
              have rcs := row_cs hL1.r0 hL1.s0.s
              have i1 := info36c x0.p.cs hL1.s0.s.d.size
              have c24 := pc.rsplit_any x0.g.d T HK.out.r0 (by omega) _ _ _ _ _ wr hL1.s0.s.d
              rw [show (Value.agg x0.p.cs) = .agg x0.p.cs.toList.toArray by simp] at c24
              obtain ⟨vmo, vmc, evm, hv1, hv2, _⟩ := hL1.s1.s.ms.form
              obtain ⟨dro, drc, edr, hd1⟩ := hL1.s1.s.dr
              have hd2 := hd1.fit
              have hd3 := hd1.top
              have hK4 : x1.g.ms.length ≤ 1024 := (mg.ok_run ((newE_0 _ _).1 HK.out.r1).1).1
              have HDT := (show Hid (∀ W, Below w.heap.size w W → W.cell? ⟨b, off + k1 * 523 + 519, none⟩ = some (.slice vmo x1.g.ms.length vmc) ∧ W.cell? ⟨b, off + k1 * 523 + 520, none⟩ = some (.slice dro x1.g.dr.length drc)) from fun W c => by
                have hL := HT.out W c
                obtain ⟨t1, t2, _, _⟩ := row_last hL.r1 hL.s1.s
                rw [← evm, ← edr]
                exact ⟨t1, t2⟩)
              have HTK := (show Hid (∀ W, Below w.heap.size w W → ∀ u : ByteArray, u.size ≤ 100000 → Calls Try.prog 25 #[.slice vmo x1.g.ms.length vmc, .slice dro x1.g.dr.length drc, .string u] W fun e w' => ∃ v', e = .returned v' ∧ Ids w' W.heap.size v' (app (hp.keptL x1.g.ms x1.g.dr) (idsOf u)) ∧ Below W.heap.size W w') from fun W c u hu => by
                have hL := HT.out W c
                have := hp.rtokens_any x1.g.ms hK4 x1.g.dr u hu x1.p.vm x1.p.vd W hL.s1.s.ms hL.s1.s.dr
                rw [evm, edr] at this
                exact this)
              have HFIN := (show Hid (∀ o', o' = bf ++ toksL (hp.keptL x1.g.ms x1.g.dr) (pc.textsL x0.g.d T) → o' ++ af = evalL x0.g x1.g x2.g t) from fun o' e => by
                unfold evalL toks pieces
                rw [← HBF.out.1, ← HBF.out.2.1, ← HMP.out, ← HTT.out, e])
              have HMN := (show Hid (x1.g.ms.length ≤ vmc ∧ vmc ≤ 9223372036854775807) from ⟨hv1, hv2⟩)
              rename_i hmsl
              clear hmsl evm edr hd1 hK4
              generalize x1.g.ms.length = nm at *
              generalize x1.g.dr.length = nd at *
              generalize hp.keptL x1.g.ms x1.g.dr = KK at *
              generalize x0.p.cs.toList = CC at *
              generalize x0.g.d = dd at *
              clear hL1
              go_wp2_with (refine wpList_load_mid rfl 36 (.tmp 85) rfl b (off + k * 523 + 5) rfl CC _ rcs Try.underlying36 rfl i1 ?_)
              go_at_call 24
              refine c24.mono ?_
              rintro e w8 ⟨ve, rfl, hve, b8⟩
              have hap := apart_new HI.out hve
              have HP0 := (show Hid (P4 w dd KK bf T ve wr.heap.size 0 0 o (.slice og o.length oc) w8) from
                ⟨ow.later HI.out b8, hve, hap, HB3.out.trans (b8.mono HB3.out.size), [], by simp, rfl, by rw [HO2.out]; simp [toksL]⟩)
              obtain ⟨veo, vec, rfl, e1, e2⟩ := ow.form hve
              obtain ⟨B8, HB8⟩ : ∃ B8, Hid (B8 = wr.heap.size) := ⟨_, rfl⟩
              rw [← HB8.out] at HP0
              have hbl := HBF.out.2.2.1
              have hal := HBF.out.2.2.2
              clear c24 hve hap b8 rcs i1 HI HO2 HB8
              go_wp2_with (fail)
              go_loopw [12, 15, 90] (fun y x z wr => ∃ (i fr : Nat) (o : List Int) (og : Option Addr) (oc : Nat), y = .slice og o.length oc ∧ x = .int .i64 (fr : Int) ∧ z = .int .i64 (i : Int) ∧ i ≤ (pc.endsL dd T).length ∧ Hid (P4 w dd KK bf T (.slice veo (pc.endsL dd T).length vec) B8 i fr o (.slice og o.length oc) wr)) (fun _ _ z _ => (pc.endsL dd T).length - (intOf z).toNat)
              case atStart => exact ⟨0, 0, _, _, _, rfl, rfl, rfl, by omega, HP0⟩
              case round =>
                clear HP0
                obtain ⟨i, fr, o, og, oc, rfl, rfl, rfl, hi, HP⟩ := hrel
                have hol := HP.out.len
                by_cases hin3 : i < (pc.endsL dd T).length
                · obtain ⟨hfr, hat, hsl, hse⟩ := HP.out.next hin3
                  obtain ⟨ge, ce, hve2, _, hce⟩ := ow.cell HP.out.ends i (by rw [List.length_map]; exact hin3)
                  rw [List.getElem_map, hat] at hce
                  simp only [Value.slice.injEq, true_and] at hve2
                  obtain ⟨rfl, rfl⟩ := hve2
                  have hce2 : wr.cell? ⟨ge, i, none⟩ = some (.int .i64 ((pc.stop dd T fr : Nat) : Int)) := hce
                  have HTC := (show Hid (∀ W, Below w.heap.size w W → Calls Try.prog 25 #[.slice vmo nm vmc, .slice dro nd drc, .string (T.extract fr (pc.stop dd T fr))] W fun e w' => ∃ v', e = .returned v' ∧ Ids w' W.heap.size v' (app KK (idsOf (T.extract fr (pc.stop dd T fr)))) ∧ Below W.heap.size W w') from fun W c => HTK.out W c _ (by rw [ByteArray.size_extract]; omega))
                  obtain ⟨tl, htl2⟩ : ∃ tl, tl = app KK (idsOf (T.extract fr (pc.stop dd T fr))) := ⟨_, rfl⟩
                  have HTL := (show Hid (tl = app KK (idsOf (T.extract fr (pc.stop dd T fr)))) from htl2)
                  rw [← htl2] at HTC
                  have c25 := HTC.out wr.drew (Below.drew HP.out.be)
                  obtain ⟨qt1, qt2⟩ := HDT.out wr HP.out.be
                  obtain ⟨qm1, qm2⟩ := HMN.out
                  have hfi : (fr : Int) ≤ ((pc.stop dd T fr : Nat) : Int) := by omega
                  have hsi : ((pc.stop dd T fr : Nat) : Int) ≤ (T.size : Int) := by omega
                  have HAT := (show Hid (app KK (idsOf (T.extract fr (pc.stop dd T fr))) = tl) from htl2.symm)
                  have HPU := (show Hid (∀ j o2 vo2 wz vt B2, P5 w (pc.endsL dd T) (.slice (some ⟨ge, 0, none⟩) (pc.endsL dd T).length vec) B8 tl vt B2 o j o2 vo2 wz → tl.length ≤ j → P4 w dd KK bf T (.slice (some ⟨ge, 0, none⟩) (pc.endsL dd T).length vec) B8 (i + 1) (pc.stop dd T fr) o2 vo2 wz) from fun j o2 vo2 wz vt B2 g hj => HP.out.put hfr htl2 g hj)
                  have htl3 : tl.length ≤ 100000 := by
                    rw [htl2]
                    have := mg.app_len KK (idsOf (T.extract fr (pc.stop dd T fr)))
                    rw [mg.idsOf_len, ByteArray.size_extract] at this
                    omega
                  clear htl2 hat hce HTC HAT HTL
                  generalize hpu : T.extract fr (pc.stop dd T fr) = pu at *
                  generalize pc.stop dd T fr = sp at *
                  go_upto_region 25 with (fail)
                  go_region_with (go_at_call 25; refine c25.mono ?_; rintro e w9 ⟨v9, rfl, hv9, b9⟩; have hb9 := (show Hid (Below wr.heap.size wr w9) from ⟨b9.os, b9.tape, b9.output, b9.size, b9.block⟩); obtain ⟨tg, tc, hv9e, ht1, ht2⟩ := ow.form hv9; subst hv9e; have H9 := (show Hid (Ids w9 wr.heap.size (.slice tg tl.length tc) tl) from hv9); clear hv9 b9)
                  all_goals
                    have HQ0 := (show Hid (P5 w (pc.endsL dd T) (.slice (some ⟨ge, 0, none⟩) (pc.endsL dd T).length vec) B8 tl (.slice tg tl.length tc) wr.heap.size o 0 o (.slice og o.length oc) w9) from
                      ⟨ow.later HP.out.out hb9.out, ow.later HP.out.ends hb9.out, HP.out.ap, H9.out, apart_new HP.out.out H9.out, HP.out.be.trans (hb9.out.mono HP.out.be.size), by simp⟩)
                    obtain ⟨B9, HB9⟩ : ∃ B9, Hid (B9 = wr.heap.size) := ⟨_, rfl⟩
                    rw [← HB9.out] at HQ0
                    clear H9 hb9 HP HB9 c25 hce2 qt1 qt2 qm1 qm2 hpu
                    first | refine (show Exit.then _ _ Exit.normal (Act.put _ (some 111) _) _ from ?_) | refine (show Exit.then _ _ Exit.normal (Act.put _ (some 112) _) _ from ?_)
                    simp only [Act.put, List.setIfInBounds_toArray, List.set_cons_zero, List.set_cons_succ]
                    go_wp2_with (fail)
                    go_loopw [12, 112] (fun y z wr => ∃ (j : Nat) (o2 : List Int) (og2 : Option Addr) (oc2 : Nat), y = .slice og2 o2.length oc2 ∧ z = .int .i64 (j : Int) ∧ j ≤ tl.length ∧ Hid (P5 w (pc.endsL dd T) (.slice (some ⟨ge, 0, none⟩) (pc.endsL dd T).length vec) B8 tl (.slice tg tl.length tc) B9 o j o2 (.slice og2 o2.length oc2) wr)) (fun _ z _ => tl.length - (intOf z).toNat)
                    case atStart => exact ⟨0, o, og, oc, rfl, rfl, by omega, HQ0⟩
                    case round =>
                      clear HQ0
                      obtain ⟨j, o2, og2, oc2, rfl, rfl, hj, HQ⟩ := hrel
                      have ho2 : o2.length ≤ 200100 := by
                        rw [HQ.out.eq, List.length_append, List.length_take]
                        omega
                      by_cases hjn : j < tl.length
                      · obtain ⟨tg', tc', hve3, _, hct⟩ := ow.cell HQ.out.toks j (by rw [List.length_map]; exact hjn)
                        rw [List.getElem_map] at hct
                        simp only [Value.slice.injEq, true_and] at hve3
                        obtain ⟨rfl, rfl⟩ := hve3
                        have hct2 : wr.cell? ⟨tg', j, none⟩ = some (.int .i64 tl[j]) := hct
                        have HJ := (show Hid (o2 ++ [tl[j]] = o ++ tl.take (j + 1)) from by show _ = _; rw [list_take _ _ hjn, HQ.out.eq, List.append_assoc])
                        clear hct
                        generalize tl[j] = z at *
                        go_wp2_with (at_builtin; refine push_int rfl (.tmp 116) (.tmp 118) rfl w wr HQ.out.be (.slice og2 o2.length oc2) o2 z rfl rfl HQ.out.out (by omega) ?_; intro g' cap' wz p1 p2 p3)
                        have HQ2 := (show Hid (P5 w (pc.endsL dd T) (.slice (some ⟨ge, 0, none⟩) (pc.endsL dd T).length vec) B8 tl (.slice (some ⟨tg', 0, none⟩) tl.length tc) B9 o (j + 1) (o2 ++ [z]) (.slice (some ⟨g', 0, none⟩) (o2 ++ [z]).length cap') wz) from by
                          obtain ⟨q1, q2⟩ := p3 _ _ _ HQ.out.ends HQ.out.ap
                          obtain ⟨q3, q4⟩ := p3 _ _ _ HQ.out.toks HQ.out.ap2
                          exact ⟨p1, q1, q2, q3, q4, p2, HJ.out⟩)
                        clear p1 p2 p3 HQ HJ
                        go_roundw
                        case rel => exact ⟨j + 1, o2 ++ [z], _, cap', by simp, by go_num, by omega, HQ2⟩
                        case measure => simp [intOf]; omega
                      · have HP2 := (show Hid _ from HPU.out j o2 _ wr _ _ HQ.out (by omega))
                        clear HQ
                        go_wp2_with (fail)
                        go_roundw
                        case rel => exact ⟨i + 1, sp, o2, og2, oc2, rfl, rfl, by go_num, by omega, HP2⟩
                        case measure => simp [intOf]; omega
                · have HO3 := (show Hid (o = bf ++ toksL KK (pc.textsL dd T)) from HP.out.done (by omega))
                  have HI4 := (show Hid (Ids wr w.heap.size (.slice og o.length oc) o) from HP.out.out)
                  have HB4 := (show Hid (Below w.heap.size w wr) from HP.out.be)
                  have q522 := (HVB.out wr HB4.out).2
                  have hol2 : o.length ≤ 100032 := by omega
                  obtain ⟨o0, ho0⟩ : ∃ o0, o0 = o := ⟨_, rfl⟩
                  have HO4 := (show Hid (o = o0 ++ af.take 0) from by show _ = _; rw [ho0]; simp)
                  have HFI := (show Hid (o0 ++ af = evalL x0.g x1.g x2.g t) from HFIN.out o0 (by rw [ho0]; exact HO3.out))
                  have ho0l : o0.length ≤ 100032 := by rw [ho0]; exact hol2
                  clear HP HO3 HFIN ho0 hol
                  go_wp2_with (fail)
                  go_loopw [12, 130] (fun y z wr => ∃ (i : Nat) (o : List Int) (og : Option Addr) (oc : Nat), y = .slice og o.length oc ∧ z = .int .i64 (i : Int) ∧ i ≤ af.length ∧ Hid (o = o0 ++ af.take i) ∧ Hid (Ids wr w.heap.size (.slice og o.length oc) o) ∧ Hid (Below w.heap.size w wr)) (fun _ z _ => af.length - (intOf z).toNat)
                  case atStart => exact ⟨0, o, og, oc, rfl, rfl, by omega, HO4, HI4, HB4⟩
                  case round =>
                    clear HO4 HI4 HB4 q522
                    obtain ⟨i, o, og, oc, rfl, rfl, hi, HO, HI, HB3⟩ := hrel
                    have hol3 : o.length ≤ 100064 := by rw [HO.out, List.length_append, List.length_take]; omega
                    by_cases hin2 : i < af.length
                    · obtain ⟨bb, boff, rfl, hcell⟩ := HIA.out wr HB3.out i hin2
                      have HN3 := (show Hid (o ++ [af[i]] = o0 ++ af.take (i + 1)) from by show _ = _; rw [list_take _ _ hin2, HO.out, List.append_assoc])
                      generalize af[i] = z at *
                      clear HO
                      go_wp2_with (at_builtin; refine push_int rfl (.tmp 134) (.tmp 136) rfl w wr HB3.out (.slice og o.length oc) o z rfl rfl HI.out (by omega) ?_; intro g' cap' wz p1 p2 p3)
                      have P1 := (show Hid _ from p1)
                      have P2 := (show Hid (Below w.heap.size w wz) from p2)
                      clear p1 p2 p3
                      go_roundw
                      case rel => exact ⟨i + 1, o ++ [z], _, cap', by simp, by go_num, by omega, HN3, P1, P2⟩
                      case measure => simp [intOf]; omega
                    · have HO2 := (show Hid (o = evalL x0.g x1.g x2.g t) from by
                        show _ = _
                        rw [HO.out, List.take_of_length_le (by omega)]
                        exact HFI.out)
                      clear HO
                      go_wp2_with (fail)
                      go_ret2
                      exact .inr ⟨t, _, HC2.out, rfl, by rw [← HO2.out]; exact HI.out, HB3.out⟩
end Go.Proofs.Ytmmlibehihknbaa.ir

namespace Go.Proofs.Ytmmlibehihknbaa.ir
open Go.ChangeShapes Go.WideShapes Go.ChangeAt Go.RowKit Go.Shelf
open mg (Row In iv IntsV chain below_alloc Mg Mgs app idsOf)
open tr (Mc Mp mv MAt Buf bs)
set_option linter.unusedVariables false
set_option maxRecDepth 100000

def Small (m : Mc) : Prop := ∀ t ∈ m.txt, t.size ≤ 4
theorem small_tx {m : Mc} (h : Small m) (k : Nat) : (tr.tx m k).size ≤ 4 := by
  unfold tr.tx
  rw [List.getD_eq_getElem?_getD]
  by_cases hk : k < m.txt.length
  · rw [List.getElem?_eq_getElem hk]
    exact h _ (List.getElem_mem _)
  · rw [List.getElem?_eq_none (by omega)]
    decide
theorem small_out {m : Mc} (h : Small m) (s : Nat) (b : UInt8) : (tr.outp m s b).length ≤ 5 := by
  have := small_tx h (tr.pt m s b.toNat / 2)
  unfold tr.outp
  rw [List.length_append, tr.list_len]
  split <;> simp <;> omega
theorem small_go {m : Mc} (h : Small m) : ∀ (l : List UInt8) (s : Nat), (tr.go m s l).1.length ≤ 5 * l.length
  | [], s => by simp [tr.go]
  | b :: l, s => by
    have h1 := small_out h s b
    have h2 := small_go h l (tr.nx m s b.toNat)
    unfold tr.go
    rw [List.length_append, List.length_cons]
    omega
theorem small_total {m : Mc} (h : Small m) (s : Nat) (l : List UInt8) : (tr.total m s l).length ≤ 5 * l.length + 4 := by
  have h1 := small_go h l s
  have h2 := small_tx h (tr.en m (tr.go m s l).2)
  unfold tr.total
  rw [List.length_append, tr.list_len]
  omega
theorem small_step {m : Mc} (h : Small m) {t u : ByteArray} (e : stepT m t = some u) : u.size ≤ 5 * t.size + 4 := by
  unfold stepT at e
  split at e
  · rw [← Option.some.inj e, bs_size]
    have := small_total h 0 t.data.toList
    rw [tr.list_len] at this
    exact this
  · cases e
theorem chain_step (ms : List Mc) (m : Mc) (s u : ByteArray) (h : chainT (ms ++ [m]) s = some u) : ∃ t, chainT ms s = some t ∧ stepT m t = some u := by
  cases e : chainT ms s with
  | none =>
    unfold chainT at h e
    rw [List.foldl_append, e] at h
    cases h
  | some t => exact ⟨t, rfl, by rw [← chain_snoc ms m s t e]; exact h⟩
theorem small_chain {l : List Sm} (h : ∀ i (hi : i < l.length), Small l[i].m) (k : Nat) (hk : k ≤ 2) (hl : k ≤ l.length) (s t : ByteArray) (hs : s.size ≤ 24) (e : chainT (mcs l k) s = some t) : t.size ≤ 100000 := by
  match k, hk with
  | 0, _ =>
    have : chainT (mcs l 0) s = some s := by simp [mcs, chainT]
    rw [this] at e
    rw [← Option.some.inj e]
    omega
  | 1, _ =>
    rw [mcs_snoc l 0 (by omega)] at e
    obtain ⟨t0, e0, e1⟩ := chain_step _ _ _ _ e
    have : chainT (mcs l 0) s = some s := by simp [mcs, chainT]
    rw [this] at e0
    have := small_step (h 0 (by omega)) e1
    rw [← Option.some.inj e0] at this
    omega
  | 2, _ =>
    rw [mcs_snoc l 1 (by omega)] at e
    obtain ⟨t1, e1, e2⟩ := chain_step _ _ _ _ e
    rw [mcs_snoc l 0 (by omega)] at e1
    obtain ⟨t0, e0, e1⟩ := chain_step _ _ _ _ e1
    have : chainT (mcs l 0) s = some s := by simp [mcs, chainT]
    rw [this] at e0
    have h1 := small_step (h 0 (by omega)) e1
    have h2 := small_step (h 1 (by omega)) e2
    rw [← Option.some.inj e0] at h1
    omega
set_option maxHeartbeats 4000000 in
theorem tells_no (o : Option Addr) (cap : Nat) (l : List Sm) (w : World) (h : Gs w o cap l) (hr : rightL l = false) (s : ByteArray) (hs : s.size ≤ 140737488351232) : Calls Try.prog 3 #[.slice o l.length cap, .string s] w fun e w' => e = .returned (.bool true) ∧ Below w.heap.size w w' := by
  have c6 := right_all o cap l w h
  have H7 := (show Hid (∀ W, Below w.heap.size w W → Calls Try.prog 7 #[.slice o l.length cap] W fun e w' => e = .returned (.bool false) ∧ Below W.heap.size W w') from fun W c => by rw [← hr]; exact rright_all o cap l W (h.later c))
  have H9 := (show Hid (∀ (u : ByteArray) W, Below w.heap.size w W → Calls Try.prog 9 #[.slice o l.length cap, .string u] W fun e w' => e = .returned (.tuple #[.slice none 0 0, .int .i64 190]) ∧ Below W.heap.size W w') from fun u W c => eval_not o cap l W (h.later c) hr u)
  rw [hr] at c6
  clear h hr
  generalize l.length = n at *
  go_enter Try.func3, Try.ntmps3
  go_wp2_with (fail)
  go_at_call 6
  refine c6.mono ?_
  rintro e w1 ⟨rfl, b1⟩
  have c7 := H7.out w1 b1
  have HB1 := (show Hid (Below w.heap.size w w1) from b1)
  clear c6 b1
  go_wp2_with (fail)
  go_at_call 7
  refine c7.mono ?_
  rintro e w2 ⟨rfl, b2⟩
  have HB2 := (show Hid (Below w.heap.size w w2) from chain HB1.out b2)
  clear c7 b2
  by_cases hl : s.size ≤ 4096
  · have f1 : decide ((s.size : Int) ≤ 4096) = true := decide_eq_true (by omega)
    have c8 := en.short_any s 24 (by omega) (by omega) w2
    have c9 := H9.out (en.cutN s 24) w2 HB2.out
    generalize en.cutN s 24 = u at *
    go_wp2_with (fail)
    go_at_call 8
    refine c8.mono ?_
    rintro e w3 ⟨rfl, rfl⟩
    clear c8
    go_wp2_with (fail)
    go_at_call 9
    refine c9.mono ?_
    rintro e w4 ⟨rfl, b4⟩
    have HB4 := (show Hid (Below w.heap.size w w4) from chain HB2.out b4)
    have c7 := H7.out w4 HB4.out
    clear c9 b4
    go_wp2_with (fail)
    go_at_call 7
    refine c7.mono ?_
    rintro e w5 ⟨rfl, b5⟩
    have HB5 := (show Hid (Below w.heap.size w w5) from chain HB4.out b5)
    clear c7 b5
    go_wp2_with (fail)
    go_ret
    exact ⟨rfl, HB5.out⟩
  · have f1 : decide ((s.size : Int) ≤ 4096) = false := decide_eq_false (by omega)
    have c9 := H9.out s w2 HB2.out
    go_wp2_with (fail)
    go_at_call 9
    refine c9.mono ?_
    rintro e w4 ⟨rfl, b4⟩
    have HB4 := (show Hid (Below w.heap.size w w4) from chain HB2.out b4)
    have c7 := H7.out w4 HB4.out
    clear c9 b4
    go_wp2_with (fail)
    go_at_call 7
    refine c7.mono ?_
    rintro e w5 ⟨rfl, b5⟩
    have HB5 := (show Hid (Below w.heap.size w w5) from chain HB4.out b5)
    clear c7 b5
    go_wp2_with (fail)
    go_ret
    exact ⟨rfl, HB5.out⟩
set_option maxHeartbeats 4000000 in
theorem tells_long (o : Option Addr) (cap : Nat) (l : List Sm) (w : World) (h : Gs w o cap l) (hr : rightL l = true) (s : ByteArray) (hl : 4096 < s.size) : Calls Try.prog 3 #[.slice o l.length cap, .string s] w fun e w' => e = .returned (.bool true) ∧ Below w.heap.size w w' := by
  have c6 := right_all o cap l w h
  have H7 := (show Hid (∀ W, Below w.heap.size w W → Calls Try.prog 7 #[.slice o l.length cap] W fun e w' => e = .returned (.bool true) ∧ Below W.heap.size W w') from fun W c => by rw [← hr]; exact rright_all o cap l W (h.later c))
  have H9 := (show Hid (∀ W, Below w.heap.size w W → Calls Try.prog 9 #[.slice o l.length cap, .string s] W fun e w' => e = .returned (.tuple #[.slice none 0 0, .int .i64 2]) ∧ Below W.heap.size W w') from fun W c => eval_long o cap l W (h.later c) hr s hl)
  rw [hr] at c6
  clear h hr
  generalize l.length = n at *
  go_enter Try.func3, Try.ntmps3
  go_wp2_with (fail)
  go_at_call 6
  refine c6.mono ?_
  rintro e w1 ⟨rfl, b1⟩
  have c7 := H7.out w1 b1
  have HB1 := (show Hid (Below w.heap.size w w1) from b1)
  clear c6 b1
  go_wp2_with (fail)
  go_at_call 7
  refine c7.mono ?_
  rintro e w2 ⟨rfl, b2⟩
  have HB2 := (show Hid (Below w.heap.size w w2) from chain HB1.out b2)
  clear c7 b2
  have f1 : decide ((s.size : Int) ≤ 4096) = false := decide_eq_false (by omega)
  have f2 : decide ((4096 : Int) < (s.size : Int)) = true := decide_eq_true (by omega)
  have c9 := H9.out w2 HB2.out
  go_wp2_with (fail)
  go_at_call 9
  refine c9.mono ?_
  rintro e w4 ⟨rfl, b4⟩
  have HB4 := (show Hid (Below w.heap.size w w4) from chain HB2.out b4)
  have c7 := H7.out w4 HB4.out
  clear c9 b4
  go_wp2_with (fail)
  go_at_call 7
  refine c7.mono ?_
  rintro e w5 ⟨rfl, b5⟩
  have HB5 := (show Hid (Below w.heap.size w w5) from chain HB4.out b5)
  clear c7 b5
  go_wp2_with (fail)
  go_ret
  exact ⟨rfl, HB5.out⟩
end Go.Proofs.Ytmmlibehihknbaa.ir
