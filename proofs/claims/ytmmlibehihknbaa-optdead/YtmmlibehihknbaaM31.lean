/-
  Texts put together: Plain: which ids are live. Contracts over this program: (*opt.parts).live. Contracts over this program: the document's Live (fretsawref20).
-/
import Derived.Test.YtmmlibehihknbaaM25
namespace Go.Proofs.Ytmmlibehihknbaa.op
open Go.ChangeShapes Go.WideShapes Go.ChangeAt Go.RowKit
open tr (Mc Mp mv MAt Right pt en tx Lo)
open ir (Sm SmAt Gs svL)
open mg (chain below_alloc IntsV Mgs Mg)
set_option linter.unusedVariables false
set_option linter.unusedSimpArgs false
set_option maxRecDepth 100000

def baseB (p : Nat → Bool) (mp : Nat → Nat) (i x : Nat) : Bool := (List.range i).any fun b => p b && decide (mp b = x)
theorem base_0 (p : Nat → Bool) (mp : Nat → Nat) (x : Nat) : baseB p mp 0 x = false := by simp [baseB]
theorem base_yes (p : Nat → Bool) (mp : Nat → Nat) (i x : Nat) (h : p i = true) : baseB p mp (i + 1) x = if x = mp i then true else baseB p mp i x := by
  unfold baseB
  rw [any_succ, h]
  by_cases e : x = mp i
  · rw [if_pos e, e]; simp
  · rw [if_neg e, decide_eq_false (p := mp i = x) (fun h => e h.symm)]; simp
theorem base_no (p : Nat → Bool) (mp : Nat → Nat) (i x : Nat) (h : p i = false) : baseB p mp (i + 1) x = baseB p mp i x := by
  unfold baseB
  rw [any_succ, h]
  simp
def live1 (dr : List Int) (ms : List Mg) (k : Nat) (L : List Bool) : Bool := !(dr.contains (k : Int)) && (L.getD (ms.getD k (0, 0)).1.toNat false && L.getD (ms.getD k (0, 0)).2.toNat false)
/-- the live ids, merge by merge -/
def lvL (p : Nat → Bool) (mp : Nat → Nat) (ms : List Mg) (dr : List Int) : Nat → List Bool
  | 0 => (List.range 256).map (baseB p mp 256)
  | k + 1 => lvL p mp ms dr k ++ [live1 dr ms k (lvL p mp ms dr k)]
theorem lvL_len (p : Nat → Bool) (mp : Nat → Nat) (ms : List Mg) (dr : List Int) : ∀ k, (lvL p mp ms dr k).length = 256 + k
  | 0 => by simp [lvL]
  | k + 1 => by rw [lvL, List.length_append, lvL_len p mp ms dr k]; rfl
def OwnB (w : World) (B : Nat) (v : Value) (l : List Bool) : Prop := w.ownsRow B 4 1 v l.length (l.map Value.bool)
theorem own_of_row {w : World} {B g : Nat} {f : Nat → Bool} (h : FRow w g 4 256 (fb f)) (hB : B ≤ g) : OwnB w B (.slice (some ⟨g, 0, none⟩) 256 256) ((List.range 256).map f) := by
  have e : (List.map f (List.range 256)).length = 256 := by simp
  unfold OwnB
  rw [e]
  refine ⟨by simp, .inr ⟨g, 256, _, rfl, hB, h, Nat.le_refl _, by unfold maxLen; omega, by rw [fc_size], ?_⟩⟩
  simp [fc, Function.comp_def, fb]
  try exact List.take_of_length_le (by simp)
theorem OwnB.at {w : World} {B : Nat} {v : Value} {l : List Bool} (h : OwnB w B v l) (i : Nat) (hi : i < l.length) : ∃ g cap, v = .slice (some ⟨g, 0, none⟩) l.length cap ∧ w.cell? ⟨g, i, none⟩ = some (.bool l[i]) := by
  obtain ⟨g, cap, e, _, hc⟩ := ow.cell h i (by simpa using hi)
  rw [List.getElem_map] at hc
  exact ⟨g, cap, e, hc⟩
theorem idx88 (F : Nat → Bool) (i : Nat) (h : i < 256) (w : World) : (Instr.index 88 (.agg (fc 256 (fb F))) (.int .i64 (i : Int))).run Try.prog w = .ok (.bool (F i)) w :=
  df.run_index_arr 88 4 256 _ i h _ (by rw [fc_get _ h]; rfl) w Try.underlying88 (Try.isAgg4 w) (Try.sizeOf4 w)
set_option maxHeartbeats 8000000 in
theorem live_any (gp : Nat) (l : List Sm) (k : Nat) (mp : Nat → Nat) (vm vd : Value) (mo : Option Addr) (mc : Nat) (ms : List Mg) (dr : List Int) (p : Nat → Bool) (w : World) (hP : PB w gp l k mp vm vd mo mc) (hms : Mgs w vm ms) (hdr : IntsV w vd dr) (hnb : hp.numB 0 ms.length dr = true) (hdl : dr.length ≤ 100000) (herr : mg.errOf ms = 0) (hmp : ∀ x, x < 256 → mp x < 256)
    (hcm : ∀ W, Below w.heap.size w W → Calls Try.prog 35 #[.pointer (some ⟨gp, 0, none⟩)] W (CsOut p W)) : Calls Try.prog 27 #[.pointer (some ⟨gp, 0, none⟩)] w fun e w' => ∃ v, e = .returned v ∧ OwnB w' w.heap.size v (lvL p mp ms dr ms.length) ∧ Below w.heap.size w w' := by
  have hmk : ∀ W, (Instr.makeSlice 34 (.int .i64 256) (.int .i64 256)).run Try.prog W = .ok (.slice (some ⟨W.heap.size, 0, none⟩) 256 256) (W.alloc (.cells (fc 256 (fb fun _ => false)) 4)) := fun W => make34 256 (by omega) W
  have HPB := (show Hid (∀ W, Below w.heap.size w W → PB W gp l k mp vm vd mo mc) from fun W c => hP.later c)
  have HMP := (show Hid (∀ x, x < 256 → mp x < 256) from hmp)
  have h4 := (mg.ok_run herr).1
  have HRG := (show Hid (∀ k m, ms[k]? = some m → mg.InR m.1 (256 + k) ∧ mg.InR m.2 (256 + k)) from (mg.fine herr).rng)
  obtain ⟨vo, vc, rfl, hv1, hv2, hvl⟩ := hms.form
  have HMS := (show Hid (∀ W, Below w.heap.size w W → ∀ i (hi : i < ms.length), ∃ b off, vo = some ⟨b, off, none⟩ ∧ W.cell? ⟨b, off + i * 2, none⟩ = some (.int .i64 ms[i].1) ∧ W.cell? ⟨b, off + i * 2 + 1, none⟩ = some (.int .i64 ms[i].2)) from fun W c i hi => by
    obtain ⟨vo', vc', e, _, _, hl⟩ := (hms.later c).form
    simp at e
    obtain ⟨rfl, rfl⟩ := e
    obtain ⟨b, off, e, _, c1, c2⟩ := hl i hi
    exact ⟨b, off, e, c1, c2⟩)
  have HSR := (show Hid (∀ W, Below w.heap.size w W → ∀ x : Int, ∃ c : Nat, Calls Try.prog 36 #[vd, .int .i64 x] W fun e w' => e = .returned (.tuple #[.int .i64 (c : Int), .bool (dr.contains x)]) ∧ Below W.heap.size W w') from fun W c x => search_any dr x (rises 0 ms.length dr hnb).1 hdl vd W (hdr.later c))
  obtain ⟨w1, hw1⟩ : ∃ w1, w.alloc (.cells (fc 256 (fb fun _ => false)) 4) = w1 := ⟨_, rfl⟩
  have b1 : Below w.heap.size w w1 := by rw [← hw1]; exact below_alloc w _
  have HA := (show Hid (FRow w1 w.heap.size 4 256 (fb fun _ => false)) from by rw [← hw1]; exact heap_alloc_new w _)
  have hz1 : w.heap.size < w1.heap.size := by rw [← hw1]; simp
  have HZ1 := (show Hid (w.heap.size < w1.heap.size) from hz1)
  have HB1 := (show Hid (Below w.heap.size w w1) from b1)
  have c35 := hcm w1 b1
  have HF := (show Hid (∃ n, n = ms.length) from ⟨_, rfl⟩)
  obtain ⟨nm, hnm⟩ : ∃ nm, nm = ms.length := ⟨_, rfl⟩
  have HNM := (show Hid (nm = ms.length) from hnm)
  rw [← hnm] at hv1 h4 HPB
  clear hP hms hdr hnb herr hmp hcm b1 hz1 hnm hvl HF
  go_enter Try.func27, Try.ntmps27
  go_upto_region 2 with (fail)
  go_wp2_with (fail)
  go_at_call 35
  refine c35.mono ?_
  rintro e w2 ⟨rfl, b2⟩
  have HR2 := (show Hid (FRow w2 w.heap.size 4 256 (fb (baseB p mp 0))) from FRow.congr ((b2.block _ HZ1.out).trans HA.out : FRow w2 _ 4 256 (fb fun _ => false)) fun i _ => by simp only [fb, base_0])
  have HB2 := (show Hid (Below w.heap.size w w2) from chain HB1.out b2)
  clear c35 b2 hw1 hmk HA HB1 HZ1
  go_wp2_with (fail)
  go_loopw [13] (fun y wr => ∃ i : Nat, y = .int .i64 (i : Int) ∧ i ≤ 256 ∧ Hid (FRow wr w.heap.size 4 256 (fb (baseB p mp i))) ∧ Hid (Below w.heap.size w wr)) (fun y _ => 256 - (intOf y).toNat)
  case atStart => exact ⟨0, rfl, by omega, HR2, HB2⟩
  case round =>
    clear HR2 HB2
    obtain ⟨i, rfl, hi, HR, HB⟩ := hrel
    by_cases hin : i < 256
    · have hx := fun W => idx88 p i hin W
      cases hpi : p i
      · rw [hpi] at hx
        have HN := (show Hid (FRow wr w.heap.size 4 256 (fb (baseB p mp (i + 1)))) from HR.out.congr fun x _ => by simp only [fb, base_no p mp i x hpi])
        clear HR hpi
        go_wp2_with (fail)
        go_roundw
        case rel => exact ⟨i + 1, by go_num, by omega, HN, HB⟩
        case measure => simp [intOf]; omega
      · rw [hpi] at hx
        have hpb := HPB.out wr HB.out
        have q1 := hpb.tos i hin
        have hlt := HMP.out i hin
        have hlti : ((mp i : Nat) : Int) < 256 := by omega
        have q2 := HR.out.cell hlt
        have q3 := HR.out.fz (mp i)
        have HN := (show Hid (FRow (wr.setCell ⟨w.heap.size, mp i, none⟩ (.bool true)) w.heap.size 4 256 (fb (baseB p mp (i + 1)))) from (HR.out.put (mp i) _).congr fun x _ => by
          simp only [fb, base_yes p mp i x hpi]
          by_cases e : x = mp i <;> simp [e])
        have HB2 := (show Hid (Below w.heap.size w (wr.setCell ⟨w.heap.size, mp i, none⟩ (.bool true))) from HB.out.setCell (p := ⟨w.heap.size, mp i, none⟩) (Nat.le_refl _) _)
        unfold fb at q2
        generalize baseB p mp i (mp i) = bv at *
        generalize mp i = x at *
        clear HR HB hpb hpi
        go_wp2_with (fail)
        go_roundw
        case rel => exact ⟨i + 1, by go_num, by omega, HN, HB2⟩
        case measure => simp [intOf]; omega
    · have HO := (show Hid (OwnB wr w.heap.size (.slice (some ⟨w.heap.size, 0, none⟩) 256 256) (lvL p mp ms dr 0)) from by
        have hie : i = 256 := by omega
        rw [hie] at HR
        exact own_of_row HR.out (Nat.le_refl _))
      have q515 := (HPB.out wr HB.out).mg
      clear HR
      go_wp2_with (fail)
      clear q515
      go_loopw [3, 32] (fun x y wr => ∃ (i : Nat) (g : Option Addr) (c : Nat), x = .slice g (256 + i) c ∧ y = .int .i64 (i : Int) ∧ i ≤ nm ∧ Hid (OwnB wr w.heap.size (.slice g (256 + i) c) (lvL p mp ms dr i)) ∧ Hid (Below w.heap.size w wr)) (fun _ y _ => nm - (intOf y).toNat)
      case atStart => exact ⟨0, _, _, rfl, rfl, by omega, HO, HB⟩
      case round =>
        clear HO HB
        obtain ⟨i, g, c, rfl, rfl, hi, HO, HB⟩ := hrel
        by_cases hin : i < nm
        · have hil : i < ms.length := by rw [← HNM.out]; exact hin
          obtain ⟨bm, boff, rfl, d1, d2⟩ := HMS.out wr HB.out i hil
          obtain ⟨r1, r2⟩ := HRG.out i ms[i] (List.getElem?_eq_getElem hil)
          unfold mg.InR at r1 r2
          obtain ⟨a, ha⟩ : ∃ a : Nat, ms[i].1 = (a : Int) := ⟨ms[i].1.toNat, by omega⟩
          obtain ⟨b, hb⟩ : ∃ b : Nat, ms[i].2 = (b : Int) := ⟨ms[i].2.toNat, by omega⟩
          have ha2 : a < 256 + i := by omega
          have hb2 : b < 256 + i := by omega
          have HL1 := (show Hid (∀ z, z = (!(dr.contains (i : Int)) && ((lvL p mp ms dr i).getD a false && (lvL p mp ms dr i).getD b false)) → lvL p mp ms dr i ++ [z] = lvL p mp ms dr (i + 1)) from fun z hz => by
            have hg : ms.getD i (0, 0) = ms[i] := by rw [List.getD_eq_getElem?_getD, List.getElem?_eq_getElem hil]; rfl
            rw [lvL, hz]
            unfold live1
            rw [hg, ha, hb]
            rfl)
          rw [ha] at d1
          rw [hb] at d2
          have ba := below_alloc wr (.cells #[.int .i64 (a : Int), .int .i64 (b : Int)] 70)
          have HX1 := (show Hid ((wr.alloc (.cells #[.int .i64 (a : Int), .int .i64 (b : Int)] 70)).heap[wr.heap.size]? = some (.cells #[.int .i64 (a : Int), .int .i64 (b : Int)] 70 (0, 0))) from World.alloc_heap_new wr _)
          have HB1 := (show Hid (Below w.heap.size w (wr.alloc (.cells #[.int .i64 (a : Int), .int .i64 (b : Int)] 70))) from HB.out.trans (ba.mono HB.out.size))
          have HO1 := (show Hid (OwnB (wr.alloc (.cells #[.int .i64 (a : Int), .int .i64 (b : Int)] 70)) w.heap.size (.slice g (256 + i) c) (lvL p mp ms dr i)) from ow.later HO.out ba)
          have HZ := (show Hid (wr.heap.size < (wr.alloc (.cells #[.int .i64 (a : Int), .int .i64 (b : Int)] 70)).heap.size) from by show _ < _; simp)
          have q516 := (HPB.out _ HB1.out).dr
          obtain ⟨cc, c36⟩ := HSR.out _ HB1.out (i : Int)
          obtain ⟨bx, HBX⟩ : ∃ bx, Hid (bx = wr.heap.size) := ⟨_, rfl⟩
          rw [← HBX.out] at HX1 HZ
          clear ba r1 r2 ha hb HO HB hil
          go_upto_region 11 with (fail)
          generalize wr.alloc (.cells #[.int .i64 (a : Int), .int .i64 (b : Int)] 70) = w3 at *
          rw [← HBX.out]
          clear d1 d2
          go_wp2_with (fail)
          go_at_call 36
          refine c36.mono ?_
          rintro e w4 ⟨rfl, b4⟩
          have x4 := (b4.block _ HZ.out).trans HX1.out
          have y0 : w4.cell? ⟨bx, 0, none⟩ = some (.int .i64 (a : Int)) := by rw [Lib.cell_of_heap x4]; rfl
          have y1 : w4.cell? ⟨bx, 1, none⟩ = some (.int .i64 (b : Int)) := by rw [Lib.cell_of_heap x4]; rfl
          have hlen := lvL_len p mp ms dr i
          have HO4 := (show Hid (OwnB w4 w.heap.size (.slice g (256 + i) c) (lvL p mp ms dr i)) from ow.later HO1.out b4)
          have HB4 := (show Hid (Below w.heap.size w w4) from chain HB1.out b4)
          obtain ⟨g1, c1, e1, k1⟩ := HO4.out.at a (by rw [hlen]; exact ha2)
          obtain ⟨g2, c2, e2, k2⟩ := HO4.out.at b (by rw [hlen]; exact hb2)
          rw [hlen] at e1 e2
          simp only [Value.slice.injEq, true_and] at e1 e2
          obtain ⟨rfl, rfl⟩ := e1
          obtain ⟨e2, -⟩ := e2
          simp at e2
          subst e2
          obtain ⟨L, hL⟩ : ∃ L, L = lvL p mp ms dr i := ⟨_, rfl⟩
          have hga : (lvL p mp ms dr i).getD a false = (lvL p mp ms dr i)[a]'(by rw [hlen]; exact ha2) := by rw [List.getD_eq_getElem?_getD, List.getElem?_eq_getElem (by rw [hlen]; exact ha2)]; rfl
          have hgb : (lvL p mp ms dr i).getD b false = (lvL p mp ms dr i)[b]'(by rw [hlen]; exact hb2) := by rw [List.getD_eq_getElem?_getD, List.getElem?_eq_getElem (by rw [hlen]; exact hb2)]; rfl
          rw [hga, hgb] at HL1
          have ho2 : w4.ownsRow w.heap.size 4 1 (.slice (some ⟨g1, 0, none⟩) (256 + i) c) (256 + i) ((lvL p mp ms dr i).map Value.bool) := by
            have := HO4.out
            unfold OwnB at this
            rwa [hlen] at this
          have HO5 := (show Hid (∀ z : Bool, (w4.alloc (.cells #[.bool z] 4)).ownsRow w.heap.size 4 1 (.slice (some ⟨g1, 0, none⟩) (256 + i) c) (256 + i) ((lvL p mp ms dr i).map Value.bool)) from fun z => ow.later ho2 (below_alloc w4 _))
          have HFN := (show Hid (∀ z g' cap' w5, z = (!(dr.contains (i : Int)) && ((lvL p mp ms dr i)[a]'(by rw [hlen]; exact ha2) && (lvL p mp ms dr i)[b]'(by rw [hlen]; exact hb2))) → w5.ownsRow w.heap.size 4 1 (.slice (some ⟨g', 0, none⟩) (256 + i + 1) cap') (256 + i + 1) ((lvL p mp ms dr i).map Value.bool ++ [.bool z]) → OwnB w5 w.heap.size (.slice (some ⟨g', 0, none⟩) (256 + (i + 1)) cap') (lvL p mp ms dr (i + 1))) from fun z g' cap' w5 hz h5 => by
            unfold OwnB
            rw [lvL_len, ← HL1.out z hz, List.map_append]
            exact h5)
          have HBW := (show Hid (∀ (z : Bool) w5, (w4.alloc (.cells #[.bool z] 4)).grownBy w5 (Value.slice (some ⟨g1, 0, none⟩) (256 + i) c).ownBlock → Below w.heap.size w w5) from fun z w5 hg => by
            have b1 : Below w.heap.size w (w4.alloc (.cells #[.bool z] 4)) := HB4.out.alloc HB4.out.size _
            exact b1.grown hg b1.size (fun k hk => (ow.lt (HO5.out z) hk).1))
          have HSZ := (show Hid (∀ z : Bool, w.heap.size ≤ (w4.alloc (.cells #[.bool z] 4)).heap.size) from fun z => Nat.le_trans HB4.out.size (by simp))
          generalize (lvL p mp ms dr i)[a]'(by rw [hlen]; exact ha2) = za at *
          generalize (lvL p mp ms dr i)[b]'(by rw [hlen]; exact hb2) = zb at *
          generalize (lvL p mp ms dr i).map Value.bool = XS at *
          clear c36 b4 x4 HO1 HB1 HX1 q516 HL1 hga hgb ho2 hL HO4 hlen
          generalize dr.contains (i : Int) = dd at *
          cases dd
          · cases za
            · go_wp2_with (at_builtin; refine ow.wpList_append rfl (.tmp 46) (.tmp 63) 34 rfl 4 (.bool false) 1 1 Try.underlying34 info4 rfl (by omega) (by omega) w.heap.size (.slice (some ⟨g1, 0, none⟩) (256 + i) c) (256 + i) XS w4.heap.size [.bool false] rfl rfl (HO5.out false) rfl (ow.new1 w4 _ 4) (ow.one1 _ rfl) (by omega) (HSZ.out false) ?_; intro g' cap' w5 h1 h2 h3)
              have P1 := (show Hid _ from HFN.out false g' cap' w5 rfl h1)
              have P2 := (show Hid _ from HBW.out false w5 h2)
              clear h1 h2 h3 y0 y1 k1 k2 HFN HBW HSZ HO5
              go_roundw
              case rel => exact ⟨i + 1, _, cap', rfl, by go_num, by omega, P1, P2⟩
              case measure => simp [intOf]; omega
            · go_wp2_with (at_builtin; refine ow.wpList_append rfl (.tmp 46) (.tmp 63) 34 rfl 4 (.bool false) 1 1 Try.underlying34 info4 rfl (by omega) (by omega) w.heap.size (.slice (some ⟨g1, 0, none⟩) (256 + i) c) (256 + i) XS w4.heap.size [.bool zb] rfl rfl (HO5.out zb) rfl (ow.new1 w4 _ 4) (ow.one1 _ rfl) (by omega) (HSZ.out zb) ?_; intro g' cap' w5 h1 h2 h3)
              have P1 := (show Hid _ from HFN.out zb g' cap' w5 (by simp) h1)
              have P2 := (show Hid _ from HBW.out zb w5 h2)
              clear h1 h2 h3 y0 y1 k1 k2 HFN HBW HSZ HO5
              go_roundw
              case rel => exact ⟨i + 1, _, cap', rfl, by go_num, by omega, P1, P2⟩
              case measure => simp [intOf]; omega
          · go_wp2_with (at_builtin; refine ow.wpList_append rfl (.tmp 46) (.tmp 63) 34 rfl 4 (.bool false) 1 1 Try.underlying34 info4 rfl (by omega) (by omega) w.heap.size (.slice (some ⟨g1, 0, none⟩) (256 + i) c) (256 + i) XS w4.heap.size [.bool false] rfl rfl (HO5.out false) rfl (ow.new1 w4 _ 4) (ow.one1 _ rfl) (by omega) (HSZ.out false) ?_; intro g' cap' w5 h1 h2 h3)
            have P1 := (show Hid _ from HFN.out false g' cap' w5 rfl h1)
            have P2 := (show Hid _ from HBW.out false w5 h2)
            clear h1 h2 h3 y0 y1 k1 k2 HFN HBW HSZ HO5
            go_roundw
            case rel => exact ⟨i + 1, _, cap', rfl, by go_num, by omega, P1, P2⟩
            case measure => simp [intOf]; omega
        · have hie2 : i = nm := by omega
          have HE := (show Hid (OwnB wr w.heap.size (.slice g (256 + i) c) (lvL p mp ms dr ms.length)) from by rw [← HNM.out, ← hie2]; exact HO.out)
          clear HO
          go_wp2_with (fail)
          go_ret
          exact ⟨_, rfl, HE.out, HB.out⟩
end Go.Proofs.Ytmmlibehihknbaa.op

namespace Go.Proofs.Ytmmlibehihknbaa.op
open Go.ChangeShapes Go.WideShapes Go.ChangeAt Go.RowKit
open tr (Mc Mp mv MAt Right pt en tx Lo)
open ir (Sm SmAt Gs svL SBox)
open mg (chain below_alloc IntsV Mgs Mg)
set_option linter.unusedVariables false
set_option linter.unusedSimpArgs false
set_option maxRecDepth 100000

section
variable (p : Nat → Bool) (mp : Nat → Nat) (ms : List Mg) (dr : List Int)
theorem lvL_get (n : Nat) : ∀ (d x : Nat), x < 256 + n → (lvL p mp ms dr (n + d)).getD x false = (lvL p mp ms dr n).getD x false
  | 0, x, h => rfl
  | d + 1, x, h => by
    have h1 := lvL_len p mp ms dr (n + d)
    rw [show n + (d + 1) = (n + d) + 1 by omega, lvL, List.getD_eq_getElem?_getD, List.getElem?_append_left (by rw [h1]; omega), ← List.getD_eq_getElem?_getD]
    exact lvL_get n d x h
/-- the final answer -/
def fin (x : Nat) : Bool := (lvL p mp ms dr ms.length).getD x false
theorem fin_low (x : Nat) (h : x < 256) : fin p mp ms dr x = baseB p mp 256 x := by
  unfold fin
  have := lvL_get p mp ms dr 0 ms.length x (by omega)
  rw [Nat.zero_add] at this
  rw [this, lvL, List.getD_eq_getElem?_getD]
  simp [h]
theorem fin_at (k : Nat) (h : k < ms.length) : fin p mp ms dr (256 + k) = live1 dr ms k (lvL p mp ms dr k) := by
  unfold fin
  have h1 := lvL_len p mp ms dr k
  have := lvL_get p mp ms dr (k + 1) (ms.length - (k + 1)) (256 + k) (by omega)
  rw [show k + 1 + (ms.length - (k + 1)) = ms.length by omega] at this
  rw [this, lvL, List.getD_eq_getElem?_getD, List.getElem?_append_right (by omega), h1, Nat.sub_self]
  rfl
theorem fin_before (k x : Nat) (h : k ≤ ms.length) (hx : x < 256 + k) : (lvL p mp ms dr k).getD x false = fin p mp ms dr x := by
  unfold fin
  have := lvL_get p mp ms dr k (ms.length - k) x hx
  rw [show k + (ms.length - k) = ms.length by omega] at this
  exact this.symm
end
/-- a state between two rounds -/
structure Ok (F s : Nat → Bool) (nm : Nat) : Prop where
  low : ∀ x, x < 256 → s x = F x
  up : ∀ k, k < nm → s (256 + k) = true → F (256 + k) = true
def mix (F s : Nat → Bool) (k x : Nat) : Bool := if x < 256 + k then F x else s x
theorem mix_0 {F s : Nat → Bool} {nm : Nat} (h : Ok F s nm) (x : Nat) : s x = mix F s 0 x := by
  unfold mix
  split
  · rename_i h1; exact h.low x (by omega)
  · rfl
theorem mix_all (F s : Nat → Bool) (nm x : Nat) (h : x < 256 + nm) : mix F s nm x = F x := by unfold mix; rw [if_pos h]
theorem mix_at (F s : Nat → Bool) (k : Nat) : mix F s k (256 + k) = s (256 + k) := by unfold mix; rw [if_neg (by omega)]
theorem mix_low (F s : Nat → Bool) (k x : Nat) (h : x < 256 + k) : mix F s k x = F x := by unfold mix; rw [if_pos h]
theorem mix_same (F s : Nat → Bool) (k x : Nat) (h : s (256 + k) = F (256 + k)) : mix F s k x = mix F s (k + 1) x := by
  unfold mix
  by_cases e : x = 256 + k
  · subst e; rw [if_neg (by omega), if_pos (by omega), h]
  · by_cases h1 : x < 256 + k
    · rw [if_pos h1, if_pos (by omega)]
    · rw [if_neg h1, if_neg (by omega)]
theorem mix_set (F s : Nat → Bool) (k x : Nat) (h : F (256 + k) = true) : (if x = 256 + k then true else mix F s k x) = mix F s (k + 1) x := by
  unfold mix
  by_cases e : x = 256 + k
  · rw [if_pos e, e, if_pos (by omega), h]
  · rw [if_neg e]
    by_cases h1 : x < 256 + k
    · rw [if_pos h1, if_pos (by omega)]
    · rw [if_neg h1, if_neg (by omega)]
open Classical in
noncomputable def meas (g n : Nat) (F : Nat → Bool) (y : Value) (wr : World) : Nat := if y = .bool true then (if FRow wr g 3 n (fi F) then 1 else 2) else 0
theorem meas_false (g n : Nat) (F : Nat → Bool) (wr : World) : meas g n F (.bool false) wr = 0 := by unfold meas; rw [if_neg (by simp)]
theorem meas_full {g n : Nat} {F : Nat → Bool} {wr : World} (h : FRow wr g 3 n (fi F)) : meas g n F (.bool true) wr = 1 := by unfold meas; rw [if_pos rfl, if_pos h]
theorem meas_pos (g n : Nat) (F : Nat → Bool) (wr : World) : 0 < meas g n F (.bool true) wr := by unfold meas; rw [if_pos rfl]; split <;> omega
theorem meas_two {g n : Nat} {F s : Nat → Bool} {wr : World} (h : FRow wr g 3 n (fi s)) {x : Nat} (hx : x < n) (h1 : s x = false) (h2 : F x = true) : meas g n F (.bool true) wr = 2 := by
  unfold meas
  rw [if_pos rfl, if_neg]
  intro h3
  have a := h.cell hx
  have b := h3.cell hx
  rw [a] at b
  simp [fi, h1, h2] at b
theorem FRow.own {w : World} {B g n : Nat} {f : Nat → Bool} (h : FRow w g 3 n (fi f)) (hB : B ≤ g) (hn : n ≤ 1000000) : w.ownsRow B 3 1 (.slice (some ⟨g, 0, none⟩) n n) n ((List.range n).map (fi f)) := by
  refine ⟨by simp, .inr ⟨g, n, _, rfl, hB, h, Nat.le_refl _, by unfold maxLen; omega, by rw [fc_size]; omega, ?_⟩⟩
  simp [fc]
  try exact List.take_of_length_le (by simp)
def LvOut (F : Nat → Bool) (nm : Nat) (w : World) (e : Ending) (w' : World) : Prop := ∃ g, e = .returned (.slice (some ⟨g, 0, none⟩) (256 + nm) (256 + nm)) ∧ FRow w' g 3 (256 + nm) (fi F) ∧ w.heap.size ≤ g ∧ Below w.heap.size w w'
set_option maxHeartbeats 8000000 in
theorem rlive_any (b off cap n k k1 : Nat) (hn : n = k + 3) (hk1 : k1 = k + 1) (hc1 : n ≤ cap) (hc2 : cap ≤ 9223372036854775807) (x0 x1 : Sm) (p : Nat → Bool) (w : World) (hrow : ∀ W, Below w.heap.size w W → W.rangeAt b (off + k * 523) (svL x0.g x0.p) ∧ SmAt W x0 ∧ W.rangeAt b (off + k1 * 523) (svL x1.g x1.p) ∧ SmAt W x1) (herr : mg.errOf x1.g.ms = 0)
    (hcm : ∀ W, Below w.heap.size w W → Calls Try.prog 28 #[.slice (some ⟨b, off, none⟩) n cap] W (CmOut p W)) : Calls Try.prog 13 #[.slice (some ⟨b, off, none⟩) n cap] w (LvOut (fin p x0.g.mp x1.g.ms x1.g.dr) x1.g.ms.length w) := by
  have h4 := (mg.ok_run herr).1
  have HRG := (show Hid (∀ k m, x1.g.ms[k]? = some m → mg.InR m.1 (256 + k) ∧ mg.InR m.2 (256 + k)) from (mg.fine herr).rng)
  obtain ⟨_, _, hrg1, hsm1⟩ := hrow w (Below.refl _ _)
  have hs := hsm1.s
  obtain ⟨Z, hZ⟩ : ∃ Z, Z = ir.z39.toArray := ⟨_, rfl⟩
  have hzero : ∀ w, (zeroValue 39).run Try.prog w = .ok (.agg Z) w := by rw [hZ]; exact ir.zero39
  have hzs : Z.size = 523 := by rw [hZ, List.size_toArray]; exact ir.z39_len
  obtain ⟨w1, hw1, hbx, b1⟩ := ir.stage_new w Z hs
  have hl1 := ir.info39c hs
  have hl2 := ir.info39a hs
  have hone := hs.all
  have hold : Z.size = (svL x1.g x1.p).toArray.size := by rw [hzs, List.size_toArray, hs.len]
  have hnew := World.alloc_heap_new w (.cells Z 39)
  obtain ⟨vo, vc, evm, hv1, hv2, hvl⟩ := hs.ms.form
  have HMS := (show Hid (∀ W, Below w.heap.size w W → ∀ i (hi : i < x1.g.ms.length), ∃ b off, vo = some ⟨b, off, none⟩ ∧ W.cell? ⟨b, off + i * 2, none⟩ = some (.int .i64 x1.g.ms[i].1) ∧ W.cell? ⟨b, off + i * 2 + 1, none⟩ = some (.int .i64 x1.g.ms[i].2)) from fun W c i hi => by
    obtain ⟨b, off, e, hlt, c1, c2⟩ := hvl i hi
    exact ⟨b, off, e, (c.cell (p := ⟨b, off + i * 2, none⟩) hlt).trans c1, (c.cell (p := ⟨b, off + i * 2 + 1, none⟩) hlt).trans c2⟩)
  have hs1 : w1.heap.size = w.heap.size + 1 := by rw [← hw1]; simp
  have HSB := (show Hid (∀ W, Below w1.heap.size w1 W → W.cell? ⟨w.heap.size, 519, none⟩ = some (.slice vo x1.g.ms.length vc) ∧ W.cell? ⟨w.heap.size, 520, none⟩ = some x1.p.vd) from fun W c => by
    obtain ⟨t1, t2, _, _⟩ := hbx.last (hs.later b1)
    rw [evm] at t1
    exact ⟨(c.cell (p := ⟨w.heap.size, 519, none⟩) (by rw [hs1]; simp)).trans t1, (c.cell (p := ⟨w.heap.size, 520, none⟩) (by rw [hs1]; simp)).trans t2⟩)
  have HMP := (show Hid (∀ W, Below w.heap.size w W → ∀ x, x < 256 → W.cell? ⟨b, off + k * 523 + 263 + x, none⟩ = some (.int .u8 (x0.g.mp x : Nat))) from fun W c x hx => by
    obtain ⟨a, sa, _, _⟩ := hrow W c
    exact ir.mapL_cell (ir.row_mp a sa.s) x hx)
  have HLT := (show Hid (∀ x, x < 256 → x0.g.mp x < 256) from fun x _ => (hrow w (Below.refl _ _)).2.1.s.mp x)
  have HHS := (show Hid (∀ W, Below w.heap.size w W → ∀ x : Int, Calls Try.prog 29 #[x1.p.vd, .int .i64 x] W fun e w' => e = .returned (.bool (x1.g.dr.contains x)) ∧ w' = W) from fun W c x => has_any x1.g.dr x _ rfl x1.p.vd W (hrow W c).2.2.2.s.dr)
  obtain ⟨F, hF⟩ : ∃ F, F = fin p x0.g.mp x1.g.ms x1.g.dr := ⟨_, rfl⟩
  obtain ⟨nm, hnm⟩ : ∃ nm, nm = x1.g.ms.length := ⟨_, rfl⟩
  have HFL := (show Hid (∀ x, x < 256 → F x = baseB p x0.g.mp 256 x) from fun x hx => by rw [hF]; exact fin_low _ _ _ _ x hx)
  have HFA := (show Hid (∀ k (hk : k < x1.g.ms.length) (a b : Nat), x1.g.ms[k].1 = (a : Int) → x1.g.ms[k].2 = (b : Int) → a < 256 + k → b < 256 + k → F (256 + k) = (!(x1.g.dr.contains (k : Int)) && (F a && F b))) from fun k hk a b ea eb ha hb => by
    rw [hF, fin_at _ _ _ _ k hk]
    unfold live1
    have hg : x1.g.ms.getD k (0, 0) = x1.g.ms[k] := by rw [List.getD_eq_getElem?_getD, List.getElem?_eq_getElem hk]; rfl
    rw [hg, ea, eb]
    rw [Int.toNat_natCast, Int.toNat_natCast, fin_before p _ _ _ k a (by omega) ha, fin_before p _ _ _ k b (by omega) hb])
  have HNM := (show Hid (nm = x1.g.ms.length) from hnm)
  rw [← hF, ← hnm]
  rw [← hnm] at HSB hv1 h4
  obtain ⟨w2, hw2⟩ : ∃ w2, w1.alloc (.cells (fc (256 + nm) (fi fun _ => false)) 3) = w2 := ⟨_, rfl⟩
  have b2 : Below w1.heap.size w1 w2 := by rw [← hw2]; exact below_alloc w1 _
  have HA := (show Hid (FRow w2 w1.heap.size 3 (256 + nm) (fi (baseB p x0.g.mp 0))) from FRow.congr (by rw [← hw2]; exact heap_alloc_new w1 _ : FRow w2 w1.heap.size 3 (256 + nm) (fi fun _ => false)) fun i _ => by simp [fi, base_0])
  have hz2 : w1.heap.size < w2.heap.size := by rw [← hw2]; simp
  have HZ2 := (show Hid (w1.heap.size < w2.heap.size) from hz2)
  have HB1 := (show Hid (Below w.heap.size w w1) from b1)
  have HB2 := (show Hid (Below w1.heap.size w1 w2) from b2)
  have c28 := hcm w2 (chain b1 b2)
  have HLO := (show Hid (w.heap.size ≤ w1.heap.size) from b1.size)
  have hmk : ∀ W, (Instr.makeSlice 25 (.int .i64 ((256 : Int) + (nm : Int))) (.int .i64 ((256 : Int) + (nm : Int)))).run Try.prog W = .ok (.slice (some ⟨W.heap.size, 0, none⟩) (256 + nm) (256 + nm)) (W.alloc (.cells (fc (256 + nm) (fi fun _ => false)) 3)) := fun W => by
    have := make25 (256 + nm) (by omega) W
    rw [show (((256 + nm : Nat)) : Int) = (256 : Int) + (nm : Int) by omega] at this
    exact this
  have f0 : ((n : Nat) : Int) - 3 = (k : Int) := by omega
  have f1 : (k : Int) + 1 = (k1 : Int) := by omega
  have hkn : k < n := by omega
  have hkn1 : k1 < n := by omega
  have v0 : IntKind.i64.wrap (k : Int) = (k : Int) := IntWalk.i64_in _ (by omega)
  have v1 : IntKind.i64.wrap (k1 : Int) = (k1 : Int) := IntWalk.i64_in _ (by omega)
  have q519 := (HSB.out w1 (Below.refl _ _)).1
  obtain ⟨gs, hgs⟩ : ∃ gs, gs = w.heap.size := ⟨_, rfl⟩
  generalize hCL : svL x1.g x1.p = CL at *
  generalize hmpp : x0.g.mp = mp at *
  clear hZ hsm1 hs hbx evm hvl hs1 b2 hz2 hcm hrow hF hnm herr hn hk1 hmpp hgs b1 hCL
  go_enter Try.func13, Try.ntmps13
  go_upto_region 3 with (first | (refine wpList_load_mid rfl 39 (.tmp 17) rfl b (off + k1 * 523) rfl CL _ hrg1 Try.underlying39 rfl hl1 ?_) | (refine wpList_store_row rfl 39 (.tmp 4) (.tmp 18) rfl w.heap.size CL.toArray rfl rfl 39 Z hnew hl2 hold hone ?_; rw [hw1]))
  clear hrg1 hl1 hl2 hold hone hnew hw1
  go_upto_region 4 with (fail)
  clear hmk hw2 q519
  go_wp2_with (fail)
  go_at_call 28
  refine c28.mono ?_
  rintro e w3 ⟨gc, rfl, hfc, hgc, b3⟩
  have HR3 := (show Hid (FRow w3 w1.heap.size 3 (256 + nm) (fi (baseB p mp 0))) from (b3.block _ HZ2.out).trans HA.out)
  have HC3 := (show Hid (FRow w3 gc 3 256 (fi p)) from hfc)
  have HGC := (show Hid (gc ≠ w1.heap.size) from by have := HZ2.out; show _ ≠ _; omega)
  have HB3 := (show Hid (Below w1.heap.size w1 w3) from chain HB2.out b3)
  obtain ⟨gL, HGL⟩ : ∃ gL, Hid (gL = w1.heap.size) := ⟨_, rfl⟩
  rw [← HGL.out] at HR3 HGC HB3 HSB HLO ⊢
  clear c28 hfc hgc b3 HA HB2 HZ2
  go_wp2_with (fail)
  go_loopw [27] (fun y wr => ∃ i : Nat, y = .int .i64 (i : Int) ∧ i ≤ 256 ∧ Hid (FRow wr gL 3 (256 + nm) (fi (baseB p mp i))) ∧ Hid (FRow wr gc 3 256 (fi p)) ∧ Hid (Below gL w1 wr)) (fun y _ => 256 - (intOf y).toNat)
  case atStart => exact ⟨0, rfl, by omega, HR3, HC3, HB3⟩
  case round =>
    clear HR3 HC3 HB3
    obtain ⟨i, rfl, hi, HR, HC, HB⟩ := hrel
    have HBw := (show Hid (Below w.heap.size w wr) from HB1.out.trans (HB.out.mono HLO.out))
    by_cases hin : i < 256
    · have qc := HC.out.cell hin
      cases hpi : p i
      · rw [fi_false hpi] at qc
        have HN := (show Hid (FRow wr gL 3 (256 + nm) (fi (baseB p mp (i + 1)))) from HR.out.congr fun x _ => by simp only [fi, base_no p mp i x hpi])
        clear HR hpi
        go_wp2_with (fail)
        go_roundw
        case rel => exact ⟨i + 1, by go_num, by omega, HN, HC, HB⟩
        case measure => simp [intOf]; omega
      · rw [fi_true hpi] at qc
        have q1 := HMP.out wr HBw.out i hin
        have hlt := HLT.out i hin
        have hlti : ((mp i : Nat) : Int) < 256 := by omega
        have hltn : ((mp i : Nat) : Int) < (256 : Int) + (nm : Int) := by omega
        have q2 := HR.out.cell (i := mp i) (by omega)
        have q3 := HR.out.fz (mp i)
        have HN := (show Hid (FRow (wr.setCell ⟨gL, mp i, none⟩ (.int .i64 1)) gL 3 (256 + nm) (fi (baseB p mp (i + 1)))) from (HR.out.put (mp i) _).congr fun x _ => by
          simp only [fi, base_yes p mp i x hpi]
          by_cases e : x = mp i <;> simp [e])
        have HC2 := (show Hid (FRow (wr.setCell ⟨gL, mp i, none⟩ (.int .i64 1)) gc 3 256 (fi p)) from HC.out.other HGC.out _ _)
        have HB2 := (show Hid (Below gL w1 (wr.setCell ⟨gL, mp i, none⟩ (.int .i64 1))) from HB.out.setCell (p := ⟨gL, mp i, none⟩) (Nat.le_refl _) _)
        unfold fi at q2
        generalize baseB p mp i (mp i) = bv at *
        generalize mp i = x at *
        clear HR HB HC hpi
        go_wp2_with (fail)
        go_roundw
        case rel => exact ⟨i + 1, by go_num, by omega, HN, HC2, HB2⟩
        case measure => simp [intOf]; omega
    · have HF0 := (show Hid (∃ s, FRow wr gL 3 (256 + nm) (fi s) ∧ Ok F s nm) from ⟨baseB p mp 256, by
        have hie : i = 256 := by omega
        rw [hie] at HR
        exact HR.out, ⟨fun x hx => (HFL.out x hx).symm, fun k hk h => by
          exfalso
          unfold baseB at h
          rw [List.any_eq_true] at h
          obtain ⟨b, hb, h⟩ := h
          have h1 := HLT.out b (by simpa using hb)
          simp at h
          omega⟩⟩)
      clear HR HC HGC
      go_wp2_with (fail)
      go_loopw [8] (fun y wr => ∃ m : Bool, y = .bool m ∧ Hid (∃ s, FRow wr gL 3 (256 + nm) (fi s) ∧ Ok F s nm ∧ (m = false → ∀ x, x < 256 + nm → s x = F x)) ∧ Hid (Below gL w1 wr)) (fun y wr => meas gL (256 + nm) F y wr)
      case atStart =>
        obtain ⟨s, h1, h2⟩ := HF0.out
        exact ⟨true, rfl, ⟨s, h1, h2, fun e => by cases e⟩, HB⟩
      case round =>
        clear HF0 HB HBw
        obtain ⟨m, rfl, HS, HB⟩ := hrel
        cases m
        · obtain ⟨s, h1, h2, h3⟩ := HS.out
          have HF := (show Hid (FRow wr gL 3 (256 + nm) (fi F)) from h1.congr fun x hx => by simp only [fi, h3 rfl x hx])
          have HBW := (show Hid (Below w.heap.size w wr) from HB1.out.trans (HB.out.mono HLO.out))
          clear h1 h2 h3 HS
          go_wp2_with (fail)
          go_ret
          exact ⟨_, rfl, HF.out, HLO.out, HBW.out⟩
        · obtain ⟨s, h1, h2, _⟩ := HS.out
          have HM1 := (show Hid (0 < meas gL (256 + nm) F (.bool true) wr) from meas_pos _ _ _ _)
          have HM2 := (show Hid (∀ x, x < 256 + nm → s x = false → F x = true → meas gL (256 + nm) F (.bool true) wr = 2) from fun x hx a b => meas_two h1 hx a b)
          have HOK := (show Hid (Ok F s nm) from h2)
          have HR0 := (show Hid (FRow wr gL 3 (256 + nm) (fi (mix F s 0))) from h1.congr fun x _ => by simp only [fi, ← mix_0 h2 x])
          have q519 := (HSB.out wr HB.out).1
          clear h1 h2 HS
          go_wp2_with (fail)
          clear q519
          go_loopw [8, 48] (fun y z wr => ∃ (i : Nat) (m : Bool), y = .bool m ∧ z = .int .i64 (i : Int) ∧ i ≤ nm ∧ Hid (FRow wr gL 3 (256 + nm) (fi (mix F s i))) ∧ Hid (m = true → ∃ j, j < i ∧ s (256 + j) = false ∧ F (256 + j) = true) ∧ Hid (Below gL w1 wr)) (fun _ z _ => nm - (intOf z).toNat)
          case atStart => exact ⟨0, false, rfl, rfl, by omega, HR0, fun e => by simp at e, HB⟩
          case round =>
            clear HR0 HB
            obtain ⟨i, m, rfl, rfl, hi, HR, HM, HB⟩ := hrel
            have HBw := (show Hid (Below w.heap.size w wr) from HB1.out.trans (HB.out.mono HLO.out))
            by_cases hin : i < nm
            · have hil : i < x1.g.ms.length := by rw [← HNM.out]; exact hin
              obtain ⟨bm, boff, rfl, d1, d2⟩ := HMS.out wr HBw.out i hil
              obtain ⟨r1, r2⟩ := HRG.out i x1.g.ms[i] (List.getElem?_eq_getElem hil)
              unfold mg.InR at r1 r2
              obtain ⟨a, ha⟩ : ∃ a : Nat, x1.g.ms[i].1 = (a : Int) := ⟨x1.g.ms[i].1.toNat, by omega⟩
              obtain ⟨bb, hb⟩ : ∃ b : Nat, x1.g.ms[i].2 = (b : Int) := ⟨x1.g.ms[i].2.toNat, by omega⟩
              have ha2 : a < 256 + i := by omega
              have hb2 : bb < 256 + i := by omega
              have HFI := (show Hid (F (256 + i) = (!(x1.g.dr.contains (i : Int)) && (F a && F bb))) from HFA.out i hil a bb ha hb ha2 hb2)
              rw [ha] at d1
              rw [hb] at d2
              have ba := below_alloc wr (.cells #[.int .i64 (a : Int), .int .i64 (bb : Int)] 70)
              have HX1 := (show Hid ((wr.alloc (.cells #[.int .i64 (a : Int), .int .i64 (bb : Int)] 70)).heap[wr.heap.size]? = some (.cells #[.int .i64 (a : Int), .int .i64 (bb : Int)] 70 (0, 0))) from World.alloc_heap_new wr _)
              have hgl : gL < wr.heap.size := HR.out.lt
              have HB3 := (show Hid (Below gL w1 (wr.alloc (.cells #[.int .i64 (a : Int), .int .i64 (bb : Int)] 70))) from HB.out.trans (ba.mono (by omega)))
              have HR3 := (show Hid (FRow (wr.alloc (.cells #[.int .i64 (a : Int), .int .i64 (bb : Int)] 70)) gL 3 (256 + nm) (fi (mix F s i))) from HR.out.later ba)
              obtain ⟨bx, HBX⟩ : ∃ bx, Hid (bx = wr.heap.size) := ⟨_, rfl⟩
              rw [← HBX.out] at HX1
              clear ba r1 r2 ha hb HR HB HBw hil hgl
              go_upto_region 16 with (fail)
              generalize wr.alloc (.cells #[.int .i64 (a : Int), .int .i64 (bb : Int)] 70) = w4 at *
              rw [← HBX.out]
              clear d1 d2
              have y0 : w4.cell? ⟨bx, 0, none⟩ = some (.int .i64 (a : Int)) := by rw [Lib.cell_of_heap HX1.out]; rfl
              have y1 : w4.cell? ⟨bx, 1, none⟩ = some (.int .i64 (bb : Int)) := by rw [Lib.cell_of_heap HX1.out]; rfl
              have qi := HR3.out.cell (i := 256 + i) (by omega)
              have qa := HR3.out.cell (i := a) (by omega)
              have qb := HR3.out.cell (i := bb) (by omega)
              have qz := HR3.out.fz (256 + i)
              simp only [fi, mix_at, mix_low F s i a ha2, mix_low F s i bb hb2] at qi qa qb
              have q520 := (HSB.out w4 HB3.out).2
              have c29 := HHS.out w4 (HB1.out.trans (HB3.out.mono HLO.out)) (i : Int)
              have i1 : ((256 : Int) + (i : Int)).toNat = 256 + i := by omega
              have i2 : IntKind.i64.wrap ((256 : Int) + (i : Int)) = (256 : Int) + (i : Int) := IntWalk.i64_in _ (by omega)
              have i3 : (256 : Int) + (i : Int) < (256 : Int) + (nm : Int) := by omega
              have HSAME := (show Hid (s (256 + i) = F (256 + i) → FRow w4 gL 3 (256 + nm) (fi (mix F s (i + 1)))) from fun e => HR3.out.congr fun x _ => by simp only [fi, mix_same F s i x e])
              have HSET := (show Hid (F (256 + i) = true → FRow (w4.setCell ⟨gL, 256 + i, none⟩ (.int .i64 1)) gL 3 (256 + nm) (fi (mix F s (i + 1)))) from fun e => (HR3.out.put (256 + i) _).congr fun x _ => by
                have := mix_set F s i x e
                simp only [fi, ← this]
                by_cases h : x = 256 + i <;> simp [h])
              have HBS := (show Hid (Below gL w1 (w4.setCell ⟨gL, 256 + i, none⟩ (.int .i64 1))) from HB3.out.setCell (p := ⟨gL, 256 + i, none⟩) (Nat.le_refl _) _)
              have HMM := (show Hid (m = true → ∃ j, j < i + 1 ∧ s (256 + j) = false ∧ F (256 + j) = true) from fun e => by
                obtain ⟨j, h1, h2⟩ := HM.out e
                exact ⟨j, by omega, h2⟩)
              have HMS2 := (show Hid (s (256 + i) = false → F (256 + i) = true → ∃ j, j < i + 1 ∧ s (256 + j) = false ∧ F (256 + j) = true) from fun e1 e2 => ⟨i, by omega, e1, e2⟩)
              have HUP := (show Hid (s (256 + i) = true → F (256 + i) = true) from HOK.out.up i hin)
              generalize x1.g.dr.contains (i : Int) = dd at *
              clear HR3 HX1 HM
              obtain ⟨sv, hsv⟩ : ∃ sv, sv = s (256 + i) := ⟨_, rfl⟩
              obtain ⟨fv, hfv⟩ : ∃ fv, fv = F (256 + i) := ⟨_, rfl⟩
              rw [← hsv] at qi HSAME HMS2 HUP
              rw [← hfv] at HFI HSAME HSET HMS2 HUP
              generalize F a = fa at *
              generalize F bb = fbb at *
              clear hsv hfv
              cases sv
              · simp only [Bool.false_eq_true, if_false] at qi
                go_wp2_with (fail)
                go_at_call 29
                refine c29.mono ?_
                rintro e w5 ⟨rfl, rfl⟩
                clear c29
                cases dd
                · cases fa
                  · have HN := (show Hid (FRow w5 gL 3 (256 + nm) (fi (mix F s (i + 1)))) from HSAME.out (by rw [HFI.out]; rfl))
                    simp only [Bool.false_eq_true, if_false] at qa
                    clear HSAME HSET HBS HMS2 HUP HFI
                    go_wp2_with (fail)
                    go_roundw
                    case rel => exact ⟨i + 1, m, rfl, by go_num, by omega, HN, HMM, HB3⟩
                    case measure => simp [intOf]; omega
                  · simp only [if_true] at qa
                    cases fbb
                    · have HN := (show Hid (FRow w5 gL 3 (256 + nm) (fi (mix F s (i + 1)))) from HSAME.out (by rw [HFI.out]; rfl))
                      simp only [Bool.false_eq_true, if_false] at qb
                      clear HSAME HSET HBS HMS2 HUP HFI
                      go_wp2_with (fail)
                      go_roundw
                      case rel => exact ⟨i + 1, m, rfl, by go_num, by omega, HN, HMM, HB3⟩
                      case measure => simp [intOf]; omega
                    · have hf : fv = true := by rw [HFI.out]; rfl
                      have HN := (show Hid (FRow (w5.setCell ⟨gL, 256 + i, none⟩ (.int .i64 1)) gL 3 (256 + nm) (fi (mix F s (i + 1)))) from HSET.out hf)
                      have HM3 := (show Hid (∃ j, j < i + 1 ∧ s (256 + j) = false ∧ F (256 + j) = true) from HMS2.out (by trivial) hf)
                      simp only [if_true] at qb
                      clear HSAME HSET HMS2 HUP HFI hf HMM
                      go_wp2_with (fail)
                      go_roundw
                      case rel => exact ⟨i + 1, true, rfl, by go_num, by omega, HN, (show Hid (true = true → ∃ j, j < i + 1 ∧ s (256 + j) = false ∧ F (256 + j) = true) from fun _ => HM3.out), HBS⟩
                      case measure => simp [intOf]; omega
                · have HN := (show Hid (FRow w5 gL 3 (256 + nm) (fi (mix F s (i + 1)))) from HSAME.out (by rw [HFI.out]; rfl))
                  clear HSAME HSET HBS HMS2 HUP HFI
                  go_wp2_with (fail)
                  go_roundw
                  case rel => exact ⟨i + 1, m, rfl, by go_num, by omega, HN, HMM, HB3⟩
                  case measure => simp [intOf]; omega
              · have HN := (show Hid (FRow w4 gL 3 (256 + nm) (fi (mix F s (i + 1)))) from HSAME.out (by rw [HUP.out rfl]))
                simp only [if_true] at qi
                clear HSAME HSET HBS HMS2 HUP HFI c29
                go_wp2_with (fail)
                go_roundw
                case rel => exact ⟨i + 1, m, rfl, by go_num, by omega, HN, HMM, HB3⟩
                case measure => simp [intOf]; omega
            · have HF := (show Hid (FRow wr gL 3 (256 + nm) (fi F)) from HR.out.congr fun x hx => by
                have hie : i = nm := by omega
                simp only [fi, hie, mix_all F s nm x hx])
              have HS2 := (show Hid (∃ s, FRow wr gL 3 (256 + nm) (fi s) ∧ Ok F s nm ∧ (m = false → ∀ x, x < 256 + nm → s x = F x)) from ⟨F, HF.out, ⟨fun _ _ => rfl, fun _ _ h => h⟩, fun _ _ _ => rfl⟩)
              clear HR
              go_wp2_with (fail)
              go_roundw
              case rel => exact ⟨m, rfl, HS2, HB⟩
              case measure =>
                cases m
                · have := HM1.out
                  have e := meas_false gL (256 + nm) F wr
                  simp at this e ⊢
                  omega
                · obtain ⟨j, h1, h2, h3⟩ := HM.out rfl
                  have := HM2.out (256 + j) (by omega) h2 h3
                  have e := meas_full HF.out
                  simp at this e ⊢
                  omega
end Go.Proofs.Ytmmlibehihknbaa.op
