/-
  Contracts over this program: what becomes of a text that waits, where that is not known yet (rewriter.fall).
-/
import Derived.Test.YtlmodfeiphffcaaM13
namespace Go.Proofs.Ytlmodfeiphffcaa.wr
open Go.ChangeShapes Go.WideShapes Go.ChangeAt Go.RowKit Go.Shelf Go.Maps
open tr
open mk (law9 OkT kt key9 kt_inj map_keep)
open ru (Ru Rus)
open ru.rw (waits whole stp fall states fo fo_zero fo_succ fo_all fo_len fo_out fo_wait)
set_option linter.unusedVariables false
set_option maxRecDepth 100000

/-- a step from a text that waits is as it should be -/
def StepOk (l : List Ru) (w : ByteArray) : Prop := ∀ f B rb lv sm fm v out W (b : UInt8), Rw B rb l lv sm fm W → BufG f B v out W → out.length + 3300 * (w.size + 1) ≤ 90000 → Calls Try.prog 35 #[.pointer (some ⟨rb, 0, none⟩), v, .string w, .int .u8 (b.toNat : Int)] W (StpOut f B rb l lv sm fm v out w.data.toList b W)
theorem BufG.base {f : Bool} {B B' : Nat} {v : Value} {xs : List UInt8} {W : World} (h : BufG f B v xs W) (hb : B' ≤ B) : BufG f B' v xs W := by
  refine ⟨Nat.le_trans hb h.1, ?_⟩
  rcases h.2 with e | ⟨g, cap, cur, fz, rfl, h1, r⟩
  · exact .inl e
  · exact .inr ⟨g, cap, cur, fz, rfl, Nat.le_trans hb h1, r⟩
theorem bs_list (xs : List UInt8) : (tr.bs xs).data.toList = xs := rfl
theorem bstart {f : Bool} {B : Nat} {v : Value} {xs : List UInt8} {W : World} (h : BufG f B v xs W) : ∃ (g : Option Addr) (n c : Nat), v = .slice g n c ∧ n ≤ c ∧ c ≤ 9223372036854775807 ∧ Hid (n = xs.length) ∧ Hid (BufG f B (.slice g n c) xs W) := by
  obtain ⟨g, c, rfl, h1, h2⟩ := h.form
  exact ⟨g, xs.length, c, rfl, h1, h2, rfl, h⟩
set_option maxHeartbeats 4000000 in
theorem fall_new (l : List Ru) (hg : ru.Good l) (B rb : Nat) (lv : Value) (sm fm : Nat) (W : World) (hR : Rw B rb l lv sm fm W) (ks : List ByteArray) (D : DataW Unit) (hD : W.ownsMap Try.prog 9 RF fm ks.length D) (hF : IsFl l ks D) (u : ByteArray) (hu : u ∉ ks) (h0 : 0 < u.size) (hw : waits l u.data.toList = true)
    (IH : ∀ w : ByteArray, w.size < u.size → (w.data.toList = [] ∨ waits l w.data.toList = true) → StepOk l w) :
    Calls Try.prog 57 #[.pointer (some ⟨rb, 0, none⟩), .string u] W (FallOut B rb l lv sm fm u W) := by
  have hul := list_len u
  have hu15 : u.size ≤ 15 := by rw [← hul]; exact ru.rw.wait_len hg (.inr hw)
  have hOk : OkT u := by unfold OkT; omega
  have hune : u.data.toList ≠ [] := fun e => by rw [e] at hul; simp at hul; omega
  have hfl := ru.rw.first_len hg hune
  have ba := below_alloc W (.cells #[.string ⟨#[]⟩, .string ⟨#[]⟩] 106)
  have R0 := hR.later ba
  obtain ⟨e2, k2, n2⟩ := hR.fobj
  obtain ⟨p0, q0, hlk⟩ := look96n (map_same hD (ba.block fm (Array.getElem?_eq_some_iff.1 n2).1)) hF u hOk hu
  have HNF := (show Hid (¬ Found W fm u) from fun h => hu ((hF.has u hOk).1 ((found_iff hD u hOk).1 h)))
  have c2 := R0.c2
  have bb := below_alloc (W.alloc (.cells #[.string ⟨#[]⟩, .string ⟨#[]⟩] 106)) (.cells #[.string p0, .string q0] 106)
  have x0 := (bb.block W.heap.size (by simp)).trans (World.alloc_heap_new W (.cells #[.string ⟨#[]⟩, .string ⟨#[]⟩] 106))
  have R1 := R0.later bb
  have c72 := first_any l hg B rb lv sm fm _ u R1 h0 (by omega)
  have b1 := ru.chain ba bb
  have HX0 := (show Hid _ from x0)
  have HR1 := (show Hid _ from R1)
  have HB1 := (show Hid _ from b1)
  have HN1 := (show Hid (∀ n W', W'.heap[fm]? = W.heap[fm]? → NewLt n fm W W') from fun n W' e => NewLt.same hR e)
  have HFM := (show Hid (fm < W.heap.size) from (Array.getElem?_eq_some_iff.1 n2).1)
  have HW := (show Hid (waits l u.data.toList = true) from hw)
  have HBH := (show Hid (B ≤ W.heap.size) from hR.hb)
  obtain ⟨rest, HREST⟩ : ∃ rest, Hid (rest = (ru.rw.first l u.data.toList).2) := ⟨_, rfl⟩
  have hrl : rest.length < u.size := by rw [HREST.out]; omega
  obtain ⟨RR, HRR⟩ : ∃ RR, Hid (RR = tr.bs rest) := ⟨_, rfl⟩
  have HRS : Hid (RR.size = rest.length) := by show _ = _; rw [HRR.out, ← list_len]
  rw [← HREST.out, ← HRR.out] at c72
  have HRA : Hid (∀ i (h : i < RR.size), ∃ h' : i < rest.length, RR[i] = rest[i]) := by
    have e := HRR.out
    subst e
    exact fun i h => by
      have h' : i < rest.length := by rw [← HRS.out]; exact h
      exact ⟨h', by simp [ByteArray.getElem_eq_getElem_data]⟩
  clear hR R0 R1 hD hF hu ba bb x0 b1 n2 hOk hune hfl hw
  go_enter Try.func57, Try.ntmps57
  go_wp2_with (fail)
  go_at_call 70
  refine c72.mono ?_
  rintro e w2 ⟨v2, rfl, bx2, b2⟩
  generalize (W.alloc (.cells #[.string ⟨#[]⟩, .string ⟨#[]⟩] 106)).alloc (.cells #[.string p0, .string q0] 106) = W1 at *
  have G2 := BufG.ofX bx2 b2.size
  have HV2 := (show Hid (∀ g, v2.ownBlock = some g → W.heap.size ≤ g) from fun g eg => Nat.le_trans HB1.out.size (G2.lt eg).1)
  have G2 := G2.base (B' := B) (Nat.le_trans HBH.out HB1.out.size)
  have HF2 := (show Hid (Fw fm W w2) from (Fw.of HB1.out).trans (Fw.of b2))
  have HRR2 := (show Hid (Rw B rb l lv sm fm w2) from HR1.out.later b2)
  have HZ2 := (show Hid (w2.heap[W.heap.size]? = some (.cells #[.string ⟨#[]⟩, .string ⟨#[]⟩] 106 (0, 0))) from (b2.block _ (Array.getElem?_eq_some_iff.1 HX0.out).1).trans HX0.out)
  have HNL2 := (show Hid (NewLt u.size fm W w2) from HN1.out _ _ ((b2.block fm (Nat.lt_of_lt_of_le HFM.out HB1.out.size)).trans (HB1.out.block fm HFM.out)))
  obtain ⟨g2, n2, cc2, rfl, l1, l2, HN2, HG2⟩ := bstart G2
  clear c72 bx2 b2 G2 HX0 HR1 HN1
  obtain ⟨rz, HRZ⟩ : ∃ rz, Hid (rz = W.heap.size) := ⟨_, rfl⟩
  rw [← HRZ.out] at HZ2 ⊢
  have hrr : RR.size < u.size := by rw [HRS.out]; exact hrl
  go_wp2_with (fail)
  go_loopw [31, 7, 9] (fun y x z wr => ∃ (i : Nat) (g : Option Addr) (n c : Nat) (xs : List UInt8) (t : ByteArray), y = .int .i64 i ∧ x = .slice g n c ∧ z = .string t ∧ i ≤ RR.size ∧ n ≤ c ∧ c ≤ 9223372036854775807 ∧ Hid (n = xs.length) ∧ Hid ((xs, t.data.toList) = fo l u.data.toList i) ∧ Hid (BufG true B (.slice g n c) xs wr) ∧ Hid (Rw B rb l lv sm fm wr) ∧ Hid (Fw fm W wr) ∧ Hid (∀ k, (Value.slice g n c).ownBlock = some k → W.heap.size ≤ k) ∧ Hid (wr.heap[rz]? = some (.cells #[.string ⟨#[]⟩, .string ⟨#[]⟩] 106 (0, 0))) ∧ Hid (NewLt u.size fm W wr)) (fun y _ _ _ => RR.size - (intOf y).toNat)
  case atStart => exact ⟨0, g2, n2, cc2, _, ⟨#[]⟩, rfl, rfl, rfl, by omega, l1, l2, HN2, by show _ = _; rw [fo_zero], HG2, HRR2, HF2, HV2, HZ2, HNL2⟩
  case round =>
    clear HN2 HG2 HRR2 HF2 HV2 HZ2 HNL2
    obtain ⟨i, g, n, c, xs, t, rfl, rfl, rfl, hi, m1, m2, HN, HFO, HG, HR, HFW, HV, HZ, HNL⟩ := hrel
    have htl := list_len t
    have e1 : xs = (fo l u.data.toList i).1 := congrArg Prod.fst HFO.out
    have e2 : t.data.toList = (fo l u.data.toList i).2 := congrArg Prod.snd HFO.out
    have hir : i ≤ (ru.rw.first l u.data.toList).2.length := by rw [← HREST.out, ← HRS.out]; exact hi
    have hti : t.size ≤ i := by rw [← htl, e2]; exact fo_len hg _ i
    have hxl : xs.length ≤ 8000 := by
      rw [e1]
      have := fo_out hg u.data.toList i hir
      have h1 : i * (i + 1) ≤ 15 * 16 := Nat.mul_le_mul (by omega) (by omega)
      omega
    have hwt : t.data.toList = [] ∨ waits l t.data.toList = true := by rw [e2]; exact fo_wait hg _ i hir
    have HE1 := (show Hid (xs = (fo l u.data.toList i).1) from e1)
    have HE2 := (show Hid (t.data.toList = (fo l u.data.toList i).2) from e2)
    have hts : t.size ≤ 15 := by omega
    by_cases hend : i < RR.size
    · obtain ⟨h', hri⟩ := HRA.out i hend
      have hfs := fo_succ l u.data.toList i (by rw [← HREST.out]; exact h')
      have HFS := (show Hid (fo l u.data.toList (i + 1) = (xs ++ (stp l t.data.toList RR[i]).1, (stp l t.data.toList RR[i]).2)) from by
        show _ = _
        rw [hfs, ← e1, ← e2, hri]
        simp only [HREST.out])
      have h256 := RR[i].toNat_lt
      have c37 := IH t (by omega) hwt true B rb lv sm fm (.slice g n c) xs wr RR[i] HR.out HG.out (by omega)
      have HTS := (show Hid (t.data.toList.length + 1 ≤ u.size) from by show _ ≤ _; rw [htl]; omega)
      clear e1 e2 hfs hri hwt hir hxl HE1 HE2 htl
      go_wp2_with (fail)
      go_at_call 35
      (with_reducible refine c37.mono ?_)
      rintro e w3 ⟨v3, rfl, G3, R3, gw3, nl3⟩
      obtain ⟨F3, V3⟩ := HFW.out.gw gw3 HV.out
      have hzl := (Array.getElem?_eq_some_iff.1 HZ.out).1
      have Z3 := (show Hid (w3.heap[rz]? = some (.cells #[.string ⟨#[]⟩, .string ⟨#[]⟩] 106 (0, 0))) from (gw3.block rz hzl (HG.out.type HZ.out (by decide)) (fun e => by have := HFM.out; rw [← HRZ.out] at this; omega)).trans HZ.out)
      obtain ⟨g3, n3, c3, rfl, q1, q2, N3, BG3⟩ := bstart G3
      have F3 := (show Hid _ from F3)
      have V3 := (show Hid (∀ k, (Value.slice g3 n3 c3).ownBlock = some k → W.heap.size ≤ k) from V3)
      have R3 := (show Hid _ from R3)
      have NL3 := (show Hid (NewLt u.size fm W w3) from HNL.out.trans (nl3.mono HTS.out))
      clear c37 G3 gw3 nl3 HG HR HFW HV HZ HNL hzl
      go_wp2_with (fail)
      go_roundw
      case rel => exact ⟨i + 1, g3, n3, c3, _, _, by go_num, rfl, rfl, by omega, q1, q2, N3, (by show _ = _; rw [HFS.out]; first | done | rfl), BG3, R3, F3, V3, Z3, NL3⟩
      case measure => simp [intOf]; omega
    · have ei : i = (ru.rw.first l u.data.toList).2.length := by rw [← HREST.out, ← HRS.out]; omega
      have ef : (xs, t.data.toList) = fall l u.data.toList := by rw [HFO.out, ei, fo_all]
      have HP1 := (show Hid (tr.bs (fall l u.data.toList).1 = tr.bs xs) from by show _ = _; rw [← ef])
      have HQ1 := (show Hid (tr.bs (fall l u.data.toList).2 = t) from by show _ = _; rw [← ef]; first | done | (cases t; rfl))
      have hcv := HG.out.conv
      obtain ⟨ks', D', hD', hF'⟩ := HR.out.fl
      have hOk : OkT u := by unfold OkT; omega
      have hnk : u ∉ ks' := fun hm => HNF.out (HNL.out u hOk (Nat.le_refl _) ((found_iff hD' u hOk).2 ((hF'.has u hOk).2 hm)))
      have hkl := ru.rw.few_waits hg hF'.nd (fun x hx => (hF'.ok x hx).2)
      obtain ⟨es', k', nfm⟩ := HR.out.fobj
      have hfl := (Array.getElem?_eq_some_iff.1 nfm).1
      have hkey := key9 u hOk
      have HTD : Hid (Tidy D') := hD'.tidy law9
      generalize hPP : tr.bs xs = PP at *
      have ba := below_alloc wr (.cells #[.string PP, .string t] 106)
      have hD5 : (wr.alloc (.cells #[.string PP, .string t] 106)).drew.ownsMap Try.prog 9 RF fm ks'.length D' := map_same hD' (ba.block fm hfl)
      have c25 := (HR.out.later ba).c2
      have b50 : (wr.alloc (.cells #[.string PP, .string t] 106)).heap[wr.heap.size]? = some (.cells #[.string PP, .string t] 106 (0, 0)) := World.alloc_heap_new wr _
      have b51 : (wr.alloc (.cells #[.string PP, .string t] 106)).cell? ⟨wr.heap.size, 0, none⟩ = some (.string PP) := by rw [Lib.cell_of_heap b50]; rfl
      have b52 : (wr.alloc (.cells #[.string PP, .string t] 106)).cell? ⟨wr.heap.size, 1, none⟩ = some (.string t) := by rw [Lib.cell_of_heap b50]; rfl
      have hzl := (Array.getElem?_eq_some_iff.1 HZ.out).1
      have hzf : rz ≠ fm := fun e => by have := HFM.out; rw [← HRZ.out] at this; omega
      have HB50 := (show Hid _ from b50)
      have HKEPT := (show Hid (∀ k, k < wr.heap.size → (wr.alloc (.cells #[.string PP, .string t] 106)).heap[k]? = wr.heap[k]?) from fun k hk => ba.block k hk)
      have HSZ := (show Hid (wr.heap.size < (wr.alloc (.cells #[.string PP, .string t] 106)).heap.size) from by show _ < _; simp)
      have HD5 := (show Hid ((wr.alloc (.cells #[.string PP, .string t] 106)).drew.ownsMap Try.prog 9 RF fm ks'.length D') from hD5)
      have HNK := (show Hid (u ∉ ks') from hnk)
      have HF5 := (show Hid (IsFl l ks' D') from hF')
      have HDD := (show Hid (wr.ownsMap Try.prog 9 RF fm ks'.length D') from hD')
      have HOK := (show Hid (OkT u) from hOk)
      have HHZ := (show Hid (rz < wr.heap.size ∧ rz ≠ fm) from ⟨hzl, hzf⟩)
      have HHF := (show Hid (fm < wr.heap.size) from hfl)
      clear ei ef e1 e2 hir hxl hwt HE1 HE2 hD' hF' hOk hnk nfm hD5 b50 hzl hzf HFO ba hPP
      obtain ⟨w6, hrun, hD6, hg6⟩ := World.ownsMap.update HD5.out law9 Try.underlying96 (by unfold maxLen; omega) hkey (RF_of PP t)
      have HG6 := (show Hid (∀ k, k < wr.heap.size → k ≠ fm → w6.heap[k]? = wr.heap[k]?) from fun k hk hne => (hg6.block k (Nat.lt_trans hk HSZ.out) (fun e => hne (Option.some.inj e))).trans (HKEPT.out k hk))
      have x6 : w6.heap[wr.heap.size]? = some (.cells #[.string PP, .string t] 106 (0, 0)) := (hg6.block wr.heap.size HSZ.out (fun e => by have := Option.some.inj e; have := HHF.out; omega)).trans HB50.out
      have z6 := (HG6.out rz HHZ.out.1 HHZ.out.2).trans HZ.out
      have s0 : w6.cell? ⟨wr.heap.size, 0, none⟩ = some (.string PP) := by rw [Lib.cell_of_heap x6]; rfl
      have s1 : w6.cell? ⟨wr.heap.size, 1, none⟩ = some (.string t) := by rw [Lib.cell_of_heap x6]; rfl
      have s2 : w6.cell? ⟨rz, 0, none⟩ = some (.string ⟨#[]⟩) := by rw [Lib.cell_of_heap z6]; rfl
      have s3 : w6.cell? ⟨rz, 1, none⟩ = some (.string ⟨#[]⟩) := by rw [Lib.cell_of_heap z6]; rfl
      have s4 : w6.frozen? ⟨rz, 0, none⟩ = false := Lib.frozen_of_heap z6 0
      have s5 : w6.frozen? ⟨rz, 1, none⟩ = false := Lib.frozen_of_heap z6 1
      have Z7 := (show Hid _ from set_two (v0 := .string PP) (v1 := .string t) z6)
      have HF7 := (show Hid (FallOut B rb l lv sm fm u W (.returned (.agg #[.string PP, .string t])) ((w6.setCell ⟨rz, 0, none⟩ (.string PP)).setCell ⟨rz, 1, none⟩ (.string t))) from by
        have oth : ∀ k, k ≠ rz → ((w6.setCell ⟨rz, 0, none⟩ (.string PP)).setCell ⟨rz, 1, none⟩ (.string t)).heap[k]? = w6.heap[k]? := fun k hk => (Below.heap_setCell _ _ _ _ hk).trans (Below.heap_setCell _ _ _ _ hk)
        have hsz : wr.heap.size ≤ ((w6.setCell ⟨rz, 0, none⟩ (.string PP)).setCell ⟨rz, 1, none⟩ (.string t)).heap.size := by rw [World.size_setCell, World.size_setCell]; exact Nat.le_trans (Nat.le_of_lt HSZ.out) hg6.size
        have hrzW : rz = W.heap.size := HRZ.out
        have fw7 : Fw fm wr ((w6.setCell ⟨rz, 0, none⟩ (.string PP)).setCell ⟨rz, 1, none⟩ (.string t)) → Fw fm W ((w6.setCell ⟨rz, 0, none⟩ (.string PP)).setCell ⟨rz, 1, none⟩ (.string t)) := fun h => HFW.out.trans h
        have keep : ∀ k, k < wr.heap.size → k ≠ fm → k ≠ rz → ((w6.setCell ⟨rz, 0, none⟩ (.string PP)).setCell ⟨rz, 1, none⟩ (.string t)).heap[k]? = wr.heap[k]? := fun k hk h1 h2 => (oth k h2).trans (HG6.out k hk h1)
        have hR := HR.out
        obtain ⟨es1, c1, ns⟩ := hR.sobj
        have hD7 : ((w6.setCell ⟨rz, 0, none⟩ (.string PP)).setCell ⟨rz, 1, none⟩ (.string t)).ownsMap Try.prog 9 RF fm (ks' ++ [u]).length (D'.put (kt u) (eF PP.data.toList t.data.toList)) := by
          rw [List.length_append]
          exact map_same hD6 (oth fm (fun e => HHZ.out.2 e.symm))
        have eP : PP.data.toList = (fall l u.data.toList).1 := by rw [← HP1.out]
        have eQ : t.data.toList = (fall l u.data.toList).2 := by rw [← HQ1.out]
        have hF7 : IsFl l (ks' ++ [u]) (D'.put (kt u) (eF PP.data.toList t.data.toList)) := by
          rw [eP, eQ]
          exact HF5.out.put HTD.out u HOK.out HW.out HNK.out trivial
        have hne1 : rb ≠ rz := fun e => by have := hR.box; rw [e, HZ.out] at this; cases this
        have hne2 : sm ≠ rz := fun e => by rw [e, HZ.out] at ns; cases ns
        have hne3 : rb ≠ fm := fun e => by obtain ⟨a, b, q⟩ := hR.fobj; have := hR.box; rw [e, q] at this; cases this
        have hbB : Below B wr ((w6.setCell ⟨rz, 0, none⟩ (.string PP)).setCell ⟨rz, 1, none⟩ (.string t)) := ⟨hg6.os, hg6.tape, hg6.output, hsz, fun k hk => keep k (Nat.lt_of_lt_of_le hk hR.hb) (fun e => by have := hR.bf; omega) (fun e => by have := HBH.out; omega)⟩
        obtain ⟨w0, q1, q2, q3⟩ := hR.rus
        obtain ⟨nn, DS, q4, q5, q6⟩ := hR.st
        refine ⟨by rw [HP1.out, HQ1.out], ⟨(keep rb hR.rl hne3 hne1).trans hR.box, ⟨w0, q1, q2, q3.trans hbB⟩, ⟨nn, DS, q4, map_same q5 (keep sm (Array.getElem?_eq_some_iff.1 ns).1 hR.ne hne2), q6⟩, ⟨ks' ++ [u], _, hD7, hF7⟩, hR.bb, hR.bs, hR.bf, hR.ne⟩, ⟨hg6.os.trans HFW.out.os, hg6.tape.trans HFW.out.tape, hg6.output.trans HFW.out.output, Nat.le_trans HFW.out.size hsz, fun k hk hne => (keep k (Nat.lt_of_lt_of_le hk HFW.out.size) hne (by omega)).trans (HFW.out.block k hk hne)⟩, fun x h1 h2 h3 => ?_⟩
        refine HNL.out x h1 (by omega) ?_
        rw [found_iff hD7 x h1, Maps.has_put_other (fun e => by have := kt_inj x u h1 HOK.out e; rw [this] at h2; omega)] at h3
        exact (found_iff HDD.out x h1).2 h3)
      clear hD6 hg6 x6 z6 HG6
      go_wp2_with (fail)
      go_region
      all_goals (
        go_wp2_with (fail)
        refine ret106 (by rfl) rz _ _ (by rfl) Z7.out (by rfl) ?_
        exact HF7.out)
end Go.Proofs.Ytlmodfeiphffcaa.wr
