/-
  Contracts over this program: the law TokPasses.
-/
import Derived.Test.YthmecbonjkcnmaaGreatKKv
namespace Go.Proofs.YthmecbonjkcnmaaGreat.tk
open Go.ChangeShapes Go.WideShapes Go.ChangeAt Go.RowKit
open ru (Ru Rus apT apE Good)
open cf (Cf Cp cv CfAt CBox cfE cbox_new nthP)
open mg (Row In IntsV idsOf)
open nb (built)
set_option linter.unusedVariables false
set_option maxRecDepth 100000

theorem mgs_nil (w : World) : mg.Mgs w (.slice none 0 0) [] := ⟨⟨none, 0, rfl, Nat.le_refl _, by omega, fun i h => by simp at h⟩⟩
theorem noms_at {w : World} {c : Cf} {p : Cp} (h : CfAt w c p) : CfAt w (noms c) (nomp p) := ⟨h.ps, h.t, mgs_nil w, h.ns, h.bf, h.af⟩
set_option maxHeartbeats 4000000 in
theorem passes_any (c : Cf) (p : Cp) (s : ByteArray) (hs : s.size ≤ 140737488351232) (hsane : c.t.sane) (w : World) (hv : CfAt w c p) : Calls Tryz.prog 5 #[.agg (cv c p), .string s] w fun e w' => e = .returned (.bool true) ∧ Below w.heap.size w w' := by
  obtain ⟨wA, hwA⟩ : ∃ wA, wA = w.alloc (.cells (cv c p) 34) := ⟨_, rfl⟩
  have B0 : Below w.heap.size w wA := by rw [hwA]; exact below_alloc w _
  have hX0 : (w.alloc (.cells (cv c p) 34)).heap[w.heap.size]? = some (.cells (cv c p) 34 (0, 0)) := cbox_new w c p
  have HX := (show Hid (CBox wA w.heap.size c p) from by rw [hwA]; exact cbox_new w c p)
  have hi34 := info34 c p
  have hj34 := info34 (noms c) (nomp p)
  have HC := (show Hid (CfAt w c p) from hv)
  have c14 := short_any s 60 (by omega) (by omega) wA
  have hz := cutN_size s 60
  generalize cutN s 60 = u at *
  have c8 := norm_any c p u (by omega) wA (hv.later B0)
  clear hv
  rw [show ((60 : Nat) : Int) = 60 from rfl] at c14
  go_enter Tryz.func5, Tryz.ntmps5
  go_wp2_with (fail)
  rw [← hwA]
  go_at_call 14
  refine c14.mono ?_
  rintro e w0 ⟨rfl, rfl⟩
  have hX0' : w0.heap[w.heap.size]? = some (.cells (cv c p) 34 (0, 0)) := HX.out
  clear c14 hX0 hwA
  go_wp2_with (first | (refine wpList_load_row rfl 34 (.tmp 2) rfl w.heap.size rfl 34 (cv c p) (0, 0) _ hX0' Tryz.underlying34 rfl hi34 ?_))
  go_at_call 8
  refine c8.mono ?_
  rintro e w1 ⟨r, n, rfl, hr, hn0, hn1, b1⟩
  have HRR := (show Hid (r = cfE c) from hr)
  have HB1 := (show Hid (Below w.heap.size w w1) from chain B0 b1)
  clear c8 hX0' hr
  by_cases h0 : r = 0
  · have hn := hn0 h0
    subst h0
    have hc0 : cfE c = 0 := HRR.out.symm
    obtain ⟨g1, g2, g3⟩ := passes_ok hc0
    have hX1 := HX.out.later b1
    have HX1 := (show Hid (CBox w1 w.heap.size c p) from hX1)
    have hnz : n.size ≤ 1920 := by rw [hn]; exact nrm_few hc0 hz
    have k0 := hX1.c0
    have HFIT := (show Hid (Fit c.ps u) from fit_of hc0 (by omega))
    have HG := (show Hid (∀ p ∈ c.ps, ru.Good p) from g2)
    have HN := (show Hid (n = nrm c.ps u) from hn)
    clear hn hn0 hn1 HRR g2 g3 b1 B0 hX1
    go_wp2_with (fail)
    go_loopw [7, 31] (fun y z wr => ∃ (i : Nat) (t : ByteArray), y = .string t ∧ z = .int .i64 i ∧ i ≤ c.ps.length ∧ Hid (Fit (c.ps.drop i) t) ∧ Hid (nrm (c.ps.drop i) t = n) ∧ Below w1.heap.size w1 wr) (fun _ z _ => c.ps.length - (intOf z).toNat)
    case atStart => exact ⟨0, u, rfl, rfl, by omega, HFIT, by show _ = _; exact HN.out.symm, Below.refl _ _⟩
    case round =>
      have HNC := (show Hid (n = nrm c.ps u) from HN.out)
      clear HFIT HN
      obtain ⟨i, t, rfl, rfl, hil, HF, HT, hB⟩ := hrel
      have HBw := (show Hid (Below w.heap.size w wr) from chain HB1.out hB)
      by_cases hend : i < c.ps.length
      · have hst := drop_step hend
        have hF := HF.out
        have hT := HT.out
        rw [hst] at hF hT
        have hgd := HG.out (nthP c.ps i) (by rw [cf.nthP_eq _ _ hend]; exact List.getElem_mem hend)
        obtain ⟨b, off, v, hbo, hb, hc, hru⟩ := (HC.out.later HBw.out).ps.lie i hend
        have htz := hF.small
        have he : (0 : Nat) = apE (nthP c.ps i) t := by unfold apE; rw [if_pos hgd, if_pos htz]
        have c16 := ru.ap_any (nthP c.ps i) t (by omega) _ 0 rfl he v wr hru
        have HF2 := (show Hid (Fit (c.ps.drop (i + 1)) (apT (nthP c.ps i) t)) from hF.step hgd)
        have HT2 := (show Hid (nrm (c.ps.drop (i + 1)) (apT (nthP c.ps i) t) = n) from hT)
        generalize apT (nthP c.ps i) t = t2 at *
        rw [hbo]
        clear HF HT hF hT hst hgd he hru hbo
        go_wp2_with (fail)
        go_at_call 16
        refine c16.mono ?_
        rintro e w3 ⟨rfl, b3⟩
        clear c16 hc
        go_wp2_with (fail)
        go_roundw
        case rel => exact ⟨i + 1, t2, rfl, by go_num, by omega, HF2, HT2, chain hB b3⟩
        case measure => simp [intOf]; omega
      · obtain rfl : i = c.ps.length := by omega
        have ht : t = n := by have := HT.out; rw [List.drop_length] at this; exact this
        have HNU := (show Hid (t = nrm c.ps u) from by rw [ht]; exact HNC.out)
        subst ht
        have hXr := HX1.out.later hB
        have k9 := hXr.c9
        have f9 := Lib.frozen_of_heap (show wr.heap[w.heap.size]? = some (.cells (cv c p) 34 (0, 0)) from hXr) 9
        have hY : wr.heap[w.heap.size]? = some (.cells (cv c p) 34 (0, 0)) := hXr
        have hY5 := noms_set hY
        have b5 := below_cell HBw.out (Nat.le_refl _) (.slice none 0 0) (i := 9)
        have HB5 := (show Hid (Below w.heap.size w _) from b5)
        have c9 := tok_any (noms c) (nomp p) u (by omega) hsane _ (noms_at (HC.out.later b5))
        clear b5 hXr HF HT
        go_wp2_with (first | (refine wpList_load_row rfl 34 (.tmp 2) rfl w.heap.size rfl 34 (cv (noms c) (nomp p)) (0, 0) _ hY5 Tryz.underlying34 rfl hj34 ?_))
        go_at_call 9
        refine c9.mono ?_
        rintro e w4 ⟨r2, v2, l2, rfl, hr2, hi2, hl02, hl12, b4⟩
        obtain rfl : r2 = 0 := hr2.trans (noms_ok hc0)
        obtain ⟨mid, q1, q2, ql⟩ := hl12 rfl
        have hl : l2 = nameIds (noms c) c.bf ++ idsOf t ++ nameIds (noms c) c.af := by
          have e := mids_nil (nrm c.ps u).size 0 mid (Nat.le_of_eq (Nat.zero_add _).symm) q1
          rw [List.drop_zero] at e
          have e2 : nrm (noms c).ps u = t := HNU.out.symm
          rw [ql, e, show nrm c.ps u = t from e2]
          rfl
        have hlen : l2.length = c.bf.length + t.size + c.af.length := by rw [hl]; simp [nameIds, mg.idsOf_len]; omega
        obtain ⟨⟨j2, -⟩, ⟨j3, -⟩⟩ := frame_ok hc0
        have HL := (show Hid (l2 = nameIds (noms c) c.bf ++ idsOf t ++ nameIds (noms c) c.af) from hl)
        have HI4 := (show Hid (Ids w4 _ v2 l2) from hi2)
        have HB4 := (show Hid (Below w.heap.size w w4) from HB5.out.trans (b4.mono HB5.out.size))
        have hX4 : CBox w4 w.heap.size (noms c) (nomp p) := CBox.later hY5 b4
        have HX4 := (show Hid (CBox w4 w.heap.size (noms c) (nomp p)) from hX4)
        have m11 : w4.cell? ⟨w.heap.size, 11, none⟩ = some (.slice p.bo c.bf.length p.bc) := hX4.c11
        have m12 : w4.cell? ⟨w.heap.size, 12, none⟩ = some (.slice p.ao c.af.length p.ac) := hX4.c12
        obtain ⟨o2, cap2, rfl, hp1, hp2⟩ := ow.form hi2
        have z1 : (((l2.length : Nat) : Int) != ((c.bf.length : Int) + (t.size : Int) + (c.af.length : Int))) = false := by rw [bne_eq_false_iff_eq]; omega
        clear c9 hY5 hY k9 f9 hr2 hl02 hl12 q1 q2 ql hl hX4 hi2 b4
        go_wp2_with (fail)
        go_loopw [76] (fun y wr => ∃ i : Nat, y = .int .i64 i ∧ i ≤ t.size ∧ Below w4.heap.size w4 wr) (fun y _ => t.size - (intOf y).toNat)
        case atStart => exact ⟨0, rfl, by omega, Below.refl _ _⟩
        case round =>
          obtain ⟨j, rfl, hjl, hB2⟩ := hrel
          by_cases hend : j < t.size
          · obtain ⟨hle, hye⟩ := List.getElem?_eq_some_iff.1 (noms_mid HL.out j hend)
            obtain ⟨g, cap', e, -, -⟩ := ow.cell HI4.out (c.bf.length + j) (by simpa using hle)
            obtain ⟨rfl, rfl⟩ : o2 = some ⟨g, 0, none⟩ ∧ cap2 = cap' := by simpa using e
            obtain ⟨hg, hk⟩ := ids_at HI4.out (noms_mid HL.out j hend)
            have k2 := (hB2.cell (p := ⟨g, c.bf.length + j, none⟩) hg).trans hk
            have k11 := (HX4.out.later hB2).c11
            rw [show (nomp p).bo = p.bo from rfl, show (noms c).bf = c.bf from rfl, show (nomp p).bc = p.bc from rfl] at k11
            have h256 : t[j].toNat < 256 := t[j].toNat_lt
            clear hk e hle hye
            go_wp2_with (fail)
            go_quiet (fail)
            go_wp2_with (fail)
            go_roundw
            case rel => exact ⟨j + 1, by go_num, by omega, below_drewN hB2 _⟩
            case measure => simp [intOf]; omega
          · go_wp2_with (fail)
            go_ret
            exact ⟨rfl, chain HB4.out hB2⟩
  · have hne : (((r : Nat) : Int) == 0) = false := beq_eq_false_iff_ne.2 (by omega)
    have hne2 : (((r : Nat) : Int) != 0) = true := by rw [bne_iff_ne]; omega
    have hn := hn1 h0
    subst hn
    unfold e0
    go_wp2_with (fail)
    go_ret
    exact ⟨rfl, HB1.out⟩
end Go.Proofs.YthmecbonjkcnmaaGreat.tk
