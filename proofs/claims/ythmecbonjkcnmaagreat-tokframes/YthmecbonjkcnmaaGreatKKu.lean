/-
  Contracts over this program: the law TokFrames.
-/
import Derived.Test.YthmecbonjkcnmaaGreatKKt
namespace Go.Proofs.YthmecbonjkcnmaaGreat.tk
open Go.ChangeShapes Go.WideShapes Go.ChangeAt Go.RowKit
open cf (Cf Cp cv CfAt CBox cfE cbox_new)
open mg (Row In IntsV)
open nb (built)
set_option linter.unusedVariables false
set_option maxRecDepth 100000

set_option maxHeartbeats 4000000 in
theorem frames_any (c : Cf) (p : Cp) (s : ByteArray) (hs : s.size ≤ 140737488351232) (hsane : c.t.sane) (w : World) (hv : CfAt w c p) : Calls Tryz.prog 6 #[.agg (cv c p), .string s] w fun e w' => e = .returned (.bool true) ∧ Below w.heap.size w w' := by
  obtain ⟨wA, hwA⟩ : ∃ wA, wA = w.alloc (.cells (cv c p) 34) := ⟨_, rfl⟩
  have B0 : Below w.heap.size w wA := by rw [hwA]; exact below_alloc w _
  have hX0 : (w.alloc (.cells (cv c p) 34)).heap[w.heap.size]? = some (.cells (cv c p) 34 (0, 0)) := cbox_new w c p
  have HX := (show Hid (CBox wA w.heap.size c p) from by rw [hwA]; exact cbox_new w c p)
  have hi34 := info34 c p
  have hj34 := info34 (bare c) (barep p)
  have HC := (show Hid (CfAt wA c p) from hv.later B0)
  have c14 := short_any s 60 (by omega) (by omega) wA
  have hz := cutN_size s 60
  generalize cutN s 60 = u at *
  have c9 := tok_any c p u (by omega) hsane wA (hv.later B0)
  clear hv
  rw [show ((60 : Nat) : Int) = 60 from rfl] at c14
  go_enter Tryz.func6, Tryz.ntmps6
  go_wp2_with (fail)
  rw [← hwA]
  go_at_call 14
  refine c14.mono ?_
  rintro e w0 ⟨rfl, rfl⟩
  have hX0' : w0.heap[w.heap.size]? = some (.cells (cv c p) 34 (0, 0)) := HX.out
  clear c14 hX0 hwA
  go_wp2_with (first | (refine wpList_load_row rfl 34 (.tmp 2) rfl w.heap.size rfl 34 (cv c p) (0, 0) _ hX0' Tryz.underlying34 rfl hi34 ?_))
  go_at_call 9
  refine c9.mono ?_
  rintro e w1 ⟨r, v, l, rfl, hr, hi, hl0, hl1, b1⟩
  have hX1 : w1.heap[w.heap.size]? = some (.cells (cv c p) 34 (0, 0)) := HX.out.later b1
  obtain ⟨o, cap, rfl, ho1, ho2⟩ := ow.form hi
  have HRR := (show Hid (r = cfE c) from hr)
  have HL0 := (show Hid (r ≠ 0 → l = []) from hl0)
  have HL1 := (show Hid (r = 0 → ∃ mid, Mids (built c.t).es (nrm c.ps u) c.ms 0 mid ∧ mid.length ≤ (nrm c.ps u).size ∧ l = nameIds c c.bf ++ mid ++ nameIds c c.af) from hl1)
  have HI := (show Hid (Ids w1 w0.heap.size (.slice o l.length cap) l) from hi)
  have HB1 := (show Hid (Below w.heap.size w w1) from chain B0 b1)
  clear c9 hX0' hi hr hl0 hl1
  by_cases h0 : r = 0
  · subst h0
    have c9b : ∀ W, Below w1.heap.size w1 W → Calls Tryz.prog 9 #[.agg (cv (bare c) (barep p)), .string u] W (TokOut (bare c) u W) := fun W b => tok_any (bare c) (barep p) u (by omega) hsane W (bare_at (HC.out.later (b1.trans (b.mono b1.size))))
    have HT := (show Hid (∀ W, Below w1.heap.size w1 W → Calls Tryz.prog 9 #[.agg (cv (bare c) (barep p)), .string u] W (TokOut (bare c) u W)) from c9b)
    clear c9b
    obtain ⟨W3, hW3, hY3, b3⟩ := conf_new w1 z34 c p
    have b5 := below_cell (below_cell b3 (Nat.le_refl _) (.slice none 0 0) (i := 11)) (Nat.le_refl _) (.slice none 0 0) (i := 12)
    have k11 := (show CBox W3 w1.heap.size c p from hY3).c11
    obtain ⟨k12, hY4, hY5⟩ := bare_set hY3
    have f11 := Lib.frozen_of_heap hY3 11
    have f12 := Lib.frozen_of_heap hY4 12
    have HB5 := (show Hid (Below w1.heap.size w1 _) from b5)
    have c9c := HT.out _ b5
    clear b5 b3 HT
    go_wp2_with (first | (refine wpList_load_row rfl 34 (.tmp 2) rfl w.heap.size rfl 34 (cv c p) (0, 0) _ hX1 Tryz.underlying34 rfl hi34 ?_) | (refine store_conf rfl (.tmp 7) (.tmp 28) rfl c p rfl rfl rfl hW3 ?_) | (refine wpList_load_row rfl 34 (.tmp 7) rfl w1.heap.size rfl 34 (cv (bare c) (barep p)) (0, 0) _ hY5 Tryz.underlying34 rfl hj34 ?_))
    go_at_call 9
    refine c9c.mono ?_
    rintro e w4 ⟨r2, v2, l2, rfl, hr2, hi2, hl02, hl12, b4⟩
    clear c9c hW3 hY3 hY4 hY5 k11 k12 f11 f12 hX1
    obtain ⟨mid, hm1, hm2, hl⟩ := HL1.out (by trivial)
    have hc0 : cfE c = 0 := HRR.out.symm
    obtain rfl : r2 = 0 := hr2.trans (bare_ok hc0)
    obtain ⟨mid2, q1, q2, ql⟩ := hl12 rfl
    have e2 : l2 = mid := by
      rw [ql, mids_one (nrm c.ps u).size 0 _ _ (Nat.le_of_eq (Nat.zero_add _).symm) q1 hm1]
      simp [nameIds, bare]
    clear ql q1 q2 hl02 hl12 hr2 HL0 HL1 HRR hm1
    subst e2
    have hj1 : (nrm c.ps u).size ≤ 1920 := nrm_few hc0 hz
    obtain ⟨⟨j2, j2b⟩, ⟨j3, j3b⟩⟩ := frame_ok hc0
    have hlen : l.length = c.bf.length + l2.length + c.af.length := by rw [hl]; simp [nameIds]; omega
    have b04 := chain (chain b1 HB5.out) b4
    have hX4 := HX.out.later b04
    have HX4 := (show Hid (CBox w4 w.heap.size c p) from hX4)
    have m9 := hX4.c9
    have m11 := hX4.c11
    have m12 := hX4.c12
    have HB4 := (show Hid (Below w.heap.size w w4) from chain B0 b04)
    have HI4 := (show Hid (Ids w4 w0.heap.size (.slice o l.length cap) l) from ow.later HI.out (chain HB5.out b4))
    have HC4 := (show Hid (CfAt w4 c p) from HC.out.later b04)
    have HM := (show Hid (Ids w4 _ v2 l2) from hi2)
    have HL := (show Hid (l = nameIds c c.bf ++ l2 ++ nameIds c c.af) from hl)
    obtain ⟨o2, cap2, rfl, hp1, hp2⟩ := ow.form hi2
    have z1 : (((l.length : Nat) : Int) != ((c.bf.length : Int) + (l2.length : Int) + (c.af.length : Int))) = false := by rw [bne_eq_false_iff_eq]; omega
    clear hi2 b04 b4 HB5 hl hX4
    have hms := (mg.ok_run (split_ok hc0).2.2.2).1
    have z2 : IntKind.i64.wrap (256 + (c.ms.length : Int)) = 256 + (c.ms.length : Int) := IntWalk.i64_in _ (by omega)
    have z4 : IntKind.i64.wrap ((c.bf.length : Int) + (l2.length : Int)) = (c.bf.length : Int) + (l2.length : Int) := IntWalk.i64_in _ (by omega)
    have HJ2 := (show Hid (∀ x ∈ c.bf, 0 ≤ x ∧ x ≤ 1000) from j2b)
    have HJ3 := (show Hid (∀ x ∈ c.af, 0 ≤ x ∧ x ≤ 1000) from j3b)
    clear j2b j3b hc0
    rcases HI4.out.2 with ⟨e, e0⟩ | ⟨g, cap', cur, e, -⟩
    · obtain ⟨rfl, hnil, rfl⟩ : o = none ∧ l = [] ∧ cap = 0 := by simpa using e
      have HY := (show Hid (c.bf.length = 0 ∧ c.af.length = 0) from by constructor <;> omega)
      have h12 : IntsV w4 (.slice none l2.length 0) l2 := ints_none (by omega) (by omega)
      clear e e0 hnil
      go_wp2_with (fail)
      refine (mg.ints_same l2 _ _ w4 h12 (ids_ints HM.out)).mono ?_
      clear h12
      rintro e w5 ⟨rfl, b5⟩
      have k11 := (HX4.out.later b5).c11
      go_wp2_with (fail)
      go_loopw [70] (fun y wr => ∃ i : Nat, y = .int .i64 i ∧ i ≤ c.bf.length ∧ Below w4.heap.size w4 wr) (fun y _ => c.bf.length - (intOf y).toNat)
      case atStart => exact ⟨0, rfl, by omega, b5⟩
      case round =>
        obtain ⟨i, rfl, hil, hB⟩ := hrel
        by_cases hend : i < c.bf.length
        · first
          | (exfalso; have := HY.out.1; omega)
          | (obtain ⟨b, off, hbo, hb, hc⟩ := HC4.out.bf.lie i hend
             have k1 := (hB.cell (p := ⟨b, off + i, none⟩) hb).trans hc
             obtain ⟨hg, hk⟩ := ids_at HI4.out (frame_lo HL.out i hend)
             have k2 := (hB.cell (p := ⟨g, i, none⟩) hg).trans hk
             have k3 := (HX4.out.later hB).c9
             have hx := HJ2.out c.bf[i] (List.getElem_mem hend)
             generalize c.bf[i] = x at *
             have z3 : IntKind.i64.wrap (256 + (c.ms.length : Int) + x) = 256 + (c.ms.length : Int) + x := IntWalk.i64_in _ (by omega)
             rw [hbo]
             clear hc hk hbo
             go_wp2_with (fail)
             go_quiet (fail)
             go_wp2_with (fail)
             go_roundw
             case rel => exact ⟨i + 1, by go_num, by omega, below_drewN hB _⟩
             case measure => simp [intOf]; omega)
        · have k12 := (HX4.out.later hB).c12
          go_wp2_with (fail)
          go_loopw [90] (fun y wr => ∃ i : Nat, y = .int .i64 i ∧ i ≤ c.af.length ∧ Below w4.heap.size w4 wr) (fun y _ => c.af.length - (intOf y).toNat)
          case atStart => exact ⟨0, rfl, by omega, hB⟩
          case round =>
            obtain ⟨j, rfl, hjl, hB⟩ := hrel
            by_cases hend : j < c.af.length
            · first
              | (exfalso; have := HY.out.2; omega)
              | (obtain ⟨b, off, hbo, hb, hc⟩ := HC4.out.af.lie j hend
                 have k1 := (hB.cell (p := ⟨b, off + j, none⟩) hb).trans hc
                 obtain ⟨hg, hk⟩ := ids_at HI4.out (frame_hi HL.out j hend)
                 have k2 := (hB.cell (p := ⟨g, c.bf.length + l2.length + j, none⟩) hg).trans hk
                 have k3 := (HX4.out.later hB).c9
                 have hx := HJ3.out c.af[j] (List.getElem_mem hend)
                 generalize c.af[j] = x at *
                 have z3 : IntKind.i64.wrap (256 + (c.ms.length : Int) + x) = 256 + (c.ms.length : Int) + x := IntWalk.i64_in _ (by omega)
                 have z5 : IntKind.i64.wrap ((c.bf.length : Int) + (l2.length : Int) + (j : Int)) = (c.bf.length : Int) + (l2.length : Int) + (j : Int) := IntWalk.i64_in _ (by omega)
                 rw [hbo]
                 clear hc hk hbo
                 go_wp2_with (fail)
                 go_quiet (fail)
                 go_wp2_with (fail)
                 go_roundw
                 case rel => exact ⟨j + 1, by go_num, by omega, below_drewN hB _⟩
                 case measure => simp [intOf]; omega)
            · go_wp2_with (fail)
              go_ret
              exact ⟨rfl, chain HB4.out hB⟩
    · obtain ⟨rfl, rfl⟩ : o = some ⟨g, 0, none⟩ ∧ cap = cap' := by simpa using e
      have HY := (show Hid (True ∧ True) from ⟨trivial, trivial⟩)
      have hB12 := (show Hid (cap = c.bf.length → IntsV w4 (.slice (some ⟨g, 0, none⟩) l2.length 0) l2) from fun h => ints_none (by omega) (by omega))
      have hC12 := (show Hid (IntsV w4 (.slice (some ⟨g, c.bf.length, none⟩) l2.length (cap - c.bf.length)) l2) from by
        have h := ints_part HI4.out (i := c.bf.length) (k := l2.length) (by omega)
        rw [mid_part HL.out] at h
        exact h)
      clear e
      by_cases hcb : cap = c.bf.length
      · have h12 := hB12.out hcb
        clear hB12 hC12
        go_wp2_with (fail)
        refine (mg.ints_same l2 _ _ w4 h12 (ids_ints HM.out)).mono ?_
        clear h12
        rintro e w5 ⟨rfl, b5⟩
        have k11 := (HX4.out.later b5).c11
        go_wp2_with (fail)
        go_loopw [70] (fun y wr => ∃ i : Nat, y = .int .i64 i ∧ i ≤ c.bf.length ∧ Below w4.heap.size w4 wr) (fun y _ => c.bf.length - (intOf y).toNat)
        case atStart => exact ⟨0, rfl, by omega, b5⟩
        case round =>
          obtain ⟨i, rfl, hil, hB⟩ := hrel
          by_cases hend : i < c.bf.length
          · first
            | (exfalso; have := HY.out.1; omega)
            | (obtain ⟨b, off, hbo, hb, hc⟩ := HC4.out.bf.lie i hend
               have k1 := (hB.cell (p := ⟨b, off + i, none⟩) hb).trans hc
               obtain ⟨hg, hk⟩ := ids_at HI4.out (frame_lo HL.out i hend)
               have k2 := (hB.cell (p := ⟨g, i, none⟩) hg).trans hk
               have k3 := (HX4.out.later hB).c9
               have hx := HJ2.out c.bf[i] (List.getElem_mem hend)
               generalize c.bf[i] = x at *
               have z3 : IntKind.i64.wrap (256 + (c.ms.length : Int) + x) = 256 + (c.ms.length : Int) + x := IntWalk.i64_in _ (by omega)
               rw [hbo]
               clear hc hk hbo
               go_wp2_with (fail)
               go_quiet (fail)
               go_wp2_with (fail)
               go_roundw
               case rel => exact ⟨i + 1, by go_num, by omega, below_drewN hB _⟩
               case measure => simp [intOf]; omega)
          · have k12 := (HX4.out.later hB).c12
            go_wp2_with (fail)
            go_loopw [90] (fun y wr => ∃ i : Nat, y = .int .i64 i ∧ i ≤ c.af.length ∧ Below w4.heap.size w4 wr) (fun y _ => c.af.length - (intOf y).toNat)
            case atStart => exact ⟨0, rfl, by omega, hB⟩
            case round =>
              obtain ⟨j, rfl, hjl, hB⟩ := hrel
              by_cases hend : j < c.af.length
              · first
                | (exfalso; have := HY.out.2; omega)
                | (obtain ⟨b, off, hbo, hb, hc⟩ := HC4.out.af.lie j hend
                   have k1 := (hB.cell (p := ⟨b, off + j, none⟩) hb).trans hc
                   obtain ⟨hg, hk⟩ := ids_at HI4.out (frame_hi HL.out j hend)
                   have k2 := (hB.cell (p := ⟨g, c.bf.length + l2.length + j, none⟩) hg).trans hk
                   have k3 := (HX4.out.later hB).c9
                   have hx := HJ3.out c.af[j] (List.getElem_mem hend)
                   generalize c.af[j] = x at *
                   have z3 : IntKind.i64.wrap (256 + (c.ms.length : Int) + x) = 256 + (c.ms.length : Int) + x := IntWalk.i64_in _ (by omega)
                   have z5 : IntKind.i64.wrap ((c.bf.length : Int) + (l2.length : Int) + (j : Int)) = (c.bf.length : Int) + (l2.length : Int) + (j : Int) := IntWalk.i64_in _ (by omega)
                   rw [hbo]
                   clear hc hk hbo
                   go_wp2_with (fail)
                   go_quiet (fail)
                   go_wp2_with (fail)
                   go_roundw
                   case rel => exact ⟨j + 1, by go_num, by omega, below_drewN hB _⟩
                   case measure => simp [intOf]; omega)
              · go_wp2_with (fail)
                go_ret
                exact ⟨rfl, chain HB4.out hB⟩
      · have h12 := hC12.out
        clear hB12 hC12
        go_wp2_with (fail)
        refine (mg.ints_same l2 _ _ w4 h12 (ids_ints HM.out)).mono ?_
        clear h12
        rintro e w5 ⟨rfl, b5⟩
        have k11 := (HX4.out.later b5).c11
        go_wp2_with (fail)
        go_loopw [70] (fun y wr => ∃ i : Nat, y = .int .i64 i ∧ i ≤ c.bf.length ∧ Below w4.heap.size w4 wr) (fun y _ => c.bf.length - (intOf y).toNat)
        case atStart => exact ⟨0, rfl, by omega, b5⟩
        case round =>
          obtain ⟨i, rfl, hil, hB⟩ := hrel
          by_cases hend : i < c.bf.length
          · first
            | (exfalso; have := HY.out.1; omega)
            | (obtain ⟨b, off, hbo, hb, hc⟩ := HC4.out.bf.lie i hend
               have k1 := (hB.cell (p := ⟨b, off + i, none⟩) hb).trans hc
               obtain ⟨hg, hk⟩ := ids_at HI4.out (frame_lo HL.out i hend)
               have k2 := (hB.cell (p := ⟨g, i, none⟩) hg).trans hk
               have k3 := (HX4.out.later hB).c9
               have hx := HJ2.out c.bf[i] (List.getElem_mem hend)
               generalize c.bf[i] = x at *
               have z3 : IntKind.i64.wrap (256 + (c.ms.length : Int) + x) = 256 + (c.ms.length : Int) + x := IntWalk.i64_in _ (by omega)
               rw [hbo]
               clear hc hk hbo
               go_wp2_with (fail)
               go_quiet (fail)
               go_wp2_with (fail)
               go_roundw
               case rel => exact ⟨i + 1, by go_num, by omega, below_drewN hB _⟩
               case measure => simp [intOf]; omega)
          · have k12 := (HX4.out.later hB).c12
            go_wp2_with (fail)
            go_loopw [90] (fun y wr => ∃ i : Nat, y = .int .i64 i ∧ i ≤ c.af.length ∧ Below w4.heap.size w4 wr) (fun y _ => c.af.length - (intOf y).toNat)
            case atStart => exact ⟨0, rfl, by omega, hB⟩
            case round =>
              obtain ⟨j, rfl, hjl, hB⟩ := hrel
              by_cases hend : j < c.af.length
              · first
                | (exfalso; have := HY.out.2; omega)
                | (obtain ⟨b, off, hbo, hb, hc⟩ := HC4.out.af.lie j hend
                   have k1 := (hB.cell (p := ⟨b, off + j, none⟩) hb).trans hc
                   obtain ⟨hg, hk⟩ := ids_at HI4.out (frame_hi HL.out j hend)
                   have k2 := (hB.cell (p := ⟨g, c.bf.length + l2.length + j, none⟩) hg).trans hk
                   have k3 := (HX4.out.later hB).c9
                   have hx := HJ3.out c.af[j] (List.getElem_mem hend)
                   generalize c.af[j] = x at *
                   have z3 : IntKind.i64.wrap (256 + (c.ms.length : Int) + x) = 256 + (c.ms.length : Int) + x := IntWalk.i64_in _ (by omega)
                   have z5 : IntKind.i64.wrap ((c.bf.length : Int) + (l2.length : Int) + (j : Int)) = (c.bf.length : Int) + (l2.length : Int) + (j : Int) := IntWalk.i64_in _ (by omega)
                   rw [hbo]
                   clear hc hk hbo
                   go_wp2_with (fail)
                   go_quiet (fail)
                   go_wp2_with (fail)
                   go_roundw
                   case rel => exact ⟨j + 1, by go_num, by omega, below_drewN hB _⟩
                   case measure => simp [intOf]; omega)
              · go_wp2_with (fail)
                go_ret
                exact ⟨rfl, chain HB4.out hB⟩
  · have hne : (((r : Nat) : Int) == 0) = false := beq_eq_false_iff_ne.2 (by omega)
    have hne2 : (((r : Nat) : Int) != 0) = true := by rw [bne_iff_ne]; omega
    have hl := HL0.out h0
    subst hl
    go_wp2_with (fail)
    go_ret
    exact ⟨rfl, HB1.out⟩
end Go.Proofs.YthmecbonjkcnmaaGreat.tk
