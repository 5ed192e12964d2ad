/-
  Contracts over this program: the document's Tokens, some merges left out.
-/
import Derived.Test.YthcekfmodmnekaaEm
namespace Go.Proofs.Ythcekfmodmnekaa.hp
open Go.ChangeShapes Go.WideShapes Go.ChangeAt Go.RowKit Go.Shelf Go.Maps
open mg
set_option linter.unusedVariables false
set_option maxRecDepth 100000

def left (d : List Int) (i : Nat) (p : Mg) : Mg := if ((i : Nat) : Int) ∈ d then (-1, -1) else p
theorem kept_take (l : List Mg) (d : List Int) (i : Nat) (h : i < l.length) : (keptL l d).take (i + 1) = (keptL l d).take i ++ [left d i l[i]] := by
  rw [List.take_add_one, kept_at, List.getElem?_eq_getElem h]
  rfl
theorem kept_tl (l : List Mg) (d : List Int) (i : Nat) (h : i ≤ l.length) : ((keptL l d).take i).length = i := by
  rw [List.length_take, kept_len]; omega
theorem left_next (d : List Int) (i j : Nat) (p : Mg) (hj : j < d.length) : left (d.take (j + 1)) i p = if d[j] = (i : Int) then (-1, -1) else left (d.take j) i p := by
  unfold left
  rw [List.take_add_one, List.getElem?_eq_getElem hj]
  by_cases h : d[j] = (i : Int)
  · rw [if_pos h, if_pos (List.mem_append_right _ (by simp [h]))]
  · rw [if_neg h]
    have : ((i : Int) ∈ d.take j ++ (some d[j]).toList) ↔ (i : Int) ∈ d.take j := by
      constructor
      · intro hm
        rcases List.mem_append.1 hm with q | q
        · exact q
        · simp at q
          exact absurd q.symm h
      · exact fun q => List.mem_append_left _ q
    simp only [this]
set_option maxHeartbeats 4000000 in
theorem rtokens_any (l : List Mg) (hl4 : l.length ≤ 1024) (d : List Int) (s : ByteArray) (hs : s.size ≤ 100000) (v vd : Value) (w : World) (hv : Mgs w v l) (hvd : IntsV w vd d) : Calls Try.prog 14 #[v, vd, .string s] w fun e w' => ∃ v', e = .returned v' ∧ IntsV w' v' (app (keptL l d) (idsOf s)) ∧ Below w.heap.size w w' := by
  obtain ⟨o, cap, rfl, hl, hm, hc⟩ := hv.form
  obtain ⟨od, capd, rfl, hrd⟩ := hvd
  have g1 := hrd.fit
  have g2 := hrd.top
  have HC := (show Hid _ from hc)
  have HRD : Hid (Row (In w) w iv od capd d) := hrd
  have O0 := (show Hid (OwnM (w.alloc (.cells #[] 62)) w.heap.size (.slice (some ⟨w.heap.size, 0, none⟩) 0 0) []) from made_M w _ (Nat.le_refl _))
  have B0 := (show Hid (Below w.heap.size w (w.alloc (.cells #[] 62))) from below_alloc w _)
  clear hv hc hrd
  go_enter Try.func14, Try.ntmps14
  go_wp2_with (fail)
  generalize w.alloc (.cells #[] 62) = w2 at *
  go_loopw [15, 7] (fun y x wr => ∃ (i : Nat) (g : Option Addr) (c : Nat), y = .int .i64 i ∧ x = .slice g i c ∧ i ≤ l.length ∧ i ≤ c ∧ c ≤ 9223372036854775807 ∧ Hid (OwnM wr w.heap.size (.slice g i c) ((keptL l d).take i)) ∧ Hid (Below w.heap.size w wr)) (fun y _ _ => l.length - (intOf y).toNat)
  case atStart => exact ⟨0, _, 0, rfl, rfl, by omega, by omega, by omega, by rw [List.take_zero]; exact O0, B0⟩
  case round =>
    clear O0 B0
    obtain ⟨i, g, c, rfl, rfl, hi, ic, cm, HO, HB⟩ := hrel
    by_cases hend : i < l.length
    · obtain ⟨bl, off, rfl, hlt, c1, c2⟩ := HC.out i hend
      have k1 := (HB.out.cell (p := ⟨bl, off + i * 2, none⟩) hlt).trans c1
      have k2 := (HB.out.cell (p := ⟨bl, off + i * 2 + 1, none⟩) hlt).trans c2
      have HT := (show Hid ((keptL l d).take (i + 1) = (keptL l d).take i ++ [left d i l[i]]) from kept_take l d i hend)
      generalize l[i] = m at *
      obtain ⟨x, y⟩ := m
      simp only at k1 k2
      have ba := below_alloc wr (.cells #[.int .i64 x, .int .i64 y] 62)
      have HO1 := (show Hid (OwnM (wr.alloc (.cells #[.int .i64 x, .int .i64 y] 62)) w.heap.size (.slice g i c) ((keptL l d).take i)) from HO.out.later ba)
      have HB1 := (show Hid (Below w.heap.size w (wr.alloc (.cells #[.int .i64 x, .int .i64 y] 62))) from HB.out.trans (ba.mono HB.out.size))
      have HX1 := (show Hid ((wr.alloc (.cells #[.int .i64 x, .int .i64 y] 62)).heap[wr.heap.size]? = some (.cells #[.int .i64 x, .int .i64 y] 62 (0, 0))) from World.alloc_heap_new wr _)
      have HNE := (show Hid (∀ k, (Value.slice g i c).ownBlock = some k → k ≠ wr.heap.size) from fun k e => by have := (ow.lt HO.out e).2; omega)
      have HGE := (show Hid (w.heap.size ≤ wr.heap.size) from HB.out.size)
      clear c1 c2 ba HO
      go_wp2_with (fail)
      generalize wr.alloc (.cells #[.int .i64 x, .int .i64 y] 62) = w3 at *
      obtain ⟨bx, HBX⟩ : ∃ bx, Hid (bx = wr.heap.size) := ⟨_, rfl⟩
      rw [← HBX.out] at HX1 HNE HGE ⊢
      go_loopw [22] (fun z wz => ∃ (j : Nat) (p : Mg), z = .int .i64 j ∧ j ≤ d.length ∧ Hid (p = left (d.take j) i (x, y)) ∧ Hid (wz.heap[bx]? = some (.cells #[.int .i64 p.1, .int .i64 p.2] 62 (0, 0))) ∧ Hid (OwnM wz w.heap.size (.slice g i c) ((keptL l d).take i)) ∧ Hid (Below w.heap.size w wz)) (fun z _ => d.length - (intOf z).toNat)
      case atStart => exact ⟨0, (x, y), rfl, by omega, by show _ = _; simp [left], HX1, HO1, HB1⟩
      case round =>
        clear HX1 HO1 HB1
        obtain ⟨j, ⟨p1, p2⟩, rfl, hj, HP, HX, HO, HB⟩ := hrel
        have x0 : wr.cell? ⟨bx, 0, none⟩ = some (.int .i64 p1) := by rw [Lib.cell_of_heap HX.out]; rfl
        have x1 : wr.cell? ⟨bx, 1, none⟩ = some (.int .i64 p2) := by rw [Lib.cell_of_heap HX.out]; rfl
        by_cases hend2 : j < d.length
        · obtain ⟨b, off2, rfl, hb, hc⟩ := HRD.out.lie j hend2
          have k0 := (HB.out.cell (p := ⟨b, off2 + j, none⟩) hb).trans hc
          have HN := (show Hid (left (d.take (j + 1)) i (x, y) = if d[j] = (i : Int) then (-1, -1) else left (d.take j) i (x, y)) from left_next d i j (x, y) hend2)
          generalize d[j] = dj at *
          clear hc
          by_cases he : dj = (i : Int)
          · subst he
            have f0 : wr.frozen? ⟨bx, 0, none⟩ = false := Lib.frozen_of_heap HX.out 0
            have f1 : wr.frozen? ⟨bx, 1, none⟩ = false := Lib.frozen_of_heap HX.out 1
            have HX2 := (show Hid (((wr.setCell ⟨bx, 0, none⟩ (.int .i64 (-1))).setCell ⟨bx, 1, none⟩ (.int .i64 (-1))).heap[bx]? = some (.cells #[.int .i64 (-1), .int .i64 (-1)] 62 (0, 0))) from by
              have q1 := heap_setCell_same wr bx 0 #[.int .i64 p1, .int .i64 p2] 62 (.int .i64 (-1)) HX.out
              have q2 := heap_setCell_same _ bx 1 _ 62 (.int .i64 (-1)) q1
              show _ = _
              simpa using q2)
            have oth : ∀ k, k ≠ bx → ((wr.setCell ⟨bx, 0, none⟩ (.int .i64 (-1))).setCell ⟨bx, 1, none⟩ (.int .i64 (-1))).heap[k]? = wr.heap[k]? := fun k hk => (Below.heap_setCell _ _ _ _ hk).trans (Below.heap_setCell _ _ _ _ hk)
            have HO2 := (show Hid (OwnM ((wr.setCell ⟨bx, 0, none⟩ (.int .i64 (-1))).setCell ⟨bx, 1, none⟩ (.int .i64 (-1))) w.heap.size (.slice g i c) ((keptL l d).take i)) from own_keep HO.out fun k e => oth k (HNE.out k e))
            have HB2 := (show Hid (Below w.heap.size w ((wr.setCell ⟨bx, 0, none⟩ (.int .i64 (-1))).setCell ⟨bx, 1, none⟩ (.int .i64 (-1)))) from (HB.out.setCell (by exact HGE.out) _).setCell (by exact HGE.out) _)
            have d1 : ((i : Int) == (i : Int)) = true := beq_self_eq_true _
            clear oth
            go_wp2_with (fail)
            go_roundw
            case rel => exact ⟨j + 1, (-1, -1), by go_num, by omega, by show _ = _; rw [HN.out, if_pos rfl], HX2, HO2, HB2⟩
            case measure => simp [intOf]; omega
          · have d1 : (dj == (i : Int)) = false := beq_eq_false_iff_ne.2 he
            have HN2 := (show Hid ((p1, p2) = left (d.take (j + 1)) i (x, y)) from by show _ = _; rw [HN.out, if_neg he]; exact HP.out)
            clear he HN HP
            go_wp2_with (fail)
            go_roundw
            case rel => exact ⟨j + 1, (p1, p2), by go_num, by omega, HN2, HX, HO, HB⟩
            case measure => simp [intOf]; omega
        · have HN2 := (show Hid ((keptL l d).take (i + 1) = (keptL l d).take i ++ [(p1, p2)]) from by
            show _ = _
            have e : d.take j = d := List.take_of_length_le (by omega)
            rw [HT.out, HP.out, e])
          have ba := below_alloc wr (.cells #[.int .i64 p1, .int .i64 p2] 62)
          have hol := kept_tl l d i (by omega)
          have HO3 := (show Hid ((wr.alloc (.cells #[.int .i64 p1, .int .i64 p2] 62)).ownsRow w.heap.size 62 2 (.slice g i c) i (cellsM ((keptL l d).take i))) from by
            have := HO.out.later ba
            unfold OwnM at this
            rw [hol] at this
            exact this)
          have HB3 := (show Hid (Below w.heap.size w (wr.alloc (.cells #[.int .i64 p1, .int .i64 p2] 62))) from HB.out.trans (ba.mono HB.out.size))
          have HBS := (show Hid (w.heap.size ≤ (wr.alloc (.cells #[.int .i64 p1, .int .i64 p2] 62)).heap.size) from HB3.out.size)
          have HTL := (show Hid (((keptL l d).take (i + 1)).length = i + 1) from kept_tl l d (i + 1) (by omega))
          clear HP HT hol ba HO HB
          go_wp2_with (at_builtin; refine ow.wpList_append (by rfl) (.tmp 31) (.tmp 33) 22 (by rfl) 62 (.agg #[.int .i64 0, .int .i64 0]) 2 16 Try.underlying22 info62 rfl (by omega) (by omega) w.heap.size (.slice g i c) i (cellsM ((keptL l d).take i)) wr.heap.size [.int .i64 p1, .int .i64 p2] (by rfl) (by rfl) HO3.out rfl (pp.new2 wr _ _ 62) (pp.one2 _ _ rfl rfl) (by omega) HBS.out ?_; intro g' cap' w5 h1 h2 h3)
          have B5 := (show Hid (Below w.heap.size w w5) from HB3.out.grown h2 HB3.out.size (fun k hk => (ow.lt HO3.out hk).1))
          obtain ⟨l1, l2⟩ : i + 1 ≤ cap' ∧ cap' ≤ 9223372036854775807 := by
            obtain ⟨_, _, e, q1, q2⟩ := ow.form h1
            cases e
            exact ⟨q1, q2⟩
          have O5 := (show Hid (OwnM w5 w.heap.size (.slice (some ⟨g', 0, none⟩) (i + 1) cap') ((keptL l d).take (i + 1))) from by
            show OwnM _ _ _ _
            unfold OwnM
            rw [HTL.out, HN2.out, cellsM_append]
            exact h1)
          clear h1 h2 h3
          go_roundw
          case rel => exact ⟨i + 1, _, cap', by go_num, rfl, by omega, l1, l2, O5, B5⟩
          case measure => simp [intOf]; omega
    · have HO2 := (show Hid (Mgs wr (.slice g i c) (keptL l d)) from by
        have := HO.out
        rw [List.take_of_length_le (by rw [kept_len]; omega)] at this
        exact this.mgs)
      have c30 := bytes_any s hs wr
      have C29 := (show Hid (∀ W vs, Below wr.heap.size wr W → IntsV W vs (idsOf s) → Calls Try.prog 29 #[.slice g i c, vs] W (MergedOut (keptL l d) (idsOf s) W)) from fun W vs b iv => rapply_any (keptL l d) (by rw [kept_len]; exact hl4) (idsOf s) (by rw [idsOf_len]; exact hs) _ vs W (HO2.out.later b) iv)
      clear HO
      go_wp2_with (fail)
      go_at_call 30
      refine c30.mono ?_
      rintro e w5 ⟨v5, rfl, i5, b5⟩
      have c29 := C29.out w5 v5 b5 i5
      clear c30 i5
      go_wp2_with (fail)
      go_at_call 29
      refine c29.mono ?_
      rintro e w6 ⟨v6, rfl, i6, b6⟩
      have I6 := (show Hid _ from i6)
      clear i6 c29
      go_wp2_with (fail)
      go_ret
      exact ⟨v6, rfl, I6.out, chain (chain HB.out b5) b6⟩
end Go.Proofs.Ythcekfmodmnekaa.hp
