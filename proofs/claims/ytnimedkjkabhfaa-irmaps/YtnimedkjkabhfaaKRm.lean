/-
  Contracts over this program: the law IrMaps.
-/
import Derived.Test.YtnimedkjkabhfaaM18
namespace Go.Proofs.Ytnimedkjkabhfaa.ir
open Go.ChangeShapes Go.WideShapes Go.ChangeAt Go.RowKit
open mg (Row In iv IntsV chain below_alloc Mg Mgs app idsOf)
open df (Dfa DAt)
open en (cutN cutN_size)
set_option linter.unusedVariables false
set_option maxRecDepth 100000

theorem info39z : (Try.prog.info? 39).map (fun i => (i.zero, i.size, i.bytes)) = some (some (.agg z39.toArray), 523, 760) := by kernel_rfl
def allL (g0 g1 g2 : Sg) (p0 p1 p2 : Sp) : List Value := svL g0 p0 ++ (svL g1 p1 ++ svL g2 p2)
theorem append_stages {w : World} {b off cap : Nat} {g0 g1 g2 : Sg} {p0 p1 p2 : Sp} (h : Sgs w b off g0 g1 g2 p0 p1 p2) (B : Nat) (hB : B ≤ w.heap.size) (v : Value) (hown : w.ownsRow B 39 523 v 0 []) :
    ∃ g cap' w', (Builtin.append_ #[22, 22] 22 #[v, .slice (some ⟨b, off, none⟩) 3 cap]).run Try.prog w = .ok (.slice (some ⟨g, 0, none⟩) 3 cap') w' ∧ w'.ownsRow B 39 523 (.slice (some ⟨g, 0, none⟩) 3 cap') 3 (allL g0 g1 g2 p0 p1 p2) ∧ w.grownBy w' v.ownBlock ∧ 3 ≤ cap' ∧ cap' ≤ 9223372036854775807 := by
  obtain ⟨i0, hi, hz0, hz1, hz2⟩ := info_parts info39z
  have l0 := h.s0.len
  have l1 := h.s1.len
  have l2 := h.s2.len
  have o0 := h.s0.ones
  have o1 := h.s1.ones
  have o2 := h.s2.ones
  obtain ⟨v', w', hr, h2, h3, h4⟩ := run_append_own (P := Try.prog) w B 22 22 39 i0 _ 523 760 Try.underlying22 hi hz0 hz1 hz2 (by show z39.toArray.size = 523; rw [List.size_toArray, z39_len]) (by decide) v 0 [] hown ⟨b, off, none⟩ 3 cap (allL g0 g1 g2 p0 p1 p2)
    (by unfold allL; simp [l0, l1, l2]) (fun j u hu => by rw [Addr.add_mid]; exact sgs_news h j u hu) (fun u hu => by
      unfold allL at hu
      rcases List.mem_append.1 hu with hu | hu
      · exact o0 u hu
      · rcases List.mem_append.1 hu with hu | hu
        · exact o1 u hu
        · exact o2 u hu) (by unfold maxLen; omega) (by omega) hB
  obtain ⟨g, cap', rfl⟩ := ownsRow_succ h2
  obtain ⟨_, _, e, h5, h6⟩ := ow.form h2
  simp at e
  obtain ⟨rfl, rfl⟩ := e
  exact ⟨g, cap', w', hr, by simpa using h2, h3, h5, h6⟩
theorem own_none (w : World) : (w.alloc (.cells #[] 39)).ownsRow w.heap.size 39 523 (.slice (some ⟨w.heap.size, 0, none⟩) 0 0) 0 [] := ⟨rfl, .inr ⟨w.heap.size, 0, #[], rfl, Nat.le_refl _, World.alloc_heap_new w _, Nat.le_refl _, by decide, rfl, rfl⟩⟩
set_option maxHeartbeats 4000000 in
theorem maps_yes (b off cap : Nat) (hc1 : 3 ≤ cap) (hc2 : cap ≤ 9223372036854775807) (g0 g1 g2 : Sg) (p0 p1 p2 : Sp) (w : World) (h : Sgs w b off g0 g1 g2 p0 p1 p2) (hr : rightS g0 g1 g2 = true) (s : ByteArray) (hs : s.size ≤ 140737488351232) : Calls Try.prog 4 #[.slice (some ⟨b, off, none⟩) 3 cap, .string s] w fun e w' => e = .returned (.bool true) ∧ Below w.heap.size w w' := by
  have c11 := en.alive_any w
  have HS := (show Hid (∀ W, Below w.heap.size w W → Sgs W b off g0 g1 g2 p0 p1 p2) from fun W k => h.later k)
  have HR := (show Hid (rightS g0 g1 g2 = true) from hr)
  have HMP := (show Hid (∀ x, g0.mp x < 256) from h.s0.mp)
  have c7 := fun W => en.short_any s 300 (by omega) (by omega) W
  have hu := cutN_size s 300
  generalize cutN s 300 = u at *
  rw [show ((300 : Nat) : Int) = 300 from rfl] at c7
  clear h hr
  go_enter Try.func4, Try.ntmps4
  go_wp2_with (fail)
  go_at_call 11
  refine c11.mono ?_
  rintro e w1 ⟨rfl, b1⟩
  have c7 := c7 w1
  have c8 := eval_yes b off cap hc1 hc2 g0 g1 g2 p0 p1 p2 w1 (HS.out w1 b1) HR.out u hu
  have HB1 := (show Hid (Below w.heap.size w w1) from b1)
  clear c11 b1
  go_wp2_with (fail)
  go_at_call 7
  refine c7.mono ?_
  rintro e w2 ⟨rfl, rfl⟩
  clear c7
  go_wp2_with (fail)
  go_at_call 8
  refine c8.mono ?_
  rintro e w3 ⟨v3, rfl, hv3, b3⟩
  have HB3 := (show Hid (Below w.heap.size w w3) from chain HB1.out b3)
  obtain ⟨o3, k3, rfl, _, _⟩ := ow.form hv3
  have HV3 := (show Hid (Ids w3 w2.heap.size (.slice o3 (evalL g0 g1 g2 u).length k3) (evalL g0 g1 g2 u)) from hv3)
  obtain ⟨bc, w4, hcv, hBR, hbc1, hbc2, b4⟩ := conv45 g0.mp w3 u (by omega)
  have HBR := (show Hid (BRow w4 w3.heap.size (mixT g0.mp u 0)) from hBR)
  clear c8 b3 hv3 hBR
  generalize hL : (evalL g0 g1 g2 u).length = L at *
  go_wp2_with (fail)
  clear hcv
  go_loopw [35] (fun y wr => ∃ k : Nat, y = .int .i64 (k : Int) ∧ k ≤ u.size ∧ Below w3.heap.size w3 wr ∧ Hid (BRow wr w3.heap.size (mixT g0.mp u k))) (fun y _ => u.size - (intOf y).toNat)
  case atStart => exact ⟨0, rfl, by omega, b4, HBR⟩
  case round =>
    clear HBR
    obtain ⟨k, rfl, hk, hBk, HB⟩ := hrel
    by_cases hend : k < u.size
    · have hb8 := df.byte_lt u k
      have k1 := HB.out.cell (i := k) (x := df.byteAt u k) (by rw [mixT_get g0.mp u k k hend, if_neg (by omega)])
      have k2 := mapL_cell (b := b) (o := off + 263) (by
        have hsg := HS.out wr (chain HB3.out hBk)
        have := range_part (w := wr) (b := b) (o := off) (L := .int .i64 g0.kind :: (g0.mc ++ p0.cs.toList)) (M := mapL g0.mp) (R := [p0.vm, p0.vd, p0.vb, p0.va]) (by have e := hsg.r0; simpa [svL] using e)
        have e2 := hsg.s0.d.size
        rw [List.length_cons, List.length_append, hsg.s0.mc, Array.length_toList, e2] at this
        exact this) (df.byteAt u k) hb8
      have hxl := HMP.out (df.byteAt u k)
      have fk := HB.out.fz (i := k) (by rw [mixT_len]; exact hend)
      have HB2 : Hid (BRow (wr.setCell ⟨w3.heap.size, k, none⟩ (.int .u8 (g0.mp (df.byteAt u k) : Nat))) w3.heap.size (mixT g0.mp u (k + 1))) := by
        show BRow _ _ _
        have h1 := HB.out.set (i := k) (by rw [mixT_len]; exact hend) (g0.mp (df.byteAt u k))
        rw [← mixT_set g0.mp u k hend]
        exact h1
      have HB3' : Hid (Below w3.heap.size w3 (wr.setCell ⟨w3.heap.size, k, none⟩ (.int .u8 (g0.mp (df.byteAt u k) : Nat)))) := hBk.setCell (p := ⟨w3.heap.size, k, none⟩) (by simp) _
      clear HB
      generalize g0.mp (df.byteAt u k) = x at *
      generalize df.byteAt u k = bb at *
      go_wp2_with (fail)
      go_region
      go_wp2_with (fail)
      go_roundw
      case rel => exact ⟨k + 1, by go_num, by omega, Below.drew HB3'.out, HB2⟩
      case measure => simp [intOf]; omega
    · obtain rfl : k = u.size := by omega
      have hBR := HB.out
      have HBR := (show Hid (∀ W, Below wr.heap.size wr W → BRow W w3.heap.size (mixT g0.mp u u.size)) from fun W b => hBR.later b)
      have HSr := (show Hid (∀ W, Below wr.heap.size wr W → Sgs W b off g0 g1 g2 p0 p1 p2) from fun W k => HS.out W (chain (chain HB3.out hBk) k))
      have HBr := (show Hid (Below w3.heap.size w3 wr) from hBk)
      clear hBR HB hBk
      obtain ⟨g, cap', w6, hrun, hown, hgr, hc1', hc2'⟩ := append_stages (HSr.out _ (below_alloc wr (.cells #[] 39))) wr.heap.size (by simp) (.slice (some ⟨wr.heap.size, 0, none⟩) 0 0) (own_none wr)
      have b6 : Below wr.heap.size wr w6 := (below_alloc wr (.cells #[] 39)).trans (mg.grown_below hgr (fun q e => by cases e; exact Nat.le_refl _) (by simp))
      have HB6 := (show Hid (Below wr.heap.size wr w6) from b6)
      have HO6 := (show Hid (w6.ownsRow wr.heap.size 39 523 (.slice (some ⟨g, 0, none⟩) 3 cap') 3 (allL (upd g0 0) g1 g2 p0 p1 p2)) from hown)
      clear hgr b6 hown
      go_wp2_with (at_builtin; first | (refine Lib.wp_append_run _ _ _ _ _ rfl _ _ rfl rfl _ _ hrun ?_) | (refine Lib.wpList_append_run _ rfl _ _ _ _ rfl _ _ rfl rfl _ _ hrun ?_))
      clear hrun
      obtain ⟨wp, rfl⟩ : ∃ wp, wp = wr := ⟨wr, rfl⟩
      go_loopw [54] (fun y wr => ∃ i : Nat, y = .int .i64 (i : Int) ∧ i ≤ 256 ∧ Hid (Below wp.heap.size wp wr) ∧ Hid (wr.ownsRow wp.heap.size 39 523 (.slice (some ⟨g, 0, none⟩) 3 cap') 3 (allL (upd g0 i) g1 g2 p0 p1 p2))) (fun y _ => 256 - (intOf y).toNat)
      case atStart => exact ⟨0, rfl, by omega, HB6, HO6⟩
      case round =>
        clear HB6 HO6
        obtain ⟨i, rfl, hi, HBq, HOq⟩ := hrel
        by_cases hend : i < 256
        · have hown := HOq.out
          obtain ⟨hst, hgr⟩ := World.ownsRow.stored hown (263 + i) (.int .u8 (i : Nat))
          have hs0 := (HSr.out wr HBq.out).s0
          have hset : (allL (upd g0 i) g1 g2 p0 p1 p2).set (263 + i) (.int .u8 (i : Nat)) = allL (upd g0 (i + 1)) g1 g2 p0 p1 p2 := sv_set hs0 i hend _
          rw [hset] at hst
          have hb : ∀ q, (Value.slice (some ⟨g, 0, none⟩) 3 cap').ownBlock = some q → wp.heap.size ≤ q := fun q e => (ow.lt hown e).1
          have hbq := HBq.out.trans (mg.grown_below (v := .slice (some ⟨g, 0, none⟩) 3 cap') hgr hb HBq.out.size)
          have HB7 := (show Hid (Below wp.heap.size wp (wr.setCell ⟨g, 263 + i, none⟩ (.int .u8 (i : Nat)))) from hbq)
          have HO7 := (show Hid ((wr.setCell ⟨g, 263 + i, none⟩ (.int .u8 (i : Nat))).ownsRow wp.heap.size 39 523 (.slice (some ⟨g, 0, none⟩) 3 cap') 3 (allL (upd g0 (i + 1)) g1 g2 p0 p1 p2)) from hst)
          have hk : wr.cell? ⟨g, 263 + i, none⟩ = some (.int .u8 ((upd g0 i).mp i : Nat)) := by
            have hr := own_range hown
            have := range_part (w := wr) (b := g) (o := 0) (L := .int .i64 g0.kind :: (g0.mc ++ p0.cs.toList)) (M := mapL (upd g0 i).mp) (R := [p0.vm, p0.vd, p0.vb, p0.va] ++ (svL g1 p1 ++ svL g2 p2)) (by
              have e : allL (upd g0 i) g1 g2 p0 p1 p2 = (.int .i64 g0.kind :: (g0.mc ++ p0.cs.toList)) ++ (mapL (upd g0 i).mp ++ ([p0.vm, p0.vd, p0.vb, p0.va] ++ (svL g1 p1 ++ svL g2 p2))) := by simp [allL, svL, upd]
              rw [← e]
              exact hr)
            have e2 := hs0.d.size
            rw [List.length_cons, List.length_append, hs0.mc, Array.length_toList, e2, Nat.zero_add] at this
            exact mapL_cell this i hend
          have hf : wr.frozen? ⟨g, 263 + i, none⟩ = false := by
            rcases hown.2 with ⟨e, _⟩ | ⟨g', cap2, cur, e, _, hg, _⟩
            · simp at e
            · simp at e
              obtain ⟨rfl, rfl⟩ := e
              exact Lib.frozen_of_heap hg _
          clear hst hgr hs0 hset hb hbq hown HOq
          generalize (upd g0 i).mp i = x0 at *
          go_wp2_with (fail)
          go_roundw
          case rel => exact ⟨i + 1, by go_num, by omega, HB7, HO7⟩
          case measure => simp [intOf]; omega
        · obtain rfl : i = 256 := by omega
          have hsr := HSr.out wr HBq.out
          have c8 := eval_yes g 0 cap' hc1' hc2' (upd g0 256) g1 g2 p0 p1 p2 wr (own_sgs HOq.out (upd_at hsr.s0 256 (Nat.le_refl _)) hsr.s1 hsr.s2) HR.out (tT g0.mp u) (by rw [tT_size]; exact hu)
          rw [eval_upd] at c8
          have hcv2 := (HBR.out wr HBq.out).conv (T := g0.mp) (fun i _ => HMP.out i) bc
          have HB9 := (show Hid (Below w3.heap.size w3 wr) from chain HBr.out HBq.out)
          clear hsr HOq HBq
          go_wp2_with (fail)
          go_at_call 8
          refine c8.mono ?_
          rintro e w9 ⟨v9, rfl, hv9, b9⟩
          have b39 := chain HB9.out b9
          have c10 := mg.ints_same (evalL g0 g1 g2 u) _ v9 w9 (ids_ints (show Ids w9 w2.heap.size (.slice o3 (evalL g0 g1 g2 u).length k3) (evalL g0 g1 g2 u) from by rw [hL]; exact ow.later HV3.out b39)) (ids_ints hv9)
          have HB10 := (show Hid (Below w.heap.size w w9) from chain HB3.out b39)
          obtain ⟨o9, k9, rfl, _, _⟩ := ow.form hv9
          rw [hL] at c10
          clear c8 hcv2 hv9 b9 b39
          generalize (evalL g0 g1 g2 u).length = L9 at *
          go_wp2_with (fail)
          go_at_call 10
          refine c10.mono ?_
          rintro e w11 ⟨rfl, b11⟩
          have HB11 := (show Hid (Below w.heap.size w w11) from chain HB10.out b11)
          clear c10 b11
          go_wp2_with (fail)
          go_ret
          exact ⟨rfl, HB11.out⟩
end Go.Proofs.Ytnimedkjkabhfaa.ir
