/-
  The law MiniOnce, walked.
-/
import Derived.Test.YtkdkibnjfgcppaaNi
import Derived.Test.YtkdkibnjfgcppaaNd
namespace Go.Proofs.Ytkdkibnjfgcppaa.mi
open Go.ChangeShapes Go.WideShapes Go.ChangeAt Go.RowKit Go.Shelf Go.Maps
set_option linter.unusedVariables false

theorem own_len {w : World} {B e n : Nat} {v : Value} {xs : List Value} (h : w.ownsRow B e 1 v n xs) : ∃ o c, v = .slice o n c ∧ n ≤ c ∧ c ≤ 9223372036854775807 := by
  rcases h.2 with ⟨e, h0⟩ | ⟨g, cap, cur, e, _, _, h1, h2, _⟩
  · exact ⟨none, 0, by rw [e, h0], by omega, by omega⟩
  · unfold maxLen at h2; exact ⟨_, _, e, h1, h2⟩
theorem rem_nat (i n : Nat) (hn : 0 < n) : ((i : Nat) : Int).tmod (n : Int) = ((i % n : Nat) : Int) := by
  rw [Int.tmod_eq_emod_of_nonneg (by omega)]; rfl
def OT (w : World) (K : Nat) (v : Value) (d : df.Dfa) (i c : Nat) : Prop := w.ownsRow K 3 1 v c (((twR d i).take c).map (Value.int .i64))
set_option maxHeartbeats 8000000 in
set_option maxRecDepth 100000 in
theorem once_walk (d : df.Dfa) (cs : Array Value) (o ao : Option Addr) (cap acap : Nat) (w : World) (hD : df.DAt (df.In w) w d cs o cap ao acap) :
    Calls Try.prog 7 #[.agg cs] w fun e w' => e = .returned (.bool true) ∧ Below w.heap.size w w' := by
  have hz := zero26
  have hw8 := hD.size
  obtain ⟨wA, hwA⟩ : ∃ wA, wA = w.alloc (.cells cs 26) := ⟨_, rfl⟩
  have B0 : Below w.heap.size w wA := by rw [hwA]; exact below_alloc w _
  have xA : df.DBox wA w.heap.size cs := by rw [hwA]; exact df.dbox_new w cs
  have HD := (show Hid _ from hD.later B0)
  clear hD
  go_enter Try.func7, Try.ntmps7
  go_wp2_with (fail)
  rw [← hwA]
  clear hwA
  go_at_call 18
  refine (alive_any wA).mono ?_
  rintro e w0 ⟨rfl, b0⟩
  have x0 : df.DBox w0 w.heap.size cs := xA.later b0
  have c9 := df.rright_any d _ rfl cs o cap ao acap w0 (HD.out.later b0)
  go_wp2_with (fail)
  refine wp_load_row 26 (.tmp 1) rfl w.heap.size rfl 26 cs (0, 0) _ x0 Try.underlying26 rfl (df.info26 cs hw8) ?_
  go_wp2_with (fail)
  go_at_call 9
  refine c9.mono ?_
  rintro e w1 ⟨rfl, b1⟩
  have bA1 := df.chain b0 b1
  have x1 : df.DBox w1 w.heap.size cs := xA.later bA1
  cases hr : df.right d with
  | false =>
    go_wp2_with (fail)
    go_ret
    exact ⟨rfl, df.chain B0 bA1⟩
  | true =>
    have k1 := x1.nx HD.out
    have hf1 := HD.out.rows.fit
    have hf2 := HD.out.rows.top
    have hok := df.ok_of d hr
    have hone := hok.one
    have hmost := hok.most
    have haccl := hok.accs
    have HOK := (show Hid _ from hok)
    clear hok c9
    by_cases h150 : 150 < d.next.length
    · go_wp2_with (fail)
      go_ret
      exact ⟨rfl, df.chain B0 bA1⟩
    have c8 := least8_any d cs o ao cap acap w1 (HD.out.later bA1)
    go_wp2_with (fail)
    clear k1
    refine wp_load_row 26 (.tmp 1) rfl w.heap.size rfl 26 cs (0, 0) _ x1 Try.underlying26 rfl (df.info26 cs hw8) ?_
    go_wp2_with (fail)
    go_at_call 8
    refine c8.mono ?_
    rintro e w3 (⟨hf, _⟩ | ⟨_, m, mcs, mo, mao, mcap, macap, rfl, hDm, hLm, b3, hmle⟩)
    · rw [hr] at hf; cases hf
    have hms := hDm.size
    have hst := store26 w3 mcs hms (dat_one hDm)
    obtain ⟨w4, hw4⟩ : ∃ w4, w4 = w3.alloc (.cells mcs 26) := ⟨_, rfl⟩
    have b4 : Below w3.heap.size w3 w4 := by rw [hw4]; exact below_alloc w3 _
    have xm : df.DBox w4 w3.heap.size mcs := by rw [hw4]; exact df.dbox_new w3 mcs
    have hzz := z26_size
    go_wp2_with (fail)
    rw [← hw4]
    have bA4 := df.chain bA1 (df.chain b3 b4)
    have HDm := (show Hid _ from dat_in hDm b4)
    have HLm := (show Hid _ from hLm)
    have hmr : df.right m = true := hLm.right (by omega)
    have HLm2 := (show Hid (Least ((dm d).lang (some 0)) ((List.range 256).map m.cls) m.next m.acc) from hLm)
    have hlang := hLm.lang
    have c8 := least8_any m mcs mo mao mcap macap w4 HDm.out
    clear hw4 hst hDm hLm
    refine wp_load_row 26 (.tmp 3) rfl w3.heap.size rfl 26 mcs (0, 0) _ xm Try.underlying26 rfl (df.info26 mcs hms) ?_
    go_wp2_with (fail)
    go_at_call 8
    refine c8.mono ?_
    rintro e w5 (⟨hf, _⟩ | ⟨_, n, ncs, no, nao, ncap, nacap, rfl, hDn, hLn, b5, hnle⟩)
    · rw [hmr] at hf; cases hf
    rw [hlang] at hLn
    have hns := hDn.size
    have hst := store26 w5 ncs hns (dat_one hDn)
    obtain ⟨w6, hw6⟩ : ∃ w6, w6 = w5.alloc (.cells ncs 26) := ⟨_, rfl⟩
    have b6 : Below w5.heap.size w5 w6 := by rw [hw6]; exact below_alloc w5 _
    have xn : df.DBox w6 w5.heap.size ncs := by rw [hw6]; exact df.dbox_new w5 ncs
    go_wp2_with (fail)
    rw [← hw6]
    have b46 := df.chain b5 b6
    have bA6 := df.chain bA4 b46
    have xm6 : df.DBox w6 w3.heap.size mcs := xm.later b46
    have cl := like_any m mcs mo mao mcap macap ncs no nao ncap nacap w6 (HDm.out.later b46) (dat_as HLm2.out hLn HDm.out.c8 (dat_in hDn b6))
    clear hw6 hst hDn hLn c8
    refine wp_load_row 26 (.tmp 3) rfl w3.heap.size rfl 26 mcs (0, 0) _ xm6 Try.underlying26 rfl (df.info26 mcs hms) ?_
    go_wp2_with (fail)
    refine wp_load_row 26 (.tmp 5) rfl w5.heap.size rfl 26 ncs (0, 0) _ xn Try.underlying26 rfl (df.info26 ncs hns) ?_
    go_wp2_with (fail)
    go_at_call 10
    refine cl.mono ?_
    rintro e w7 ⟨rfl, b7⟩
    have bA7 := df.chain bA6 b7
    have x7 : df.DBox w7 w.heap.size cs := xA.later bA7
    have xm7 : df.DBox w7 w3.heap.size mcs := xm6.later b7
    have HD7 := (show Hid _ from HD.out.later bA7)
    have HM7 := (show Hid _ from (HDm.out.later b46).later b7)
    have hac := HD.out.ac
    obtain ⟨ab, aoff, rfl, hab, _⟩ := HD7.out.accs.lie 0 (by omega)
    clear cl xm xn xm6 x0 x1
    go_wp2_with (fail)
    refine reg7_9 (acc := d.acc) (cs := cs) (by rfl) ⟨w.heap.size, clX d, ⟨ab, aoff, none⟩, d.acc.length, acap⟩ (by rfl) hw8 (by simp) (ext_ccs HD.out) x7 hac rfl (by omega) (by omega) hab (fun j hj => ?_) ?_
    · obtain ⟨ab', aoff', e1, _, hc⟩ := HD7.out.accs.lie j hj
      cases e1
      have ha : (⟨ab, aoff, none⟩ : Addr).add j = ⟨ab, aoff + j, none⟩ := by simp [Addr.add]
      rw [ha]; exact hc
    intro vals w8 gt e10 hgt hDL hown b8
    rw [fold7_9, e10]
    have HT0 := (show Hid (Tw w8 w7.heap.size gt (clX d) (vals 8) (d.acc ++ d.acc) d 0 nl []) from ⟨hDL, hgt, (by rw [List.length_append]; exact hown), own_nil _ _ _, fun k hk => by omega⟩)
    have x8 : df.DBox w8 w.heap.size cs := x7.later b8
    have k8 := x8.nx HD.out
    clear hDL hown e10
    generalize vals 8 = av at *
    go_wp2_with (fail)
    clear k8 x8
    go_loopw [61] (fun y wr => ∃ (i : Nat) (nv : Value) (vs : List Value), y = .int .i64 (i : Int) ∧ i ≤ 2 * d.next.length ∧ Below w7.heap.size w7 wr ∧ Hid (Tw wr w7.heap.size gt (clX d) av (d.acc ++ d.acc) d i nv vs)) (fun y _ => 2 * d.next.length - (intOf y).toNat)
    case atStart => exact ⟨0, nl, [], rfl, by omega, b8, HT0.out⟩
    case round =>
      clear HT0
      obtain ⟨i, nv, vs, rfl, hi, hBi, HT⟩ := hrel
      by_cases hend : i < 2 * d.next.length
      · have xi : df.DBox wr w.heap.size cs := x7.later hBi
        have z1 := xi.nx HD.out
        have hend2 : ((i : Nat) : Int) < 2 * ((d.next.length : Nat) : Int) := by omega
        have hdec : decide (((i : Nat) : Int) < 2 * ((d.next.length : Nat) : Int)) = true := decide_eq_true hend2
        have hrem := rem_nat i d.next.length (by omega)
        have hk : i % d.next.length < d.next.length := Nat.mod_lt _ (by omega)
        have hnz : ((d.next.length : Int) == 0) = false := beq_eq_false_iff_ne.2 (by omega)
        obtain ⟨rb, roff, oi, ci, rfl, hrb, hrc, hrow⟩ := HD7.out.rows.lie (i % d.next.length) hk
        have hrc2 := (hBi.cell (p := ⟨rb, roff + i % d.next.length, none⟩) hrb).trans hrc
        have g1 := hrow.fit
        have g2 := hrow.top
        have HRW := (show Hid (df.Row (df.In w7) w7 df.iv oi ci d.next[i % d.next.length]) from hrow)
        have HRL := (show Hid (twR d i = twRow d.next.length i d.next[i % d.next.length]) from by show twRow _ _ (rowR d _) = _; rw [(row_in HOK.out hk).1])
        have HRR := (show Hid (rowR d (i % d.next.length) = d.next[i % d.next.length]) from (row_in HOK.out hk).1)
        have HRB := (show Hid (∀ c (hc : c < d.next[i % d.next.length].length), -1 ≤ d.next[i % d.next.length][c] ∧ d.next[i % d.next.length][c] < (d.next.length : Int)) from fun c hc => HOK.out.st _ hk c hc)
        have HWD := (show Hid (d.next[i % d.next.length].length ≤ 256) from by have h1 := HOK.out.wide _ hk; have h2 := HOK.out.k256; show _ ≤ _; omega)
        generalize d.next[i % d.next.length] = R at *
        generalize i % d.next.length = kk at *
        clear hrow hrc xi
        go_wp2_with (fail)
        go_quiet (fail)
        go_wp2_with (fail)
        have hBq := df.below_drewN hBi nq
        have HTq := (show Hid (Tw (wr.drewN nq) w7.heap.size gt (clX d) av (d.acc ++ d.acc) d i nv vs) from HT.out.later (df.below_drewN (Below.refl _ _) nq))
        clear HT z1 hrc2 hBi
        generalize wr.drewN nq = wq at *
        have hwd := HWD.out
        go_loopw [74, 9] (fun y v wr => ∃ (c : Nat) (tg : Option Addr) (tc : Nat), y = .int .i64 (c : Int) ∧ v = .slice tg c tc ∧ c ≤ R.length ∧ c ≤ tc ∧ tc ≤ 9223372036854775807 ∧ Below wq.heap.size wq wr ∧ OT wr wq.heap.size (.slice tg c tc) d i c) (fun y _ _ => R.length - (intOf y).toNat)
        case atStart => exact ⟨0, none, 0, rfl, rfl, by omega, by omega, by omega, Below.refl _ _, by unfold OT; rw [List.take_zero]; exact own_nil _ _ _⟩
        case round =>
          obtain ⟨c, tg, tc, rfl, rfl, hc, tf1, tf2, hBc, HO'⟩ := hrel
          have HO := (show Hid (wr.ownsRow wq.heap.size 3 1 (.slice tg c tc) c (((twR d i).take c).map (Value.int .i64))) from HO')
          clear HO'
          by_cases hce : c < R.length
          · obtain ⟨qb, qoff, rfl, hqb, hqc⟩ := HRW.out.lie c hce
            have hB7 := hBq.trans (hBc.mono hBq.size)
            have z1 := (x7.later hB7).nx HD.out
            have kq : wr.cell? ⟨qb, qoff + c, none⟩ = some (.int .i64 R[c]) := (hB7.cell (p := ⟨qb, qoff + c, none⟩) hqb).trans hqc
            have HTK := (show Hid (∀ y, y = twE d.next.length i c R[c] → ((twR d i).take (c + 1)).map (Value.int .i64) = ((twR d i).take c).map (Value.int .i64) ++ [Value.int .i64 y]) from fun y hy => by
              rw [HRL.out, twRow_take _ _ _ _ hce, List.map_append, hy]; rfl)
            have HB := (show Hid (-1 ≤ R[c] ∧ R[c] < (d.next.length : Int)) from HRB.out c hce)
            have hjb := HB.out
            have hmod := rem_nat (i + c) 2 (by omega)
            rw [Int.natCast_add] at hmod
            clear hqc HB
            generalize ((twR d i).take c).map (Value.int .i64) = pre at *
            generalize R[c] = j at *
            by_cases hj : 0 ≤ j
            · by_cases ho2 : (i + c) % 2 = 1
              · rw [ho2] at hmod
                have hm1 : ((i : Int) + (c : Int)).tmod 2 = 1 := hmod
                clear hmod
                have HNX := (show Hid (∀ g' cap' w3, w3.ownsRow wq.heap.size 3 1 (.slice (some ⟨g', 0, none⟩) (c + 1) cap') (c + 1) (pre ++ [.int .i64 (j + (d.next.length : Int))]) → Below wq.heap.size wq w3 → ∃ (c' : Nat) (tg : Option Addr) (tc : Nat), Value.int .i64 ((c : Int) + 1) = .int .i64 (c' : Int) ∧ Value.slice (some ⟨g', 0, none⟩) (c + 1) cap' = .slice tg c' tc ∧ c' ≤ R.length ∧ c' ≤ tc ∧ tc ≤ 9223372036854775807 ∧ Below wq.heap.size wq w3 ∧ OT w3 wq.heap.size (.slice tg c' tc) d i c') from fun g' cap' w3 ho hb => by
                  obtain ⟨_, _, e1, e2, e3⟩ := own_len ho
                  cases e1
                  refine ⟨c + 1, _, _, by go_num, rfl, by omega, e2, e3, hb, ?_⟩
                  unfold OT
                  rw [HTK.out (j + (d.next.length : Int)) (show _ = twE _ _ _ _ from (if_pos ⟨hj, ho2⟩).symm)]
                  exact ho)
                have HO1 := (show Hid _ from ow.later HO.out (below_alloc wr (.cells #[.int .i64 (j + (d.next.length : Int))] 3)))
                have HN1 := (show Hid _ from ow.new1 wr (.int .i64 (j + (d.next.length : Int))) 3)
                have hB1 : Below wq.heap.size wq (wr.alloc (.cells #[.int .i64 (j + (d.next.length : Int))] 3)) := hBc.alloc hBc.size _
                have hBw : wq.heap.size ≤ (wr.alloc (.cells #[.int .i64 (j + (d.next.length : Int))] 3)).heap.size := hB1.size
                clear HO
                go_wp2_with (at_builtin; refine ow.wpList_append (by rfl) (.tmp 93) (.tmp 95) 39 (by rfl) 3 (.int .i64 0) 1 8 Try.underlying39 df.info3 (by rfl) (by decide) (by decide) wq.heap.size (.slice tg c tc) c pre wr.heap.size [.int .i64 (j + (d.next.length : Int))] (by rfl) (by rfl) (by exact HO1.out) (by rfl) (by exact HN1.out) (by exact ow.one1 _ rfl) (by omega) (by exact hBw) ?_; intro g' cap' w3 ho hgr hw3)
                go_roundw
                case rel => exact HNX.out g' cap' w3 ho (hB1.grown hgr hB1.size (by intro k hk; exact (ow.lt HO1.out hk).1))
                case measure => simp [intOf]; omega
              · have hm1 : ((i : Int) + (c : Int)).tmod 2 = 0 := by rw [show ((i : Int) + (c : Int)).tmod 2 = (((i + c) % 2 : Nat) : Int) from hmod]; omega
                clear hmod
                have HNX := (show Hid (∀ g' cap' w3, w3.ownsRow wq.heap.size 3 1 (.slice (some ⟨g', 0, none⟩) (c + 1) cap') (c + 1) (pre ++ [.int .i64 (j)]) → Below wq.heap.size wq w3 → ∃ (c' : Nat) (tg : Option Addr) (tc : Nat), Value.int .i64 ((c : Int) + 1) = .int .i64 (c' : Int) ∧ Value.slice (some ⟨g', 0, none⟩) (c + 1) cap' = .slice tg c' tc ∧ c' ≤ R.length ∧ c' ≤ tc ∧ tc ≤ 9223372036854775807 ∧ Below wq.heap.size wq w3 ∧ OT w3 wq.heap.size (.slice tg c' tc) d i c') from fun g' cap' w3 ho hb => by
                  obtain ⟨_, _, e1, e2, e3⟩ := own_len ho
                  cases e1
                  refine ⟨c + 1, _, _, by go_num, rfl, by omega, e2, e3, hb, ?_⟩
                  unfold OT
                  rw [HTK.out (j) (show _ = twE _ _ _ _ from (if_neg fun k => ho2 k.2).symm)]
                  exact ho)
                have HO1 := (show Hid _ from ow.later HO.out (below_alloc wr (.cells #[.int .i64 j] 3)))
                have HN1 := (show Hid _ from ow.new1 wr (.int .i64 j) 3)
                have hB1 : Below wq.heap.size wq (wr.alloc (.cells #[.int .i64 j] 3)) := hBc.alloc hBc.size _
                have hBw : wq.heap.size ≤ (wr.alloc (.cells #[.int .i64 j] 3)).heap.size := hB1.size
                clear HO
                go_wp2_with (at_builtin; refine ow.wpList_append (by rfl) (.tmp 93) (.tmp 95) 39 (by rfl) 3 (.int .i64 0) 1 8 Try.underlying39 df.info3 (by rfl) (by decide) (by decide) wq.heap.size (.slice tg c tc) c pre wr.heap.size [.int .i64 j] (by rfl) (by rfl) (by exact HO1.out) (by rfl) (by exact HN1.out) (by exact ow.one1 _ rfl) (by omega) (by exact hBw) ?_; intro g' cap' w3 ho hgr hw3)
                go_roundw
                case rel => exact HNX.out g' cap' w3 ho (hB1.grown hgr hB1.size (by intro k hk; exact (ow.lt HO1.out hk).1))
                case measure => simp [intOf]; omega
            · have hj2 : j < 0 := by omega
              have HNX := (show Hid (∀ g' cap' w3, w3.ownsRow wq.heap.size 3 1 (.slice (some ⟨g', 0, none⟩) (c + 1) cap') (c + 1) (pre ++ [.int .i64 (j)]) → Below wq.heap.size wq w3 → ∃ (c' : Nat) (tg : Option Addr) (tc : Nat), Value.int .i64 ((c : Int) + 1) = .int .i64 (c' : Int) ∧ Value.slice (some ⟨g', 0, none⟩) (c + 1) cap' = .slice tg c' tc ∧ c' ≤ R.length ∧ c' ≤ tc ∧ tc ≤ 9223372036854775807 ∧ Below wq.heap.size wq w3 ∧ OT w3 wq.heap.size (.slice tg c' tc) d i c') from fun g' cap' w3 ho hb => by
                obtain ⟨_, _, e1, e2, e3⟩ := own_len ho
                cases e1
                refine ⟨c + 1, _, _, by go_num, rfl, by omega, e2, e3, hb, ?_⟩
                unfold OT
                rw [HTK.out (j) (show _ = twE _ _ _ _ from (if_neg fun k => hj k.1).symm)]
                exact ho)
              have HO1 := (show Hid _ from ow.later HO.out (below_alloc wr (.cells #[.int .i64 j] 3)))
              have HN1 := (show Hid _ from ow.new1 wr (.int .i64 j) 3)
              have hB1 : Below wq.heap.size wq (wr.alloc (.cells #[.int .i64 j] 3)) := hBc.alloc hBc.size _
              have hBw : wq.heap.size ≤ (wr.alloc (.cells #[.int .i64 j] 3)).heap.size := hB1.size
              clear HO
              go_wp2_with (at_builtin; refine ow.wpList_append (by rfl) (.tmp 93) (.tmp 95) 39 (by rfl) 3 (.int .i64 0) 1 8 Try.underlying39 df.info3 (by rfl) (by decide) (by decide) wq.heap.size (.slice tg c tc) c pre wr.heap.size [.int .i64 j] (by rfl) (by rfl) (by exact HO1.out) (by rfl) (by exact HN1.out) (by exact ow.one1 _ rfl) (by omega) (by exact hBw) ?_; intro g' cap' w3 ho hgr hw3)
              go_roundw
              case rel => exact HNX.out g' cap' w3 ho (hB1.grown hgr hB1.size (by intro k hk; exact (ow.lt HO1.out hk).1))
              case measure => simp [intOf]; omega
          · have HCL := (show Hid (c = R.length) from by show c = _; omega)
            have HV := (show Hid (df.Owns wr w7.heap.size (.slice tg c tc) (twR d i)) from by
              have h1 := own_wide HO.out hBq.size
              have e1 : (twR d i).length = c := by rw [HRL.out, twRow_len]; exact HCL.out.symm
              rw [List.take_of_length_le (by omega)] at h1
              show World.ownsRow _ _ _ _ _ _ _
              rw [e1]; exact h1)
            have HTr := (show Hid _ from HTq.out.later hBc)
            have hB7 := hBq.trans (hBc.mono hBq.size)
            obtain ⟨no', nc', rfl, nf1, nf2⟩ := own_len HTr.out.nx
            have kn := HTr.out.box.cn
            have hlt := HTr.out.box.lt
            have B1 := below_alloc wr (.cells #[.slice tg c tc] 39)
            have HT1 := (show Hid _ from HTr.out.later B1)
            have HV1 := (show Hid _ from ow.later HV.out B1)
            have HN1 := (show Hid _ from ow.new1 wr (.slice tg c tc) 39)
            have hB1 : Below w7.heap.size w7 (wr.alloc (.cells #[.slice tg c tc] 39)) := hB7.alloc hB7.size _
            have hBw : w7.heap.size ≤ (wr.alloc (.cells #[.slice tg c tc] 39)).heap.size := hB1.size
            clear HO HV HTr HTq
            generalize hwb : wr.alloc (.cells #[.slice tg c tc] 39) = wb at *
            go_wp2_with (at_builtin; refine ow.wpList_append (by rfl) (.tmp 99) (.tmp 101) 23 (by rfl) 39 (.slice none 0 0) 1 24 Try.underlying23 info39 (by rfl) (by decide) (by decide) w7.heap.size (.slice no' i nc') i vs wr.heap.size [.slice tg c tc] (by rfl) (by rfl) (by exact HT1.out.nx) (by rfl) (by exact HN1.out) (by exact ow.one1 _ rfl) (by omega) (by exact hBw) ?_; intro g' cap' w3 ho hgr hw3; have HP := (show Hid _ from HT1.out.push HV1.out ho hgr); have hfz := (HT1.out.box.keep (hgr.block gt HT1.out.box.lt (by obtain ⟨_, hcb, _⟩ := HT1.out.box; exact ow.type HT1.out.nx hcb (by decide)))).fz 256; have hcn := (HT1.out.box.keep (hgr.block gt HT1.out.box.lt (by obtain ⟨_, hcb, _⟩ := HT1.out.box; exact ow.type HT1.out.nx hcb (by decide)))).cn)
            have HB3 := (show Hid (Below w7.heap.size w7 (w3.setCell ⟨gt, 256, none⟩ (.slice (some ⟨g', 0, none⟩) (i + 1) cap'))) from (own_low HT1.out.nx hB1 hgr).setCell (p := ⟨gt, 256, none⟩) hgt _)
            go_roundw
            case rel => exact ⟨i + 1, _, _, by go_num, by omega, HB3.out, HP.out⟩
            case measure => simp [intOf]; omega
      · obtain rfl : i = 2 * d.next.length := by omega
        obtain ⟨tcs, to', tcap, tao, tacap, hbt, hDt⟩ := HT.out.dat rfl rfl HD.out.c8
        have hts := hDt.size
        have htr := tw_right hr (by omega)
        have htl := tw_lang hr
        have c8 := least8_any (tw d) tcs to' tao tcap tacap wr hDt
        have xmr : df.DBox wr w3.heap.size mcs := xm7.later hBi
        have HMr := (show Hid _ from HM7.out.later hBi)
        clear hDt HT
        go_wp2_with (fail)
        refine wp_load_row 26 (.tmp 7) rfl gt rfl 26 tcs (0, 0) _ hbt Try.underlying26 rfl (df.info26 tcs hts) ?_
        go_wp2_with (fail)
        go_at_call 8
        refine c8.mono ?_
        rintro e w9 (⟨hf, _⟩ | ⟨_, k, kcs, ko, kao, kcap, kacap, rfl, hDk, hLk, b9, hkle⟩)
        · rw [htr] at hf; cases hf
        rw [htl] at hLk
        have hks := hDk.size
        have hst := store26 w9 kcs hks (dat_one hDk)
        obtain ⟨w10, hw10⟩ : ∃ w10, w10 = w9.alloc (.cells kcs 26) := ⟨_, rfl⟩
        have b10 : Below w9.heap.size w9 w10 := by rw [hw10]; exact below_alloc w9 _
        have xk : df.DBox w10 w9.heap.size kcs := by rw [hw10]; exact df.dbox_new w9 kcs
        go_wp2_with (fail)
        rw [← hw10]
        have br := df.chain b9 b10
        have xm10 : df.DBox w10 w3.heap.size mcs := xmr.later br
        have cl := like_any m kcs ko kao kcap kacap mcs mo mao mcap macap w10 (dat_as HLm2.out hLk HDm.out.c8 (dat_in hDk b10)) (HMr.out.later br)
        clear hw10 hst hDk hLk c8
        refine wp_load_row 26 (.tmp 12) rfl w9.heap.size rfl 26 kcs (0, 0) _ xk Try.underlying26 rfl (df.info26 kcs hks) ?_
        go_wp2_with (fail)
        refine wp_load_row 26 (.tmp 3) rfl w3.heap.size rfl 26 mcs (0, 0) _ xm10 Try.underlying26 rfl (df.info26 mcs hms) ?_
        go_wp2_with (fail)
        go_at_call 10
        refine cl.mono ?_
        rintro e w11 ⟨rfl, b11⟩
        go_wp2_with (fail)
        go_ret
        exact ⟨rfl, df.chain B0 (df.chain bA7 (hBi.trans ((df.chain br b11).mono hBi.size)))⟩
end Go.Proofs.Ytkdkibnjfgcppaa.mi
