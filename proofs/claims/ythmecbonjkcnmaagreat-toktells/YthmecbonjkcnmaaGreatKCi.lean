/-
  Contracts over this program: the document's Right of a configuration.
-/
import Derived.Test.YthmecbonjkcnmaaGreatM15
namespace Go.Proofs.YthmecbonjkcnmaaGreat.cf
open Go.ChangeShapes Go.WideShapes Go.ChangeAt Go.RowKit
open st (Tr Q4 nodesOf goods okNode nthT Is UpIs)
open ru (Ru rightE growN Rus)
open mg (Row RowV IntsV StrsV In chain below_alloc Mgs errOf)
set_option linter.unusedVariables false

theorem cfE_bad {c : Cf} {x : Nat} (h : passE c.ps = x) (hx : x ≠ 0) : cfE c = x := by rw [cfE_eq, h, if_pos hx]
/-- behind the passes -/
noncomputable def afterE (c : Cf) (m : Nat) : Nat := if reE c.t ≠ 0 then reE c.t else if 1000 < m then 172 else if errOf c.ms ≠ 0 then errOf c.ms else rest c
theorem cfE_after {c : Cf} {m : Nat} (h : passE c.ps = 0) (hm : m = Min.min (szT c.t) 1001) : cfE c = afterE c m := by
  rw [cfE_eq, if_neg (by omega)]
  unfold afterE splitE
  by_cases h1 : reE c.t = 0
  · by_cases h2 : 1000 < szT c.t
    · have h3 : 1000 < m := by omega
      simp [h1, h2, h3]
    · have h3 : ¬ 1000 < m := by omega
      simp [h1, h2, h3]
  · simp [h1]
/-- Texts' answer, of which only the error is asked -/
def TextsAt (args : Array Value) (w1 : World) (x : Int) : Prop := ∀ W, Below w1.heap.size w1 W → Calls Tryz.prog 28 args W fun e w' => ∃ v, e = .returned (.tuple #[v, .int .i64 x]) ∧ Below w1.heap.size w1 w'

open Classical in
set_option maxHeartbeats 4000000 in
set_option maxRecDepth 100000 in
theorem rright_any (c : Cf) (p : Cp) (w : World) (hv : CfAt w c p) (r : Nat) (hr : r = cfE c) : Calls Tryz.prog 10 #[.agg (cv c p)] w fun e w' => e = .returned (.int .i64 (r : Int)) ∧ Below w.heap.size w w' := by
  obtain ⟨w1, HW1⟩ : ∃ w1, Hid (w1 = w.alloc (.cells (cv c p) 34)) := ⟨_, rfl⟩
  have hb1 : Below w.heap.size w w1 := by rw [HW1.out]; exact below_alloc _ _
  have hbx : CBox w1 w.heap.size c p := by rw [HW1.out]; exact cbox_new w c p
  have hv1 := hv.later hb1
  have HPS := (show Hid (Pss w1 p.po p.pc c.ps) from hv1.ps)
  have HNS := (show Hid (Row (In w1) w1 Value.string p.no p.nc c.ns) from hv1.ns)
  have f1 := hv.ps.fit
  have f2 := hv.ps.top
  have f3 := hv.ns.fit
  have f4 := hv.ns.top
  obtain ⟨m, hm⟩ : ∃ m, m = Min.min (szT c.t) 1001 := ⟨_, rfl⟩
  have hm2 : m ≤ 1001 := by omega
  have k13 : CallAt 26 #[.agg #[.int .i64 c.t.kind, .int .u64 c.t.set.a, .int .u64 c.t.set.b, .int .u64 c.t.set.c, .int .u64 c.t.set.d, .int .i64 c.t.min, .int .i64 c.t.max, .slice p.ko c.t.kids.length p.kc]] w1 (.int .i64 ((reE c.t : Nat) : Int)) := fun W b => st.rright_is c.t _ rfl _ W (hv1.t.later b)
  have k14 : reE c.t = 0 → CallAt 27 #[.agg #[.int .i64 c.t.kind, .int .u64 c.t.set.a, .int .u64 c.t.set.b, .int .u64 c.t.set.c, .int .u64 c.t.set.d, .int .i64 c.t.min, .int .i64 c.t.max, .slice p.ko c.t.kids.length p.kc], .int .i64 1001] w1 (.int .i64 (m : Int)) := fun h W b => size_any c.t.depth c.t 1001 m (Nat.le_refl _) (reE_good h).1 (by omega) (by omega) hm _ W _ (hv1.t.later b)
  have k15 : TextsAt #[.slice p.mo c.ms.length p.mc] w1 ((errOf c.ms : Nat) : Int) := fun W b => (mg.rtexts_any c.ms _ W (hv1.ms.later b)).mono fun e w' ⟨v, h1, _, h2⟩ => ⟨v, h1, chain b h2⟩
  have hnl : c.ns.length ≤ 9223372036854775807 := Nat.le_trans hv.ns.fit hv.ns.top
  have kb : CallAt 29 #[.slice p.bo c.bf.length p.bc, .int .i64 (c.ns.length : Int)] w1 (.bool (decide (FrameOk c.bf c.ns.length))) := fun W b => rframe_any c.bf _ hnl _ W ⟨_, _, rfl, hv1.bf.later b⟩
  have ka : CallAt 29 #[.slice p.ao c.af.length p.ac, .int .i64 (c.ns.length : Int)] w1 (.bool (decide (FrameOk c.af c.ns.length))) := fun W b => rframe_any c.af _ hnl _ W ⟨_, _, rfl, hv1.af.later b⟩
  have m0 := hbx.c0
  have HT := (show Hid (∀ W, Below w1.heap.size w1 W → _) from fun W b => (hbx.later b).tree)
  have H9 : StayAt w1 ⟨w.heap.size, 9, none⟩ (.slice p.mo c.ms.length p.mc) := fun W b => (hbx.later b).c9
  have H10 : StayAt w1 ⟨w.heap.size, 10, none⟩ (.slice p.no c.ns.length p.nc) := fun W b => (hbx.later b).c10
  have H11 : StayAt w1 ⟨w.heap.size, 11, none⟩ (.slice p.bo c.bf.length p.bc) := fun W b => (hbx.later b).c11
  have H12 : StayAt w1 ⟨w.heap.size, 12, none⟩ (.slice p.ao c.af.length p.ac) := fun W b => (hbx.later b).c12
  have r0 : Below w1.heap.size w1 w1 := Below.refl _ _
  have HR := (show Hid (r = cfE c) from hr)
  have HM := (show Hid (m = Min.min (szT c.t) 1001) from hm)
  clear hv hv1 hbx hr hm
  by_cases hlong : 4 < c.ps.length
  · obtain rfl : r = 172 := by rw [HR.out, cfE_bad (passE_long hlong) (by omega)]
    clear HR HM HPS HNS k13 k14 k15 ka kb HT H9 H10 H11 H12
    unfold cv at *
    go_enter Tryz.func10, Tryz.ntmps10
    go_wp2_with (rw [← HW1.out])
    go_ret
    exact ⟨rfl, hb1⟩
  · have hl : c.ps.length ≤ 4 := by omega
    unfold cv at *
    generalize c.t.kind = k at *
    generalize c.t.set = q at *
    generalize c.t.min = mn at *
    generalize c.t.max = mx at *
    generalize c.t.kids.length = ln at *
    generalize hl1 : c.ms.length = l1 at *
    generalize hl3 : c.bf.length = l3 at *
    generalize hl4 : c.af.length = l4 at *
    generalize p.po = po at *
    generalize p.no = no at *
    go_enter Tryz.func10, Tryz.ntmps10
    go_wp2_with (rw [← HW1.out])
    go_loopw [3, 20] (fun u y wr => ∃ (i n : Nat), u = .int .i64 n ∧ y = .int .i64 i ∧ i ≤ c.ps.length ∧ n ≤ 32 ^ i ∧ Below w1.heap.size w1 wr ∧ Hid (n = grs 1 (c.ps.take i) ∧ ∀ j, j < i → rightE (nthP c.ps j) = 0)) (fun _ y _ => c.ps.length - (intOf y).toNat)
    case atStart => exact ⟨0, 1, rfl, rfl, by omega, by omega, r0, ⟨rfl, fun j hj => by omega⟩⟩
    case round =>
      obtain ⟨i, n, rfl, rfl, hil, hn, hB, HU⟩ := hrel
      by_cases hend : i < c.ps.length
      · obtain ⟨b, off, v, rfl, hb, hc, hrus⟩ := HPS.out.lie i hend
        have k1 := (hB.cell (p := ⟨b, off + i, none⟩) hb).trans hc
        have hcall := ru.rright_any (nthP c.ps i) _ rfl v wr (hrus.below hB)
        clear k13 k14 k15 ka kb HT H9 H10 H11 H12
        by_cases h0 : rightE (nthP c.ps i) = 0
        · have hg := grow_le h0
          have hi3 : i ≤ 3 := by omega
          have ht := times_le hi3 hn hg.2
          have HJ := (show Hid (n * growN 1 (nthP c.ps i) = grs 1 (c.ps.take (i + 1)) ∧ ∀ j, j < i + 1 → rightE (nthP c.ps j) = 0) from ⟨by rw [grs_take c.ps i hend, ← HU.out.1], fun j hj => by
            by_cases e : j = i
            · rw [e]; exact h0
            · exact HU.out.2 j (by omega)⟩)
          have HG := (show Hid _ from ru.rgr_any (nthP c.ps i) (ru.rightE_zero h0) _ rfl)
          have HRU := (show Hid (∀ W, Below wr.heap.size wr W → Rus W v (nthP c.ps i)) from fun W b => (hrus.below hB).below b)
          rw [h0] at hcall
          have hpow : n * growN 1 (nthP c.ps i) ≤ 1048576 := Nat.le_trans ht (by
            have : 32 ^ (i + 1) ≤ 32 ^ 4 := Nat.pow_le_pow_right (by omega) (by omega)
            exact this)
          obtain ⟨x, hx⟩ : ∃ x, x = n * growN 1 (nthP c.ps i) := ⟨_, rfl⟩
          have hxi : (n : Int) * ((growN 1 (nthP c.ps i) : Nat) : Int) = (x : Int) := by rw [hx, Int.natCast_mul]
          rw [← hx] at HJ ht hpow
          have HC2 := (show Hid (∀ W, Below wr.heap.size wr W → Calls Tryz.prog 18 #[v] W fun e w' => e = .returned (.int .i64 ((growN 1 (nthP c.ps i) : Nat) : Int)) ∧ Below W.heap.size W w') from fun W b => HG.out v W (HRU.out W b))
          clear HR HPS HNS HU h0 hc hrus hx HM HG HRU
          generalize growN 1 (nthP c.ps i) = g at *
          go_wp2_with (first | (go_at_call 17; refine hcall.mono ?_; rintro e w2 ⟨rfl, b2⟩) | (go_at_call 18; refine (HC2.out _ b2).mono ?_; rintro e w3 ⟨rfl, b3⟩))
          go_roundw
          case rel => exact ⟨i + 1, x, by go_num, by go_num, by omega, ht, chain hB (chain b2 b3), HJ.out⟩
          case measure => simp [intOf]; omega
        · have HE := (show Hid (r = rightE (nthP c.ps i)) from by
            show r = _
            rw [HR.out]; exact cfE_bad (passE_bad hlong hend HU.out.2 h0) h0)
          have hne : ((rightE (nthP c.ps i) : Nat) : Int) ≠ 0 := by omega
          clear HR HPS HNS HU hc hrus HM
          generalize rightE (nthP c.ps i) = x at *
          obtain rfl : r = x := HE.out
          have hnb : (((r : Nat) : Int) == 0) = false := beq_eq_false_iff_ne.2 hne
          go_wp2_with (go_at_call 17; refine hcall.mono ?_; rintro e w2 ⟨rfl, b2⟩)
          go_ret
          exact ⟨rfl, chain hb1 (chain hB b2)⟩
      · have HP := (show Hid (passE c.ps = if 32 < n then 172 else 0) from by
          have e : i = c.ps.length := by omega
          have h := HU.out
          rw [e, List.take_length] at h
          show _ = _
          rw [passE_end hlong h.2, h.1])
        have hn2 : n ≤ 1048576 := Nat.le_trans hn (by
          have : 32 ^ i ≤ 32 ^ 4 := Nat.pow_le_pow_right (by omega) (by omega)
          exact this)
        clear HU HPS hn
        by_cases h32 : 32 < n
        · obtain rfl : r = 172 := by rw [HR.out, cfE_bad (x := 172) (by rw [HP.out, if_pos h32]) (by omega)]
          clear HR HM HP HNS k13 k14 k15 ka kb HT H9 H10 H11 H12
          go_wp2_with (fail)
          go_ret
          exact ⟨rfl, chain hb1 hB⟩
        · have HA : Hid (r = afterE c m) := by
            show r = _
            rw [HR.out, cfE_after (by rw [HP.out, if_neg h32]) HM.out]
          clear HR HM HP
          obtain ⟨t0, t1, t2, t3, t4, t5, t6, t7⟩ := HT.out _ hB
          generalize wr = wB at *
          by_cases h13 : reE c.t = 0
          · have k14' := k14 h13
            rw [h13] at k13
            by_cases h14 : 1000 < m
            · obtain rfl : r = 172 := by rw [HA.out]; unfold afterE; rw [if_neg (by omega), if_pos h14]
              clear HA HNS k15 ka kb H9 H10 H11 H12 k14 h13
              go_wp2_with (first | (go_at_call 26; refine (k13.out _ hB).mono ?_; rintro e w2 ⟨rfl, b2⟩; obtain ⟨s0, s1, s2, s3, s4, s5, s6, s7⟩ := HT.out _ b2) | (go_at_call 27; refine (k14'.out _ b2).mono ?_; rintro e w3 ⟨rfl, b3⟩))
              go_ret
              exact ⟨rfl, chain hb1 b3⟩
            · by_cases h15 : errOf c.ms = 0
              · rw [h15] at k15
                have HL : Hid (r = rest c) := by show r = _; rw [HA.out]; unfold afterE; rw [if_neg (by omega), if_neg h14, if_neg (by omega)]
                clear HA k14 h13
                by_cases h64 : 64 < c.ns.length
                · obtain rfl : r = 172 := by rw [HL.out]; exact rest_no fun h => by have := h.1.1; omega
                  clear HL HNS ka kb H11 H12 h15
                  go_wp2_with (first | (go_at_call 26; refine (k13.out _ hB).mono ?_; rintro e w2 ⟨rfl, b2⟩; obtain ⟨s0, s1, s2, s3, s4, s5, s6, s7⟩ := HT.out _ b2) | (go_at_call 27; refine (k14'.out _ b2).mono ?_; rintro e w3 ⟨rfl, b3⟩; have m9 := H9 _ b3) | (go_at_call 28; refine (k15 _ b3).mono ?_; rintro e w4 ⟨tv, rfl, b4⟩; have m10 := H10 _ b4))
                  go_ret
                  exact ⟨rfl, chain hb1 b4⟩
                · have h64' : c.ns.length ≤ 64 := by omega
                  clear h15
                  go_wp2_with (first | (go_at_call 26; refine (k13.out _ hB).mono ?_; rintro e w2 ⟨rfl, b2⟩; obtain ⟨s0, s1, s2, s3, s4, s5, s6, s7⟩ := HT.out _ b2) | (go_at_call 27; refine (k14'.out _ b2).mono ?_; rintro e w3 ⟨rfl, b3⟩; have m9 := H9 _ b3) | (go_at_call 28; refine (k15 _ b3).mono ?_; rintro e w4 ⟨tv, rfl, b4⟩; have m10 := H10 _ b4))
                  clear t0 t1 t2 t3 t4 t5 t6 t7 s0 s1 s2 s3 s4 s5 s6 s7 m9 k13 k14' k15 HT H9 m0
                  go_loopw [62] (fun y wr => ∃ i : Nat, y = .int .i64 i ∧ i ≤ c.ns.length ∧ Below w1.heap.size w1 wr ∧ Hid (Upto c.ns i)) (fun y _ => c.ns.length - (intOf y).toNat)
                  case atStart => exact ⟨0, rfl, by omega, b4, upto_zero c.ns⟩
                  case round =>
                    obtain ⟨i2, rfl, hi2, hB2, HU2⟩ := hrel
                    by_cases hend2 : i2 < c.ns.length
                    · obtain ⟨nb, noff, rfl, hnb, hnc⟩ := strs_at HNS.out i2 hend2
                      have kn := (hB2.cell (p := ⟨nb, noff + i2, none⟩) hnb).trans hnc
                      by_cases hok : NameOk (nthB c.ns i2)
                      · obtain ⟨n1, n2⟩ := hok
                        have HST := (show Hid ((∀ j, j < i2 → nthB c.ns j ≠ nthB c.ns i2) → Upto c.ns (i2 + 1)) from fun h => upto_step HU2.out hend2 ⟨n1, n2⟩ (not_in hend2 h))
                        have HTW := (show Hid (∀ j, j < i2 → nthB c.ns j = nthB c.ns i2 → r = 172) from fun j hj e => by rw [HL.out]; exact rest_no fun h => twice_at hend2 hj e h.1)
                        have g1 : decide (((nthB c.ns i2).size : Int) < 1) = false := decide_eq_false (by omega)
                        have g2 : ¬ (32 : Int) < ((nthB c.ns i2).size : Int) := by omega
                        clear HU2 hnc
                        generalize nthB c.ns i2 = x at *
                        go_wp2_with (fail)
                        generalize wr = wC at *
                        go_loopw [12] (fun y wr => ∃ j : Nat, y = .int .i64 j ∧ j ≤ i2 ∧ Below w1.heap.size w1 wr ∧ Hid (∀ k, k < j → nthB c.ns k ≠ x)) (fun y _ => i2 - (intOf y).toNat)
                        case atStart => exact ⟨0, rfl, by omega, hB2, fun k hk => by omega⟩
                        case round =>
                          obtain ⟨j, rfl, hj, hB3, HN⟩ := hrel
                          by_cases hje : j < i2
                          · obtain ⟨nb', noff', hno', hnb', hnc'⟩ := strs_at HNS.out j (by omega)
                            obtain ⟨rfl, rfl⟩ : nb = nb' ∧ noff = noff' := by simpa using hno'
                            have kj := (hB3.cell (p := ⟨nb, noff + j, none⟩) hnb').trans hnc'
                            have mj := H10 _ hB3
                            have hq := str_eq (nthB c.ns j) x
                            have hjl : j < c.ns.length := by omega
                            by_cases he : nthB c.ns j = x
                            · obtain rfl : r = 172 := HTW.out j hje he
                              rw [decide_eq_true he] at hq
                              clear HST HTW he HN HNS HL hnc' ka kb hno'
                              generalize nthB c.ns j = y at *
                              go_wp2_with (fail)
                              go_ret
                              exact ⟨rfl, chain hb1 hB3⟩
                            · have HNX := (show Hid (∀ k, k < j + 1 → nthB c.ns k ≠ x) from fun k hk => by
                                by_cases e : k = j
                                · rw [e]; exact he
                                · exact HN.out k (by omega))
                              rw [decide_eq_false he] at hq
                              clear HST HTW he HN HNS HL hnc' ka kb hno'
                              generalize nthB c.ns j = y at *
                              go_wp2_with (fail)
                              go_roundw
                              case rel => exact ⟨j + 1, by go_num, by omega, hB3, HNX.out⟩
                              case measure => simp [intOf]; omega
                          · have HI := (show Hid _ from HST.out fun k hk => HN.out k (by omega))
                            clear HST HTW HN
                            go_wp2_with (fail)
                            go_roundw
                            case rel => exact ⟨i2 + 1, by go_num, by omega, hB3, HI.out⟩
                            case measure => simp [intOf]; omega
                      · obtain rfl : r = 172 := by rw [HL.out]; exact rest_no fun h => upto_bad hend2 hok h.1
                        by_cases h1 : 1 ≤ (nthB c.ns i2).size
                        · have g1 : decide (((nthB c.ns i2).size : Int) < 1) = false := decide_eq_false (by omega)
                          have g2 : (32 : Int) < ((nthB c.ns i2).size : Int) := by
                            have : ¬ (nthB c.ns i2).size ≤ 32 := fun h => hok ⟨h1, h⟩
                            omega
                          clear hok h1 HL HU2 HNS hnc ka kb
                          generalize nthB c.ns i2 = x at *
                          go_wp2_with (fail)
                          go_ret
                          exact ⟨rfl, chain hb1 hB2⟩
                        · have g1 : ((nthB c.ns i2).size : Int) < 1 := by omega
                          clear hok h1 HL HU2 HNS hnc ka kb
                          generalize nthB c.ns i2 = x at *
                          go_wp2_with (fail)
                          go_ret
                          exact ⟨rfl, chain hb1 hB2⟩
                    · have hN : NamesOk c.ns := upto_all h64' (by
                        have e : i2 = c.ns.length := by omega
                        rw [← e]; exact HU2.out)
                      have m10 := H10 _ hB2
                      have m11 := H11 _ hB2
                      by_cases hb : FrameOk c.bf c.ns.length
                      · rw [decide_eq_true hb] at kb
                        by_cases ha : FrameOk c.af c.ns.length
                        · rw [decide_eq_true ha] at ka
                          obtain rfl : r = 0 := by rw [HL.out]; exact rest_yes hN hb ha
                          clear HL HU2 HNS hN ha hb
                          go_wp2_with (first | (go_at_call 29; refine (kb.out _ hB2).mono ?_; clear kb; rintro e w6 ⟨rfl, b6⟩; have m12 := H12 _ b6; have m13 := H10 _ b6) | (go_at_call 29; refine (ka.out _ b6).mono ?_; rintro e w7 ⟨rfl, b7⟩))
                          go_ret
                          exact ⟨rfl, chain hb1 b7⟩
                        · rw [decide_eq_false ha] at ka
                          obtain rfl : r = 172 := by rw [HL.out]; exact rest_no fun h => ha h.2.2
                          clear HL HU2 HNS hN ha hb
                          go_wp2_with (first | (go_at_call 29; refine (kb.out _ hB2).mono ?_; clear kb; rintro e w6 ⟨rfl, b6⟩; have m12 := H12 _ b6; have m13 := H10 _ b6) | (go_at_call 29; refine (ka.out _ b6).mono ?_; rintro e w7 ⟨rfl, b7⟩))
                          go_ret
                          exact ⟨rfl, chain hb1 b7⟩
                      · rw [decide_eq_false hb] at kb
                        obtain rfl : r = 172 := by rw [HL.out]; exact rest_no fun h => hb h.2.1
                        clear HL HU2 HNS hN hb ka
                        go_wp2_with (go_at_call 29; refine (kb.out _ hB2).mono ?_; rintro e w6 ⟨rfl, b6⟩)
                        go_ret
                        exact ⟨rfl, chain hb1 b6⟩
              · have HE : Hid (r = errOf c.ms) := by show r = _; rw [HA.out]; unfold afterE; rw [if_neg (by omega), if_neg h14, if_pos h15]
                clear HA HNS ka kb H10 H11 H12 k14 h13
                generalize errOf c.ms = x at *
                obtain rfl : r = x := HE.out
                have hne : ((r : Nat) : Int) ≠ 0 := by omega
                have hnb : (((r : Nat) : Int) == 0) = false := beq_eq_false_iff_ne.2 hne
                go_wp2_with (first | (go_at_call 26; refine (k13.out _ hB).mono ?_; rintro e w2 ⟨rfl, b2⟩; obtain ⟨s0, s1, s2, s3, s4, s5, s6, s7⟩ := HT.out _ b2) | (go_at_call 27; refine (k14'.out _ b2).mono ?_; rintro e w3 ⟨rfl, b3⟩; have m9 := H9 _ b3) | (go_at_call 28; refine (k15 _ b3).mono ?_; rintro e w4 ⟨tv, rfl, b4⟩))
                go_ret
                exact ⟨rfl, chain hb1 b4⟩
          · have HE : Hid (r = reE c.t) := by show r = _; rw [HA.out]; unfold afterE; rw [if_pos h13]
            clear HA HNS ka kb H10 H11 H12 k14 H9 k15 HT
            generalize reE c.t = x at *
            obtain rfl : r = x := HE.out
            have hne : ((r : Nat) : Int) ≠ 0 := by omega
            have hnb : (((r : Nat) : Int) == 0) = false := beq_eq_false_iff_ne.2 hne
            go_wp2_with (go_at_call 26; refine (k13.out _ hB).mono ?_; rintro e w2 ⟨rfl, b2⟩)
            go_ret
            exact ⟨rfl, chain hb1 b2⟩
end Go.Proofs.YthmecbonjkcnmaaGreat.cf
