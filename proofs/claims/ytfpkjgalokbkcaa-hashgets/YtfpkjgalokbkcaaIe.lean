/-
  Contracts over this program: the document's place and Right.
-/
import Derived.Test.YtfpkjgalokbkcaaId
namespace Go.Proofs.Ytfpkjgalokbkcaa.hs
open Go.ChangeShapes Go.WideShapes Go.ChangeAt Go.RowKit
set_option linter.unusedVariables false

def RPlaceIs (h : Hh) (k r : Nat) : Prop := ∀ p w, HAt (In w) w h p → Calls Try.prog 20 #[.agg (hv h p), .int .u64 (k : Int)] w fun e w' => e = .returned (.int .i64 (r : Int)) ∧ Below w.heap.size w w'
set_option maxHeartbeats 2000000 in
theorem rplace_sorted (h : Hh) (hs : h.seeds.length = 0) (hlen : h.keys.length ≤ 4611686018427387903) (k : Nat) (hk1 : k < 18446744073709551616) : RPlaceIs h k (half h.keys k 0 h.keys.length) := by
  rintro ⟨so, sc, ko, kc, vo, vc⟩ w hA
  have B0 := below_alloc w (.cells (hv h ⟨so, sc, ko, kc, vo, vc⟩) 25)
  have b0 := box_new w h ⟨so, sc, ko, kc, vo, vc⟩
  have hA1 := hA.later B0
  have f1 := hA.rk.fit
  have f2 := hA.rk.top
  have k0 := b0.c0
  have k1 := b0.c1
  have HK := (show Hid (∀ x ∈ h.keys, x < 18446744073709551616) from hA.dk)
  have H : Hid (Row (In (w.alloc (.cells (hv h ⟨so, sc, ko, kc, vo, vc⟩) 25))) (w.alloc (.cells (hv h ⟨so, sc, ko, kc, vo, vc⟩) 25)) qv ko kc h.keys) := hA1.rk
  generalize hr : half h.keys k 0 h.keys.length = r
  have HR : Hid (half h.keys k 0 h.keys.length = r) := hr
  have z : ((h.seeds.length : Int) == 0) = true := by rw [hs]; rfl
  clear hA hA1 hr
  go_enter Try.func20, Try.ntmps20
  go_wp2_with (fail)
  go_loopw [5, 6] (fun y z wr => ∃ a b : Nat, y = .int .i64 a ∧ z = .int .i64 b ∧ a ≤ b ∧ b ≤ h.keys.length ∧ half h.keys k a b = r ∧ wr = w.alloc (.cells (hv h ⟨so, sc, ko, kc, vo, vc⟩) 25)) (fun y z _ => (intOf z).toNat - (intOf y).toNat)
  case atStart => exact ⟨0, h.keys.length, rfl, rfl, by omega, by omega, HR.out, rfl⟩
  case round =>
    obtain ⟨a, b, rfl, rfl, hab, hb, he, rfl⟩ := hrel
    have HE : Hid (half h.keys k a b = r) := he
    clear he HR
    by_cases hlt : a < b
    · have hm : (a + b) / 2 < h.keys.length := by omega
      obtain ⟨bb, off, ho, hbb, hc⟩ := H.out.at hm
      have hx := getD_lt HK.out (by omega) ((a + b) / 2)
      generalize hg : h.keys.getD ((a + b) / 2) 0 = x at hc hx
      have HG : Hid (h.keys.getD ((a + b) / 2) 0 = x) := hg
      clear hg
      subst ho
      by_cases hxk : x < k
      · have hn : half h.keys k ((a + b) / 2 + 1) b = r := by rw [← half_up _ _ _ _ hlt (by rw [HG.out]; exact hxk)]; exact HE.out
        have HN : Hid (half h.keys k ((a + b) / 2 + 1) b = r) := hn
        clear hn HE
        go_wp2_with (fail)
        go_roundw
        case rel => exact ⟨(a + b) / 2 + 1, b, by congr 1, rfl, by omega, hb, HN.out, trivial⟩
        case measure => simp [intOf]; omega
      · have hn : half h.keys k a ((a + b) / 2) = r := by rw [← half_down _ _ _ _ hlt (by rw [HG.out]; exact hxk)]; exact HE.out
        have HN : Hid (half h.keys k a ((a + b) / 2) = r) := hn
        clear hn HE
        go_wp2_with (fail)
        go_roundw
        case rel => exact ⟨a, (a + b) / 2, rfl, by congr 1, by omega, by omega, HN.out, trivial⟩
        case measure => simp [intOf]; omega
    · go_wp2_with (fail)
      have hz := HE.out
      rw [half_end _ _ _ _ hlt] at hz
      go_ret
      exact ⟨by rw [← hz]; rfl, B0⟩
def RMixIs (s k m : Nat) : Prop := ∀ w, Calls Try.prog 11 #[.int .u32 (s : Int), .int .u64 (k : Int)] w fun e w' => e = .returned (.int .u64 (m : Int)) ∧ w' = w
def RMixIs0 (k m : Nat) : Prop := ∀ w, Calls Try.prog 11 #[.int .u32 0, .int .u64 (k : Int)] w fun e w' => e = .returned (.int .u64 (m : Int)) ∧ w' = w
theorem RMixIs.zero {s k m : Nat} (h : RMixIs s k m) (hs : s = 0) : RMixIs0 k m := by
  subst hs
  exact h
set_option maxHeartbeats 2000000 in
theorem rplace_seeds (h : Hh) (k q sd r m m2 : Nat) (hk1 : k < 18446744073709551616) (hn : 0 < h.keys.length) (hl : q < h.seeds.length) (hsd : h.seeds.getD q 0 = sd) (hm : m < 18446744073709551616) (hm2 : m2 < 18446744073709551616) (hq : m % h.seeds.length = q) (hr : m2 % h.keys.length = r) (ca : RMixIs0 k m) (cb : RMixIs sd k m2) : RPlaceIs h k r := by
  rintro ⟨so, sc, ko, kc, vo, vc⟩ w hA
  have B0 := below_alloc w (.cells (hv h ⟨so, sc, ko, kc, vo, vc⟩) 25)
  have b0 := box_new w h ⟨so, sc, ko, kc, vo, vc⟩
  have hA1 := hA.later B0
  have f1 := hA.rk.fit
  have f2 := hA.rk.top
  have g1 := hA.rs.fit
  have g2 := hA.rs.top
  have k0 := b0.c0
  have k1 := b0.c1
  obtain ⟨bb, off, ho, hbb, hc⟩ := hA1.rs.at hl
  have hx := getD_lt hA.ds (by omega) q
  rw [hsd] at hx hc
  unfold dv at hc
  have z : ((h.seeds.length : Int) == 0) = false := by rw [beq_eq_false_iff_ne]; omega
  have hrl := Nat.mod_lt m2 hn
  rw [hr] at hrl
  have e1 : (m : Int) % (h.seeds.length : Int) = (q : Int) := by rw [← hq]; simp
  have e2 : (m2 : Int) % (h.keys.length : Int) = (r : Int) := by rw [← hr]; simp
  clear hA hA1 hsd hq hr
  obtain rfl : so = _ := ho
  unfold RMixIs at cb
  go_enter Try.func20, Try.ntmps20
  go_wp2_with (fail)
  go_quiet ((go_at_call 11; exact Calls.quiet_of_same (ca _)))
  have B1 := below_drewN B0 nq
  have k3 : ((w.alloc (.cells (hv h ⟨some ⟨bb, off, none⟩, sc, ko, kc, vo, vc⟩) 25)).drewN nq).cell? ⟨w.heap.size, 1, none⟩ = some (.slice ko h.keys.length kc) := k1
  clear k0 k1 hc hbb b0
  generalize (w.alloc (.cells (hv h ⟨some ⟨bb, off, none⟩, sc, ko, kc, vo, vc⟩) 25)).drewN nq = W at *
  go_wp2_with (fail)
  go_quiet ((go_at_call 11; exact Calls.quiet_of_same (cb _)))
  go_wp2_with (fail)
  go_ret
  exact ⟨rfl, below_drewN B1 _⟩
theorem rplace_any (h : Hh) (hs1 : h.seeds.length ≤ 9223372036854775807) (hs2 : ∀ x ∈ h.seeds, x < 4294967296) (hn : 0 < h.keys.length) (hn2 : h.keys.length ≤ 4611686018427387903) (k : Nat) (hk1 : k < 18446744073709551616) : RPlaceIs h k (place h k) := by
  by_cases hs : h.seeds.length = 0
  · have e : place h k = half h.keys k 0 h.keys.length := by unfold place; rw [if_pos hs]
    rw [e]
    exact rplace_sorted h hs hn2 k hk1
  · have e : place h k = mix (h.seeds.getD (mix 0 k % h.seeds.length) 0) k % h.keys.length := by unfold place; rw [if_neg hs]
    rw [e]
    exact rplace_seeds h k _ _ _ _ _ hk1 hn (Nat.mod_lt _ (by omega)) rfl (mix_lt 0 k) (mix_lt _ k) rfl rfl (RMixIs.zero (s := 0) (fun w => rmix_any 0 k (by omega) hk1 w) rfl) (fun w => rmix_any _ k (getD_lt hs2 (by omega) _) hk1 w)

/-- what has been seen of the first i keys -/
def Seen (h : Hh) (i : Nat) : Prop := ∀ j, j < i → place h (h.keys.getD j 0) = j ∧ (h.seeds.length = 0 → 0 < j → h.keys.getD (j - 1) 0 < h.keys.getD j 0)
theorem Seen.all {h : Hh} (hs : Seen h h.keys.length) (h1 : h.keys.length ≤ 4096) (h2 : h.seeds.length ≤ 4096) (h3 : h.vals.length = h.keys.length) (hn : 0 < h.keys.length) : Good h :=
  ⟨h1, h2, h3, fun h0 i hi => by have := (hs (i + 1) hi).2 h0 (by omega); simpa using this, fun _ => ⟨hn, fun i hi => (hs i hi).1⟩⟩
theorem Good.home {h : Hh} (hg : Good h) : Home h := by
  by_cases hs : h.seeds.length = 0
  · exact (hg.2.2.2.1 hs).home hs
  · exact (hg.2.2.2.2 hs).2
def RRightIs (h : Hh) (r : Bool) : Prop := ∀ p w, HAt (In w) w h p → Calls Try.prog 13 #[.agg (hv h p)] w fun e w' => e = .returned (.bool r) ∧ Below w.heap.size w w'
set_option maxHeartbeats 16000000 in
theorem rright_any (h : Hh) (r : Bool) (hr : r = good h) : RRightIs h r := by
  intro p w hA
  have B0 := below_alloc w (.cells (hv h p) 25)
  have b0 := box_new w h p
  have hA1 := hA.later B0
  obtain ⟨g1, g2, g3⟩ := hA.len
  have k0 := b0.c0
  have k1 := b0.c1
  have k2 := b0.c2
  by_cases h1 : h.keys.length ≤ 4096 ∧ h.seeds.length ≤ 4096 ∧ h.vals.length = h.keys.length
  · obtain ⟨h1, h2, h3⟩ := h1
    have d1 : decide ((4096 : Int) < (h.keys.length : Int)) = false := by rw [decide_eq_false_iff_not]; omega
    have d2 : decide ((4096 : Int) < (h.seeds.length : Int)) = false := by rw [decide_eq_false_iff_not]; omega
    have d3 : ((h.vals.length : Int) != (h.keys.length : Int)) = false := by rw [h3]; simp
    by_cases hn : h.keys.length = 0
    · have d4 : ((h.keys.length : Int) == 0) = true := by rw [hn]; rfl
      have e2 : r = ((h.seeds.length : Int) == 0) := by
        rw [hr]
        by_cases hs : h.seeds.length = 0
        · rw [good_yes ⟨h1, h2, h3, fun _ i hi => by omega, fun hc => absurd hs hc⟩, hs]; rfl
        · rw [good_no (fun hG => by have := (hG.2.2.2.2 hs).1; omega)]
          symm; rw [beq_eq_false_iff_ne]; omega
      have HR : Hid (r = ((h.seeds.length : Int) == 0)) := e2
      clear e2 hr hA hA1
      go_enter Try.func13, Try.ntmps13
      go_wp2_with (fail)
      go_ret
      exact ⟨by rw [HR.out]; rfl, B0⟩
    · have d4 : ((h.keys.length : Int) == 0) = false := by rw [beq_eq_false_iff_ne]; omega
      have hn0 : 0 < h.keys.length := by omega
      have HB : Hid (Box (w.alloc (.cells (hv h p) 25)) w.heap.size h p) := b0
      have HX : Hid (HAt (In (w.alloc (.cells (hv h p) 25))) (w.alloc (.cells (hv h p) 25)) h p) := hA1
      have HR : Hid (r = good h) := hr
      clear hA hA1 hr b0
      go_enter Try.func13, Try.ntmps13
      go_wp2_with (fail)
      go_loopw [33] (fun y wr => ∃ i : Nat, y = .int .i64 (i : Int) ∧ i ≤ h.keys.length ∧ Seen h i ∧ Below (w.alloc (.cells (hv h p) 25)).heap.size (w.alloc (.cells (hv h p) 25)) wr) (fun y _ => h.keys.length - (intOf y).toNat)
      case atStart => exact ⟨0, rfl, by omega, fun j hj => by omega, Below.refl _ _⟩
      case round =>
        obtain ⟨i, rfl, hi2, hall, hB⟩ := hrel
        have HA : Hid (Seen h i) := hall
        clear hall
        by_cases hlt : i < h.keys.length
        · have bx := HB.out.later hB
          have hax := HX.out.later hB
          obtain ⟨bb, off, ho, hbb, hc⟩ := hax.rk.at hlt
          have hx := getD_lt hax.dk (by omega) i
          have c20 := rplace_any h (by omega) hax.ds hn0 (by omega) (h.keys.getD i 0) hx p wr hax
          have HY : Hid (∀ j x, i = j + 1 → h.keys.getD j 0 = x → wr.cell? ⟨bb, off + j, none⟩ = some (.int .u64 (x : Int)) ∧ x < 18446744073709551616) := fun j x ej ex => by
            obtain ⟨b2, off2, ho2, hb2, hc2⟩ := hax.rk.at (show j < h.keys.length by omega)
            rw [ho] at ho2
            simp at ho2
            obtain ⟨rfl, rfl⟩ := ho2
            rw [ex] at hc2
            exact ⟨hc2, by rw [← ex]; exact getD_lt hax.dk (by omega) j⟩
          generalize hg : h.keys.getD i 0 = x at *
          have HG : Hid (h.keys.getD i 0 = x) := hg
          clear hg hax
          have hle := place_le h x hn0
          generalize hg : place h x = q at *
          have HQ : Hid (place h x = q) := hg
          clear hg
          rw [ho]
          by_cases hq : q = i
          · subst hq
            have fq : ((q : Int) != (q : Int)) = false := by simp
            have HS : Hid ((h.seeds.length = 0 → 0 < q → h.keys.getD (q - 1) 0 < x) → Seen h (q + 1)) := fun hh j hj => by
              by_cases hjq : j < q
              · exact HA.out j hjq
              · obtain rfl : j = q := by omega
                rw [HG.out, HQ.out]
                exact ⟨rfl, hh⟩
            by_cases hs : h.seeds.length = 0
            · have z : ((h.seeds.length : Int) == 0) = true := by rw [hs]; rfl
              have HS0 : Hid (h.seeds.length = 0) := hs
              clear hs
              rcases Nat.eq_zero_or_pos q with e0 | e0
              · have d0 : decide ((0 : Int) < (q : Int)) = false := by rw [decide_eq_false_iff_not]; omega
                have d5 : decide (0 < q) = false := by rw [decide_eq_false_iff_not]; omega
                have hgo := HS.out (fun _ hc => absurd hc (by omega))
                have HGo : Hid (Seen h (q + 1)) := hgo
                clear e0
                clear hgo HS
                go_wp2_with (refine wpList_load_row rfl 25 (.tmp 1) rfl w.heap.size rfl 25 (hv h p) (0, 0) _ bx Try.underlying25 rfl info25 ?_)
                go_at_call 20
                refine c20.mono ?_
                rintro e w1 ⟨rfl, b1⟩
                have bx1 := bx.later b1
                have m0 := bx1.c0
                have m1 := bx1.c1
                clear bx c20 bx1
                go_wp2_with (fail)
                go_roundw
                case rel => exact ⟨q + 1, by go_num, by omega, HGo.out, hB.trans (b1.mono hB.size)⟩
                case measure => simp [intOf]; omega
              · obtain ⟨j, rfl⟩ : ∃ j, q = j + 1 := ⟨q - 1, by omega⟩
                obtain ⟨hcy, hy⟩ := HY.out j _ rfl rfl
                generalize hg : h.keys.getD j 0 = y at *
                have HJ : Hid (h.keys.getD j 0 = y) := hg
                clear hg
                have e1 : ((j + 1 : Nat) : Int) = (j : Int) + 1 := by omega
                rw [e1] at fq c20 ⊢
                clear e1
                have dj : decide ((0 : Int) < (j : Int) + 1) = true := by rw [decide_eq_true_iff]; omega
                have ew : IntKind.i64.wrap (j : Int) = (j : Int) := by exact IntWalk.i64_in _ ⟨by omega, by omega⟩
                by_cases hyx : y < x
                · have dy : decide ((x : Int) ≤ (y : Int)) = false := by rw [decide_eq_false_iff_not]; omega
                  have hgo := HS.out (fun _ _ => by rw [show j + 1 - 1 = j by omega, HJ.out]; exact hyx)
                  have HGo : Hid (Seen h (j + 1 + 1)) := hgo
                  clear hgo HS HY
                  go_wp2_with (refine wpList_load_row rfl 25 (.tmp 1) rfl w.heap.size rfl 25 (hv h p) (0, 0) _ bx Try.underlying25 rfl info25 ?_)
                  go_at_call 20
                  refine c20.mono ?_
                  rintro e w1 ⟨rfl, b1⟩
                  have bx1 := bx.later b1
                  have m0 := bx1.c0
                  have m1 := bx1.c1
                  rw [ho] at m1
                  have n1 := (b1.cell (p := ⟨bb, off + j, none⟩) hbb).trans hcy
                  clear bx c20 bx1
                  go_wp2_with (fail)
                  go_roundw
                  case rel => exact ⟨j + 1 + 1, by go_num, by omega, HGo.out, hB.trans (b1.mono hB.size)⟩
                  case measure => simp [intOf]; omega
                · have dy : decide ((x : Int) ≤ (y : Int)) = true := by rw [decide_eq_true_iff]; omega
                  have e2 : r = false := by
                    rw [HR.out]
                    refine good_no (fun hG => hyx ?_)
                    have := hG.2.2.2.1 HS0.out j hlt
                    rw [HG.out, HJ.out] at this
                    exact this
                  subst e2
                  clear HS HY
                  go_wp2_with (refine wpList_load_row rfl 25 (.tmp 1) rfl w.heap.size rfl 25 (hv h p) (0, 0) _ bx Try.underlying25 rfl info25 ?_)
                  go_at_call 20
                  refine c20.mono ?_
                  rintro e w1 ⟨rfl, b1⟩
                  have bx1 := bx.later b1
                  have m0 := bx1.c0
                  have m1 := bx1.c1
                  rw [ho] at m1
                  have n1 := (b1.cell (p := ⟨bb, off + j, none⟩) hbb).trans hcy
                  clear bx c20 bx1
                  go_wp2_with (fail)
                  go_ret
                  exact ⟨rfl, B0.trans ((hB.trans (b1.mono hB.size)).mono B0.size)⟩
            · have z : ((h.seeds.length : Int) == 0) = false := by rw [beq_eq_false_iff_ne]; omega
              have hgo := HS.out (fun hc => absurd hc hs)
              have HGo : Hid (Seen h (q + 1)) := hgo
              clear hgo HS HY
              go_wp2_with (refine wpList_load_row rfl 25 (.tmp 1) rfl w.heap.size rfl 25 (hv h p) (0, 0) _ bx Try.underlying25 rfl info25 ?_)
              go_at_call 20
              refine c20.mono ?_
              rintro e w1 ⟨rfl, b1⟩
              have bx1 := bx.later b1
              have m0 := bx1.c0
              have m1 := bx1.c1
              clear bx c20 bx1
              go_wp2_with (fail)
              go_roundw
              case rel => exact ⟨q + 1, by go_num, by omega, HGo.out, hB.trans (b1.mono hB.size)⟩
              case measure => simp [intOf]; omega
          · have fq : ((q : Int) != (i : Int)) = true := by simp; omega
            have e2 : r = false := by
              rw [HR.out]
              refine good_no (fun hG => hq ?_)
              have := hG.home i hlt
              rw [HG.out, HQ.out] at this
              exact this
            subst e2
            clear HY
            go_wp2_with (refine wpList_load_row rfl 25 (.tmp 1) rfl w.heap.size rfl 25 (hv h p) (0, 0) _ bx Try.underlying25 rfl info25 ?_)
            go_at_call 20
            refine c20.mono ?_
            rintro e w1 ⟨rfl, b1⟩
            have bx1 := bx.later b1
            have m0 := bx1.c0
            have m1 := bx1.c1
            clear bx c20 bx1
            go_wp2_with (fail)
            go_ret
            exact ⟨rfl, B0.trans ((hB.trans (b1.mono hB.size)).mono B0.size)⟩
        · have e2 : r = true := by
            rw [HR.out]
            have : i = h.keys.length := by omega
            subst this
            exact good_yes (HA.out.all h1 h2 h3 hn0)
          subst e2
          go_wp2_with (fail)
          go_ret
          exact ⟨rfl, chain B0 hB⟩
  · have e2 : r = false := by rw [hr]; exact good_no (fun hG => h1 ⟨hG.1, hG.2.1, hG.2.2.1⟩)
    subst e2
    clear hA hA1 hr
    by_cases c1 : h.keys.length ≤ 4096
    · have d1 : decide ((4096 : Int) < (h.keys.length : Int)) = false := by rw [decide_eq_false_iff_not]; omega
      by_cases c2 : h.vals.length = h.keys.length
      · have d3 : ((h.vals.length : Int) != (h.keys.length : Int)) = false := by rw [c2]; simp
        have d2 : decide ((4096 : Int) < (h.seeds.length : Int)) = true := by
          rw [decide_eq_true_iff]; exact Decidable.byContradiction fun hc => h1 ⟨c1, by omega, c2⟩
        clear h1
        go_enter Try.func13, Try.ntmps13
        go_wp2_with (fail)
        go_ret
        exact ⟨rfl, B0⟩
      · have d3 : ((h.vals.length : Int) != (h.keys.length : Int)) = true := by rw [bne_iff_ne]; omega
        clear h1
        go_enter Try.func13, Try.ntmps13
        go_wp2_with (fail)
        go_ret
        exact ⟨rfl, B0⟩
    · have d1 : decide ((4096 : Int) < (h.keys.length : Int)) = true := by rw [decide_eq_true_iff]; omega
      clear h1
      go_enter Try.func13, Try.ntmps13
      go_wp2_with (fail)
      go_ret
      exact ⟨rfl, B0⟩
end Go.Proofs.Ytfpkjgalokbkcaa.hs
