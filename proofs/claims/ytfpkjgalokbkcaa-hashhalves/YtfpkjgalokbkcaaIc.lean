/-
  Contracts over this program: notBelow, place, rise, allAtHome, Right, Get of package hash.
-/
import Derived.Test.YtfpkjgalokbkcaaIb
namespace Go.Proofs.Ytfpkjgalokbkcaa.hs
open Go.ChangeShapes Go.WideShapes Go.ChangeAt Go.RowKit
set_option linter.unusedVariables false

theorem load_if {P : Program} {ops : Array Oper} {rest : List Oper} {o : Oper} {a : Act} {w : World} {Q : Exit → Act → World → Prop} (hw : Region.wanted o (yielded ops a.tmps) = true) (ty : TypeId) (x : Operand) (ho : o.op = .load ty x)
    (g : Nat) (hx : a.eval x = .pointer (some ⟨g, 0, none⟩)) (t : TypeId) (cs : Array Value) (fr : Nat × Nat) (d : TypeDesc) (hg : w.heap[g]? = some (.cells cs t fr))
    (hu : P.underlying ty = some d) (hd : (match d with | .struct _ | .array _ _ => true | _ => false) = true) (hi : (P.info? ty).map (·.size) = some cs.size)
    (h : wpList P ops Q rest (a.put o.dst (.agg cs)) w) : wpList P ops Q (o :: rest) a w :=
  wpList_step fun K hK => by rw [if_pos hw]; exact wp_load_row ty x ho g hx t cs fr d hg hu hd hi (hK _ _ h)
set_option maxHeartbeats 2000000 in
theorem nb_any (ks : List Nat) (hk : ∀ x ∈ ks, x < 18446744073709551616) (k : Nat) (hk1 : k < 18446744073709551616) (o : Option Addr) (cap : Nat) (w : World) (h : Row (In w) w qv o cap ks) : Calls Try.prog 27 #[.slice o ks.length cap, .int .u64 (k : Int)] w fun e w' => e = .returned (.int .i64 ((half ks k 0 ks.length : Nat) : Int)) ∧ w' = w := by
  have f1 := h.fit
  have f2 := h.top
  have H : Hid (Row (In w) w qv o cap ks) := h
  have HK : Hid (∀ x ∈ ks, x < 18446744073709551616) := hk
  clear h hk
  generalize hr : half ks k 0 ks.length = r
  have HR : Hid (half ks k 0 ks.length = r) := hr
  clear hr
  go_enter Try.func27, Try.ntmps27
  go_wp2_with (fail)
  go_loopw [5, 6] (fun y z wr => ∃ a b : Nat, y = .int .i64 a ∧ z = .int .i64 b ∧ a ≤ b ∧ b ≤ ks.length ∧ half ks k a b = r ∧ wr = w) (fun y z _ => (intOf z).toNat - (intOf y).toNat)
  case atStart => exact ⟨0, ks.length, rfl, rfl, by omega, by omega, HR.out, rfl⟩
  case round =>
    obtain ⟨a, b, rfl, rfl, hab, hb, he, rfl⟩ := hrel
    have HE : Hid (half ks k a b = r) := he
    clear he HR
    by_cases hlt : a < b
    · have hm : (a + b) / 2 < ks.length := by omega
      have em : a + (b - a) / 2 = (a + b) / 2 := by omega
      obtain ⟨bb, off, ho, hbb, hc⟩ := H.out.at hm
      have hx := getD_lt HK.out (by omega) ((a + b) / 2)
      generalize hg : ks.getD ((a + b) / 2) 0 = x at hc hx
      have HG : Hid (ks.getD ((a + b) / 2) 0 = x) := hg
      clear hg
      subst ho
      by_cases hxk : x < k
      · have hn : half ks k ((a + b) / 2 + 1) b = r := by rw [← half_up _ _ _ _ hlt (by rw [HG.out]; exact hxk)]; exact HE.out
        have HN : Hid (half ks k ((a + b) / 2 + 1) b = r) := hn
        clear hn HE
        go_wp2_with (fail)
        go_roundw
        case rel => exact ⟨(a + b) / 2 + 1, b, by congr 1; omega, rfl, by omega, hb, HN.out, trivial⟩
        case measure => simp [intOf]; omega
      · have hn : half ks k a ((a + b) / 2) = r := by rw [← half_down _ _ _ _ hlt (by rw [HG.out]; exact hxk)]; exact HE.out
        have HN : Hid (half ks k a ((a + b) / 2) = r) := hn
        clear hn HE
        go_wp2_with (fail)
        go_roundw
        case rel => exact ⟨a, (a + b) / 2, rfl, by congr 1; omega, by omega, by omega, HN.out, trivial⟩
        case measure => simp [intOf]; omega
    · go_wp2_with (fail)
      have hz := HE.out
      rw [half_end _ _ _ _ hlt] at hz
      go_ret
      exact ⟨by rw [← hz]; rfl, rfl⟩

def PlaceIs (h : Hh) (k r : Nat) : Prop := ∀ p w, HAt (In w) w h p → Calls Try.prog 19 #[.agg (hv h p), .int .u64 (k : Int)] w fun e w' => e = .returned (.int .i64 (r : Int)) ∧ Below w.heap.size w w'
def SpotIs (s k n r : Nat) : Prop := ∀ w, Calls Try.prog 28 #[.int .u32 (s : Int), .int .u64 (k : Int), .int .i64 (n : Int)] w fun e w' => e = .returned (.int .i64 (r : Int)) ∧ w' = w
def SpotIs0 (k n r : Nat) : Prop := ∀ w, Calls Try.prog 28 #[.int .u32 0, .int .u64 (k : Int), .int .i64 (n : Int)] w fun e w' => e = .returned (.int .i64 (r : Int)) ∧ w' = w
theorem SpotIs.zero {s k n r : Nat} (h : SpotIs s k n r) (hs : s = 0) : SpotIs0 k n r := by
  subst hs
  exact h
set_option maxHeartbeats 2000000 in
theorem place_sorted (h : Hh) (hs : h.seeds.length = 0) (k : Nat) (hk1 : k < 18446744073709551616) : PlaceIs h k (half h.keys k 0 h.keys.length) := by
  intro p w hA
  have B0 := below_alloc w (.cells (hv h p) 25)
  have b0 := box_new w h p
  have hA1 := hA.later B0
  have f1 := hA.rk.fit
  have f2 := hA.rk.top
  have k0 := b0.c0
  have k1 := b0.c1
  have c27 := nb_any h.keys hA.dk k hk1 p.ko p.kc _ hA1.rk
  generalize half h.keys k 0 h.keys.length = r at *
  have z : ((h.seeds.length : Int) == 0) = true := by rw [hs]; rfl
  clear hA hA1
  go_enter Try.func19, Try.ntmps19
  go_wp2_with (go_at_call 27; refine c27.mono ?_; rintro e w1 ⟨rfl, h⟩; obtain rfl := h.symm)
  go_ret
  exact ⟨rfl, B0⟩
set_option maxHeartbeats 2000000 in
theorem place_seeds (h : Hh) (k q sd r : Nat) (hk1 : k < 18446744073709551616) (hl : q < h.seeds.length) (hsd : h.seeds.getD q 0 = sd) (ca : SpotIs0 k h.seeds.length q) (cb : SpotIs sd k h.keys.length r) : PlaceIs h k r := by
  rintro ⟨so, sc, ko, kc, vo, vc⟩ w hA
  have B0 := below_alloc w (.cells (hv h ⟨so, sc, ko, kc, vo, vc⟩) 25)
  have b0 := box_new w h ⟨so, sc, ko, kc, vo, vc⟩
  have hA1 := hA.later B0
  have f1 := hA.rk.fit
  have f2 := hA.rk.top
  have g1 := hA.rs.fit
  have g2 := hA.rs.top
  have k0 := b0.c0
  have k1 := b0.c1
  obtain ⟨bb, off, ho, hbb, hc⟩ := hA1.rs.at hl
  have hx := getD_lt hA.ds (by omega) q
  rw [hsd] at hx hc
  have z : ((h.seeds.length : Int) == 0) = false := by rw [beq_eq_false_iff_ne]; omega
  clear hA hA1 hsd
  obtain rfl : so = _ := ho
  unfold SpotIs at cb
  go_enter Try.func19, Try.ntmps19
  go_wp2_with (fail)
  go_quiet ((go_at_call 28; exact Calls.quiet_of_same (ca _)))
  go_wp2_with ((go_at_call 28; (with_reducible refine (cb _).mono ?_); rintro e w1 ⟨rfl, h⟩; obtain rfl := h.symm))
  go_ret
  exact ⟨rfl, below_drewN B0 _⟩
theorem place_any (h : Hh) (hs1 : h.seeds.length ≤ 9223372036854775807) (hs2 : ∀ x ∈ h.seeds, x < 4294967296) (hn : 0 < h.keys.length) (hn2 : h.keys.length ≤ 9223372036854775807) (k : Nat) (hk1 : k < 18446744073709551616) : PlaceIs h k (place h k) := by
  by_cases hs : h.seeds.length = 0
  · have e : place h k = half h.keys k 0 h.keys.length := by unfold place; rw [if_pos hs]
    rw [e]
    exact place_sorted h hs k hk1
  · have e : place h k = mix (h.seeds.getD (mix 0 k % h.seeds.length) 0) k % h.keys.length := by unfold place; rw [if_neg hs]
    rw [e]
    exact place_seeds h k _ _ _ hk1 (Nat.mod_lt _ (by omega)) rfl (SpotIs.zero (s := 0) (fun w => spot_any 0 k h.seeds.length (by omega) hk1 (by omega) hs1 w) rfl) (fun w => spot_any _ k h.keys.length (getD_lt hs2 (by omega) _) hk1 hn hn2 w)

set_option maxHeartbeats 2000000 in
theorem rise_any (ks : List Nat) (hk : ∀ x ∈ ks, x < 18446744073709551616) (r : Bool) (hr : r = true ↔ Rise ks) (o : Option Addr) (cap : Nat) (w : World) (h : Row (In w) w qv o cap ks) : Calls Try.prog 21 #[.slice o ks.length cap] w fun e w' => e = .returned (.bool r) ∧ Below w.heap.size w w' := by
  have f1 := h.fit
  have f2 := h.top
  have H : Hid (Row (In w) w qv o cap ks) := h
  have HK : Hid (∀ x ∈ ks, x < 18446744073709551616) := hk
  have HR : Hid (r = true ↔ Rise ks) := hr
  clear h hk hr
  go_enter Try.func21, Try.ntmps21
  go_wp2_with (fail)
  go_loopw [3] (fun y wr => ∃ i : Nat, y = .int .i64 (i : Int) ∧ 1 ≤ i ∧ (i ≤ ks.length ∨ i = 1) ∧ (∀ j, j + 1 < i → ks.getD j 0 < ks.getD (j + 1) 0) ∧ Below w.heap.size w wr) (fun y _ => ks.length - (intOf y).toNat)
  case atStart => exact ⟨1, rfl, by omega, .inr rfl, fun j hj => by omega, Below.refl _ _⟩
  case round =>
    obtain ⟨i, rfl, hi1, hi2, hall, hB⟩ := hrel
    have HA : Hid (∀ j, j + 1 < i → ks.getD j 0 < ks.getD (j + 1) 0) := hall
    clear hall
    by_cases hlt : i < ks.length
    · obtain ⟨q, rfl⟩ : ∃ q, i = q + 1 := ⟨i - 1, by omega⟩
      obtain ⟨bb, off, ho, hbb, hc⟩ := H.out.at hlt
      obtain ⟨b2, off2, ho2, hb2, hc2⟩ := H.out.at (show q < ks.length by omega)
      have e3 : bb = b2 ∧ off = off2 := by
        have := ho.symm.trans ho2
        simp at this
        exact this
      obtain ⟨rfl, rfl⟩ := e3
      subst ho
      have k1 := (hB.cell (p := ⟨bb, off + (q + 1), none⟩) hbb).trans hc
      have k2 := (hB.cell (p := ⟨bb, off + q, none⟩) hbb).trans hc2
      have hx := getD_lt HK.out (by omega) (q + 1)
      have hy := getD_lt HK.out (by omega) q
      generalize hg : ks.getD (q + 1) 0 = x at *
      generalize hg2 : ks.getD q 0 = y at *
      have HG : Hid (ks.getD (q + 1) 0 = x ∧ ks.getD q 0 = y) := ⟨hg, hg2⟩
      clear hg hg2 hc hc2 ho2
      have e1 : ((q + 1 : Nat) : Int) = (q : Int) + 1 := by omega
      rw [e1]
      by_cases hxy : x ≤ y
      · have e2 : r = false := by
          cases r with
          | false => rfl
          | true =>
            have := HR.out.1 rfl q hlt
            rw [HG.out.1, HG.out.2] at this
            omega
        subst e2
        go_wp2_with (fail)
        go_quiet (fail)
        go_wp2_with (fail)
        go_ret
        exact ⟨rfl, below_drewN hB _⟩
      · go_wp2_with (fail)
        go_quiet (fail)
        go_wp2_with (fail)
        go_roundw
        case rel =>
          refine ⟨q + 2, by congr 1, by omega, by omega, fun j hj => ?_, below_drewN hB _⟩
          by_cases hjq : j + 1 < q + 1
          · exact HA.out j hjq
          · obtain rfl : j = q := by omega
            rw [HG.out.1, HG.out.2]
            omega
        case measure => simp [intOf]; omega
    · have e2 : r = true := HR.out.2 (fun j hj => HA.out j (by omega))
      subst e2
      go_wp2_with (fail)
      go_ret
      exact ⟨rfl, hB⟩

set_option maxHeartbeats 2000000 in
theorem home_any (h : Hh) (hn : 0 < h.keys.length) (r : Bool) (hr : r = true ↔ Home h) (p : Hp) (w : World) (hA : HAt (In w) w h p) : Calls Try.prog 22 #[.agg (hv h p)] w fun e w' => e = .returned (.bool r) ∧ Below w.heap.size w w' := by
  have B0 := below_alloc w (.cells (hv h p) 25)
  have b0 := box_new w h p
  have hA1 := hA.later B0
  have f1 := hA.rk.fit
  have f2 := hA.rk.top
  have k1 := b0.c1
  have HB : Hid (Box (w.alloc (.cells (hv h p) 25)) w.heap.size h p) := b0
  have HX : Hid (HAt (In (w.alloc (.cells (hv h p) 25))) (w.alloc (.cells (hv h p) 25)) h p) := hA1
  have HR : Hid (r = true ↔ Home h) := hr
  clear hA hA1 hr b0
  go_enter Try.func22, Try.ntmps22
  go_wp2_with (fail)
  go_loopw [8] (fun y wr => ∃ i : Nat, y = .int .i64 (i : Int) ∧ i ≤ h.keys.length ∧ (∀ j, j < i → place h (h.keys.getD j 0) = j) ∧ Below (w.alloc (.cells (hv h p) 25)).heap.size (w.alloc (.cells (hv h p) 25)) wr) (fun y _ => h.keys.length - (intOf y).toNat)
  case atStart => exact ⟨0, rfl, by omega, fun j hj => by omega, Below.refl _ _⟩
  case round =>
    obtain ⟨i, rfl, hi2, hall, hB⟩ := hrel
    have HA : Hid (∀ j, j < i → place h (h.keys.getD j 0) = j) := hall
    clear hall
    by_cases hlt : i < h.keys.length
    · have bx := HB.out.later hB
      have hax := HX.out.later hB
      obtain ⟨bb, off, ho, hbb, hc⟩ := hax.rk.at hlt
      have hx := getD_lt hax.dk (by omega) i
      have c19 := place_any h (by have := hax.rs.fit; have := hax.rs.top; omega) hax.ds hn (by omega) (h.keys.getD i 0) hx p wr hax
      generalize hg : h.keys.getD i 0 = x at *
      have HG : Hid (h.keys.getD i 0 = x) := hg
      clear hg hax
      have hle := place_le h x hn
      generalize hg : place h x = q at *
      have HQ : Hid (place h x = q) := hg
      clear hg
      have HO : Hid (p.ko = some ⟨bb, off, none⟩) := ho
      rw [ho]
      by_cases hq : q = i
      · subst hq
        have fq : ((q : Int) != (q : Int)) = false := by simp
        go_wp2_with (first | (refine wpList_load_row rfl 25 (.tmp 1) rfl w.heap.size rfl 25 (hv h p) (0, 0) _ bx Try.underlying25 rfl info25 ?_) | (go_at_call 19; refine c19.mono ?_; rintro e w1 ⟨rfl, b1⟩))
        go_roundw
        case rel =>
          refine ⟨q + 1, by go_num, by omega, fun j hj => ?_, hB.trans (b1.mono hB.size)⟩
          by_cases hjq : j < q
          · exact HA.out j hjq
          · obtain rfl : j = q := by omega
            rw [HG.out, HQ.out]
        case measure => simp [intOf]; omega
      · have fq : ((q : Int) != (i : Int)) = true := by simp; omega
        have e2 : r = false := by
          cases r with
          | false => rfl
          | true =>
            have := HR.out.1 rfl i hlt
            rw [HG.out, HQ.out] at this
            exact absurd this hq
        subst e2
        go_wp2_with (first | (refine wpList_load_row rfl 25 (.tmp 1) rfl w.heap.size rfl 25 (hv h p) (0, 0) _ bx Try.underlying25 rfl info25 ?_) | (go_at_call 19; refine c19.mono ?_; rintro e w1 ⟨rfl, b1⟩))
        go_ret
        exact ⟨rfl, B0.trans ((hB.trans (b1.mono hB.size)).mono B0.size)⟩
    · have e2 : r = true := HR.out.2 (fun j hj => HA.out j (by omega))
      subst e2
      go_wp2_with (fail)
      go_ret
      exact ⟨rfl, chain B0 hB⟩

/-- how long its rows are -/
theorem HAt.len {P : Nat → Prop} {w : World} {h : Hh} {p : Hp} (hA : HAt P w h p) : h.seeds.length ≤ 9223372036854775807 ∧ h.keys.length ≤ 9223372036854775807 ∧ h.vals.length ≤ 9223372036854775807 := by
  have h1 := hA.rs.fit
  have h2 := hA.rs.top
  have h3 := hA.rk.fit
  have h4 := hA.rk.top
  have h5 := hA.rv.fit
  have h6 := hA.rv.top
  exact ⟨by omega, by omega, by omega⟩
def RightIs (h : Hh) (r : Bool) : Prop := ∀ p w, HAt (In w) w h p → Calls Try.prog 12 #[.agg (hv h p)] w fun e w' => e = .returned (.bool r) ∧ Below w.heap.size w w'
set_option maxHeartbeats 2000000 in
theorem right_any (h : Hh) (r : Bool) (hr : r = good h) : RightIs h r := by
  intro p w hA
  have B0 := below_alloc w (.cells (hv h p) 25)
  have b0 := box_new w h p
  have hA1 := hA.later B0
  obtain ⟨g1, g2, g3⟩ := hA.len
  have k0 := b0.c0
  have k1 := b0.c1
  have k2 := b0.c2
  by_cases h1 : h.keys.length ≤ 4096 ∧ h.seeds.length ≤ 4096 ∧ h.vals.length = h.keys.length
  · obtain ⟨h1, h2, h3⟩ := h1
    have d1 : decide ((4096 : Int) < (h.keys.length : Int)) = false := by rw [decide_eq_false_iff_not]; omega
    have d2 : decide ((4096 : Int) < (h.seeds.length : Int)) = false := by rw [decide_eq_false_iff_not]; omega
    have d3 : ((h.vals.length : Int) != (h.keys.length : Int)) = false := by rw [h3]; simp
    by_cases hs : h.seeds.length = 0
    · have z : ((h.seeds.length : Int) == 0) = true := by rw [hs]; rfl
      have c21 := rise_any h.keys hA.dk r (by
        rw [hr]
        constructor
        · intro hg
          by_cases hG : Good h
          · exact hG.2.2.2.1 hs
          · rw [good_no hG] at hg; cases hg
        · intro hR
          exact good_yes ⟨h1, h2, h3, fun _ => hR, fun hc => absurd hs hc⟩) p.ko p.kc _ hA1.rk
      clear hA hA1 hr
      go_enter Try.func12, Try.ntmps12
      go_wp2_with (go_at_call 21; refine c21.mono ?_; rintro e w1 ⟨rfl, b1⟩)
      go_ret
      exact ⟨rfl, chain B0 b1⟩
    · have z : ((h.seeds.length : Int) == 0) = false := by rw [beq_eq_false_iff_ne]; omega
      by_cases hn : 0 < h.keys.length
      · have d4 : decide ((0 : Int) < (h.keys.length : Int)) = true := by rw [decide_eq_true_iff]; omega
        have c22 := home_any h hn r (by
          rw [hr]
          constructor
          · intro hg
            by_cases hG : Good h
            · exact (hG.2.2.2.2 hs).2
            · rw [good_no hG] at hg; cases hg
          · intro hR
            exact good_yes ⟨h1, h2, h3, fun hc => absurd hc hs, fun _ => ⟨hn, hR⟩⟩) p _ hA1
        clear hA hA1 hr
        go_enter Try.func12, Try.ntmps12
        go_wp2_with (first | (refine load_if (by kernel_rfl) 25 (.tmp 1) rfl w.heap.size rfl 25 (hv h p) (0, 0) _ b0 Try.underlying25 rfl info25 ?_) | (go_at_call 22; refine c22.mono ?_; rintro e w1 ⟨rfl, b1⟩))
        go_ret
        exact ⟨rfl, chain B0 b1⟩
      · have d4 : decide ((0 : Int) < (h.keys.length : Int)) = false := by rw [decide_eq_false_iff_not]; omega
        have e2 : r = false := by rw [hr]; exact good_no (fun hG => hn (hG.2.2.2.2 hs).1)
        subst e2
        clear hA hA1 hr
        go_enter Try.func12, Try.ntmps12
        go_wp2_with (fail)
        go_ret
        exact ⟨rfl, B0⟩
  · have e2 : r = false := by rw [hr]; exact good_no (fun hG => h1 ⟨hG.1, hG.2.1, hG.2.2.1⟩)
    subst e2
    clear hA hA1 hr
    by_cases c1 : h.keys.length ≤ 4096
    · have d1 : decide ((4096 : Int) < (h.keys.length : Int)) = false := by rw [decide_eq_false_iff_not]; omega
      by_cases c2 : h.seeds.length ≤ 4096
      · have d2 : decide ((4096 : Int) < (h.seeds.length : Int)) = false := by rw [decide_eq_false_iff_not]; omega
        have d3 : ((h.vals.length : Int) != (h.keys.length : Int)) = true := by
          rw [bne_iff_ne]; intro hc; exact h1 ⟨c1, c2, by omega⟩
        clear h1
        go_enter Try.func12, Try.ntmps12
        go_wp2_with (fail)
        go_ret
        exact ⟨rfl, B0⟩
      · have d2 : decide ((4096 : Int) < (h.seeds.length : Int)) = true := by rw [decide_eq_true_iff]; omega
        clear h1
        go_enter Try.func12, Try.ntmps12
        go_wp2_with (fail)
        go_ret
        exact ⟨rfl, B0⟩
    · have d1 : decide ((4096 : Int) < (h.keys.length : Int)) = true := by rw [decide_eq_true_iff]; omega
      clear h1
      go_enter Try.func12, Try.ntmps12
      go_wp2_with (fail)
      go_ret
      exact ⟨rfl, B0⟩
end Go.Proofs.Ytfpkjgalokbkcaa.hs
