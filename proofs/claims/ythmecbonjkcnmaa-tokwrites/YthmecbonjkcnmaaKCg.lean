/-
  Contracts over this program: passes in memory; rightPasses, rightSplit.
-/
import Derived.Test.YthmecbonjkcnmaaKCe
import Derived.Test.YthmecbonjkcnmaaKUm
import Derived.Test.YthmecbonjkcnmaaKMb
namespace Go.Proofs.Ythmecbonjkcnmaa.cf
open Go.ChangeShapes Go.WideShapes Go.ChangeAt Go.RowKit
open st (Tr Q4 nodesOf goods okNode nthT Is UpIs)
open ru (Ru rightE growN Rus)
open mg (chain below_alloc)
set_option linter.unusedVariables false

/-- passes that are read -/
structure Pss (w : World) (o : Option Addr) (cap : Nat) (l : List (List Ru)) : Prop where
  fit : l.length ≤ cap
  top : cap ≤ 9223372036854775807
  lie : ∀ i, i < l.length → ∃ b off v, o = some ⟨b, off, none⟩ ∧ b < w.heap.size ∧ w.cell? ⟨b, off + i, none⟩ = some v ∧ Rus w v (nthP l i)
theorem Pss.later {w w' : World} {o : Option Addr} {cap : Nat} {l : List (List Ru)} (h : Pss w o cap l) (b : Below w.heap.size w w') : Pss w' o cap l :=
  ⟨h.fit, h.top, fun i hi => by
    obtain ⟨g, off, v, e, hg, hc, hr⟩ := h.lie i hi
    exact ⟨g, off, v, e, Nat.lt_of_lt_of_le hg b.size, (b.cell (p := ⟨g, off + i, none⟩) hg).trans hc, hr.below b⟩⟩
theorem grN_of {p : List Ru} (h : rightE p = 0) : ru.grN p = growN 1 p := by unfold ru.grN; rw [if_pos (ru.rightE_zero h)]
theorem passE_long {l : List (List Ru)} (h : 4 < l.length) : passE l = 172 := by unfold passE; rw [if_pos h]
theorem passE_bad {l : List (List Ru)} (h : ¬ 4 < l.length) {i : Nat} (hi : i < l.length) (h0 : ∀ j, j < i → rightE (nthP l j) = 0) (hn : rightE (nthP l i) ≠ 0) : passE l = rightE (nthP l i) := by
  have e := first_at l i hi h0 hn
  unfold passE
  rw [if_neg h, e, if_pos hn]
theorem passE_end {l : List (List Ru)} (h : ¬ 4 < l.length) (h0 : ∀ j, j < l.length → rightE (nthP l j) = 0) : passE l = if 32 < grs 1 l then 172 else 0 := by
  have e := first_all l h0
  unfold passE
  rw [if_neg h, e, if_neg (by simp)]

set_option maxHeartbeats 1000000 in
set_option maxRecDepth 100000 in
theorem passes_any (l : List (List Ru)) (o : Option Addr) (cap : Nat) (w : World) (hv : Pss w o cap l) (r : Nat) (hr : r = passE l) : Calls Try.prog 22 #[.slice o l.length cap] w fun e w' => e = .returned (.int .i64 (r : Int)) ∧ Below w.heap.size w w' := by
  have f1 := hv.fit
  have f2 := hv.top
  have HV := (show Hid (Pss w o cap l) from hv)
  clear hv
  by_cases hlong : 4 < l.length
  · obtain rfl : r = 172 := by rw [hr, passE_long hlong]
    clear hr HV
    go_enter Try.func22, Try.ntmps22
    go_wp2_with (fail)
    go_ret
    exact ⟨rfl, Below.refl _ _⟩
  · have hl : l.length ≤ 4 := by omega
    have HR := (show Hid (r = passE l) from hr)
    clear hr
    go_enter Try.func22, Try.ntmps22
    go_wp2_with (fail)
    go_loopw [3, 13] (fun u y wr => ∃ (i n : Nat), u = .int .i64 n ∧ y = .int .i64 i ∧ i ≤ l.length ∧ n ≤ 32 ^ i ∧ Below w.heap.size w wr ∧ Hid (n = grs 1 (l.take i) ∧ ∀ j, j < i → rightE (nthP l j) = 0)) (fun _ y _ => l.length - (intOf y).toNat)
    case atStart => exact ⟨0, 1, rfl, rfl, by omega, by omega, Below.refl _ _, ⟨rfl, fun j hj => by omega⟩⟩
    case round =>
      obtain ⟨i, n, rfl, rfl, hil, hn, hB, HU⟩ := hrel
      by_cases hend : i < l.length
      · obtain ⟨b, off, v, rfl, hb, hc, hrus⟩ := HV.out.lie i hend
        have k1 := (hB.cell (p := ⟨b, off + i, none⟩) hb).trans hc
        have hcall := ru.gr_any (nthP l i) _ rfl v wr (hrus.below hB)
        by_cases h0 : rightE (nthP l i) = 0
        · have hg := grow_le h0
          have e1 := grN_of h0
          have hi3 : i ≤ 3 := by omega
          have ht := times_le hi3 hn hg.2
          have HJ := (show Hid (n * growN 1 (nthP l i) = grs 1 (l.take (i + 1)) ∧ ∀ j, j < i + 1 → rightE (nthP l j) = 0) from ⟨by rw [grs_take l i hend, ← HU.out.1], fun j hj => by
            by_cases e : j = i
            · rw [e]; exact h0
            · exact HU.out.2 j (by omega)⟩)
          rw [h0, e1] at hcall
          have hpow : n * growN 1 (nthP l i) ≤ 1048576 := Nat.le_trans ht (by
            have : 32 ^ (i + 1) ≤ 32 ^ 4 := Nat.pow_le_pow_right (by omega) (by omega)
            exact this)
          obtain ⟨x, hx⟩ : ∃ x, x = n * growN 1 (nthP l i) := ⟨_, rfl⟩
          have hxi : (n : Int) * ((growN 1 (nthP l i) : Nat) : Int) = (x : Int) := by rw [hx, Int.natCast_mul]
          rw [← hx] at HJ ht hpow
          clear HR HV HU h0 e1 hc hrus hx
          generalize growN 1 (nthP l i) = g at *
          go_wp2_with (go_at_call 35; refine hcall.mono ?_; rintro e w2 ⟨rfl, b2⟩)
          go_roundw
          case rel => exact ⟨i + 1, x, by go_num, by go_num, by omega, ht, chain hB b2, HJ.out⟩
          case measure => simp [intOf]; omega
        · have HE := (show Hid (r = rightE (nthP l i)) from by
            show r = _
            rw [HR.out]; exact passE_bad hlong hend HU.out.2 h0)
          have hne : ((rightE (nthP l i) : Nat) : Int) ≠ 0 := by omega
          clear HR HV HU hc hrus
          generalize rightE (nthP l i) = x at *
          generalize ru.grN (nthP l i) = g at *
          obtain rfl : r = x := HE.out
          have hnb : (((r : Nat) : Int) == 0) = false := beq_eq_false_iff_ne.2 hne
          go_wp2_with (go_at_call 35; refine hcall.mono ?_; rintro e w2 ⟨rfl, b2⟩)
          go_ret
          exact ⟨rfl, chain hB b2⟩
      · have HE := (show Hid (r = if 32 < n then 172 else 0) from by
          have e : i = l.length := by omega
          have h := HU.out
          rw [e, List.take_length] at h
          show r = _
          rw [HR.out, passE_end hlong h.2, h.1])
        have hn2 : n ≤ 1048576 := Nat.le_trans hn (by
          have : 32 ^ i ≤ 32 ^ 4 := Nat.pow_le_pow_right (by omega) (by omega)
          exact this)
        clear HR HU HV hn
        by_cases h32 : 32 < n
        · obtain rfl : r = 172 := by rw [HE.out, if_pos h32]
          clear HE
          go_wp2_with (fail)
          go_ret
          exact ⟨rfl, hB⟩
        · obtain rfl : r = 0 := by rw [HE.out, if_neg h32]
          clear HE
          go_wp2_with (fail)
          go_ret
          exact ⟨rfl, hB⟩
theorem re_eq (t : Tr) : st.rightN t = reE t := rfl
theorem reE_good {t : Tr} (h : reE t = 0) : t.good = true ∧ t.nodes ≤ 512 := by
  unfold reE at h
  split at h
  · next k =>
    refine ⟨?_, k.2⟩
    cases hg : t.good
    · rw [hg] at h; simp at h
    · rfl
  · simp at h
set_option maxHeartbeats 1000000 in
set_option maxRecDepth 100000 in
theorem split_any (t : Tr) (r : Nat) (hr : r = splitE t) : st.RightIs 23 t r := by
  intro v w hi
  have HC1 := (show Hid _ from st.right_is t _ rfl)
  have HI := (show Hid _ from hi)
  obtain ⟨o, cp, b, off, vs, rfl, hcap, hk⟩ := hi.form
  obtain ⟨w1, HW1⟩ : ∃ w1, Hid (w1 = w.alloc (.cells #[.int .i64 t.kind, .int .u64 t.set.a, .int .u64 t.set.b, .int .u64 t.set.c, .int .u64 t.set.d, .int .i64 t.min, .int .i64 t.max, .slice o t.kids.length cp] 29)) := ⟨_, rfl⟩
  have hb1 : Below w.heap.size w w1 := by rw [HW1.out]; exact below_alloc _ _
  have hbx : st.Box w1 w.heap.size t (.slice o t.kids.length cp) := by rw [HW1.out]; exact st.box_new w t _
  have hc1 := HC1.out _ w1 (hi.later hb1)
  rw [re_eq] at hc1
  by_cases h0 : reE t = 0
  · obtain ⟨hg, hno⟩ := reE_good h0
    obtain ⟨m, hm⟩ : ∃ m, m = Min.min (szT t) 1001 := ⟨_, rfl⟩
    have HC2 := (show Hid (∀ w2, Below w1.heap.size w1 w2 → Calls Try.prog 37 #[.agg #[.int .i64 t.kind, .int .u64 t.set.a, .int .u64 t.set.b, .int .u64 t.set.c, .int .u64 t.set.d, .int .i64 t.min, .int .i64 t.max, .slice o t.kids.length cp]] w2 fun e w' => e = .returned (.int .i64 (m : Int)) ∧ Below w2.heap.size w2 w') from fun w2 b2 => sz_any t.depth t m (Nat.le_refl _) hg hno hm _ w2 _ (hi.later (chain hb1 b2)))
    have HBX := (show Hid (∀ w2, Below w1.heap.size w1 w2 → _) from fun w2 b2 => (hbx.below b2).cells)
    have hE : r = if 1000 < m then 172 else 0 := by
      rw [hr]; unfold splitE
      rw [if_neg (by omega)]
      by_cases h : 1000 < szT t
      · rw [if_pos h, if_pos (by omega)]
      · rw [if_neg h, if_neg (by omega)]
    rw [h0] at hc1
    obtain ⟨c0, c1, c2, c3, c4, c5, c6, c7⟩ := hbx.cells
    have hm2 : m ≤ 1001 := by omega
    clear hr hi hk h0 hg hno hm hbx HI HC1
    generalize t.kind = k at *
    generalize t.set = q at *
    generalize t.min = mn at *
    generalize t.max = mx at *
    generalize t.kids.length = ln at *
    by_cases h1 : 1000 < m
    · obtain rfl : r = 172 := by rw [hE, if_pos h1]
      clear hE
      go_enter Try.func23, Try.ntmps23
      go_wp2_with (first | (go_at_call 36; rw [← HW1.out]; refine hc1.mono ?_; rintro e w2 ⟨rfl, b2⟩; obtain ⟨d0, d1, d2, d3, d4, d5, d6, d7⟩ := HBX.out w2 b2) | (go_at_call 37; refine (HC2.out _ b2).mono ?_; rintro e w3 ⟨rfl, b3⟩))
      go_ret
      exact ⟨rfl, chain hb1 (chain b2 b3)⟩
    · obtain rfl : r = 0 := by rw [hE, if_neg h1]
      clear hE
      go_enter Try.func23, Try.ntmps23
      go_wp2_with (first | (go_at_call 36; rw [← HW1.out]; refine hc1.mono ?_; rintro e w2 ⟨rfl, b2⟩; obtain ⟨d0, d1, d2, d3, d4, d5, d6, d7⟩ := HBX.out w2 b2) | (go_at_call 37; refine (HC2.out _ b2).mono ?_; rintro e w3 ⟨rfl, b3⟩))
      go_ret
      exact ⟨rfl, chain hb1 (chain b2 b3)⟩
  · have hE : r = reE t := by rw [hr]; unfold splitE; rw [if_pos h0]
    have hne : ((reE t : Nat) : Int) ≠ 0 := by omega
    obtain ⟨c0, c1, c2, c3, c4, c5, c6, c7⟩ := hbx.cells
    clear hr hi hk hbx HI HC1 h0
    subst hE
    generalize reE t = r at *
    have hnb : (((r : Nat) : Int) == 0) = false := beq_eq_false_iff_ne.2 hne
    generalize t.kind = k at *
    generalize t.set = q at *
    generalize t.min = mn at *
    generalize t.max = mx at *
    generalize t.kids.length = ln at *
    go_enter Try.func23, Try.ntmps23
    go_wp2_with (go_at_call 36; rw [← HW1.out]; refine hc1.mono ?_; rintro e w2 ⟨rfl, b2⟩)
    go_ret
    exact ⟨rfl, chain hb1 b2⟩
end Go.Proofs.Ythmecbonjkcnmaa.cf
