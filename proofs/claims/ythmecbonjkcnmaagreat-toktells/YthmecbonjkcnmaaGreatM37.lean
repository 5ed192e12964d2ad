/-
  Texts put together: Contracts over this program: fretsawlaw18's little; tok.check, tok.Normal and tok.Tok at texts that are too long; fretsawref18's Normal. Contracts over this program: tok.check, tok.Normal and tok.Tok where a text is refused; fretsawref18's Normal.
-/
import Derived.Test.YthmecbonjkcnmaaGreatM32
import Derived.Test.YthmecbonjkcnmaaGreatKUn
import Derived.Test.YthmecbonjkcnmaaGreatM36
namespace Go.Proofs.YthmecbonjkcnmaaGreat.tk
open Go.ChangeShapes Go.WideShapes Go.ChangeAt Go.RowKit
open ru (Ru rightE growN Rus apT apE Good)
open cf (Cf Cp cv CfAt CBox cfE cbox_new nthP grs)
open st (Tr Is)
set_option linter.unusedVariables false
set_option maxRecDepth 100000

/-- what is left of a number behind the passes -/
def lit : List (List Ru) → Nat → Nat
  | [], n => n
  | p :: l, n => lit l (if rightE p = 0 then n / growN 1 p else n)
theorem lit_le : ∀ (l : List (List Ru)) (n : Nat), lit l n ≤ n
  | [], n => Nat.le_refl _
  | p :: l, n => by
    rw [lit]
    refine Nat.le_trans (lit_le l _) ?_
    split
    · exact Nat.div_le_self _ _
    · exact Nat.le_refl _
theorem lit_mul : ∀ (l : List (List Ru)) (n : Nat), (∀ p ∈ l, rightE p = 0) → grs 1 l * lit l n ≤ n
  | [], n, _ => by show 1 * n ≤ n; omega
  | p :: l, n, h => by
    have h1 : grs 1 (p :: l) = growN 1 p * grs 1 l := by
      show grs (1 * growN 1 p) l = _
      rw [grs_mul, Nat.one_mul]
    rw [lit, if_pos (h p (by simp)), h1, Nat.mul_assoc]
    have h2 := lit_mul l (n / growN 1 p) fun q hq => h q (by simp [hq])
    exact Nat.le_trans (Nat.mul_le_mul_left _ h2) (Nat.mul_div_le _ _)
theorem lit_step (l : List (List Ru)) (i n : Nat) (h : i < l.length) : lit (l.drop i) n = lit (l.drop (i + 1)) (if rightE (nthP l i) = 0 then n / growN 1 (nthP l i) else n) := by
  rw [drop_step h]
  rfl
def little (c : Cf) : Nat := if 9 ≤ c.t.depth then 0 else if 100 < c.t.nodes ∧ 10 < lit c.ps 60 then 10 else lit c.ps 60
theorem little_le (c : Cf) : little c ≤ lit c.ps 60 ∧ little c ≤ 60 := by
  have := lit_le c.ps 60
  unfold little
  split
  · omega
  · split <;> omega
theorem cut_le (s : ByteArray) (n : Nat) : (cutN s n).size ≤ n := cutN_size s n
theorem nrm_sixty {c : Cf} (h : cfE c = 0) (s : ByteArray) : (nrm c.ps (cutN s (little c))).size ≤ 60 := by
  have hl := little_le c
  have hc := cut_le s (little c)
  have h1 := nrm_le (fit_of h (Nat.le_trans hc (by omega))) (passes_ok h).2.1
  refine Nat.le_trans h1 (Nat.le_trans (Nat.mul_le_mul_left _ (Nat.le_trans hc hl.1)) (lit_mul c.ps 60 ?_))
  intro p hp
  have h2 : cf.firstE c.ps = 0 := by
    have h3 := h
    rw [cf.cfE_eq] at h3
    have hp : cf.passE c.ps = 0 := by
      by_cases e : cf.passE c.ps = 0
      · exact e
      · rw [if_pos e] at h3; exact h3
    unfold cf.passE at hp
    split at hp
    · cases hp
    · split at hp
      · rename_i e; exact absurd hp e
      · rename_i e; exact Decidable.not_not.1 e
  exact firstE_mem h2 p hp
theorem nrm_none {c : Cf} (h : cfE c = 0) (s : ByteArray) (hd : 9 ≤ c.t.depth) : (nrm c.ps (cutN s (little c))).size = 0 := by
  have hc := cut_le s (little c)
  have e : little c = 0 := by unfold little; rw [if_pos hd]
  rw [e] at hc
  have h1 := nrm_le (fit_of h (Nat.le_trans hc (by omega))) (passes_ok h).2.1
  rw [e]
  have : cf.grs 1 c.ps * (cutN s 0).size = 0 := by rw [Nat.le_zero.1 hc, Nat.mul_zero]
  omega
theorem tree_of {w : World} {g : Nat} {c : Cf} {p : Cp} (h : CBox w g c p) : w.cell? ⟨g, 1, none⟩ = some (.int .i64 c.t.kind) ∧ w.cell? ⟨g, 2, none⟩ = some (.int .u64 c.t.set.a) ∧ w.cell? ⟨g, 3, none⟩ = some (.int .u64 c.t.set.b) ∧ w.cell? ⟨g, 4, none⟩ = some (.int .u64 c.t.set.c) ∧ w.cell? ⟨g, 5, none⟩ = some (.int .u64 c.t.set.d) ∧ w.cell? ⟨g, 6, none⟩ = some (.int .i64 c.t.min) ∧ w.cell? ⟨g, 7, none⟩ = some (.int .i64 c.t.max) ∧ w.cell? ⟨g, 8, none⟩ = some (.slice p.ko c.t.kids.length p.kc) := h.tree
set_option maxHeartbeats 4000000 in
theorem little_any (c : Cf) (p : Cp) (s : ByteArray) (hs : s.size ≤ 140737488351232) (w : World) (hv : CfAt w c p) : Calls Tryz.prog 7 #[.agg (cv c p), .string s] w fun e w' => e = .returned (.string (cutN s (little c))) ∧ Below w.heap.size w w' := by
  obtain ⟨wA, hwA⟩ : ∃ wA, wA = w.alloc (.cells (cv c p) 34) := ⟨_, rfl⟩
  have B0 : Below w.heap.size w wA := by rw [hwA]; exact below_alloc w _
  have hX0 : (w.alloc (.cells (cv c p) 34)).heap[w.heap.size]? = some (.cells (cv c p) 34 (0, 0)) := cbox_new w c p
  have HX := (show Hid (CBox wA w.heap.size c p) from by rw [hwA]; exact cbox_new w c p)
  have HC := (show Hid (CfAt wA c p) from hv.later B0)
  have HB0 := (show Hid (Below w.heap.size w wA) from B0)
  have k0 := HX.out.c0
  have f1 := hv.ps.fit
  have f2 := hv.ps.top
  obtain ⟨nd, hnd⟩ : ∃ nd, nd = Min.min c.t.nodes 101 := ⟨_, rfl⟩
  obtain ⟨dd, hdd⟩ : ∃ dd, dd = Min.min c.t.depth 9 := ⟨_, rfl⟩
  have H19 := (show Hid _ from st.nodes_any c.t.depth c.t 101 nd (Nat.le_refl _) (by decide) (by decide) hnd)
  have H20 := (show Hid _ from st.deep_any c.t.depth c.t 9 dd (Nat.le_refl _) (by decide) (by decide) hdd)
  have HND := (show Hid (nd = Min.min c.t.nodes 101) from hnd)
  have HDD := (show Hid (dd = Min.min c.t.depth 9) from hdd)
  have hnd2 : nd ≤ 101 := by omega
  have hdd2 : dd ≤ 9 := by omega
  clear hv B0 hnd hdd
  clear hX0
  unfold cv at hwA ⊢
  go_enter Tryz.func7, Tryz.ntmps7
  go_wp2_with (fail)
  rw [← hwA]
  clear hwA
  go_loopw [5, 11] (fun y z wr => ∃ (i n : Nat), y = .int .i64 (n : Int) ∧ z = .int .i64 i ∧ i ≤ c.ps.length ∧ n ≤ 60 ∧ Hid (lit (c.ps.drop i) n = lit c.ps 60) ∧ Below wA.heap.size wA wr) (fun _ z _ => c.ps.length - (intOf z).toNat)
  case atStart => exact ⟨0, 60, rfl, rfl, by omega, by omega, rfl, Below.refl _ _⟩
  case round =>
    obtain ⟨i, n, rfl, rfl, hil, hn60, HL, hB⟩ := hrel
    by_cases hend : i < c.ps.length
    · have hst := lit_step c.ps i n hend
      obtain ⟨b, off, v, hbo, hb, hc, hru⟩ := (HC.out.later hB).ps.lie i hend
      have HRU := (show Hid (∀ W, Below wr.heap.size wr W → Rus W v (nthP c.ps i)) from fun W b => hru.below b)
      obtain ⟨x, hx⟩ : ∃ x, x = rightE (nthP c.ps i) := ⟨_, rfl⟩
      have c17 := ru.rright_any (nthP c.ps i) x hx v wr hru
      rw [hbo]
      rw [← hx] at hst
      by_cases hx0 : x = 0
      · subst hx0
        have hgd := ru.rightE_zero hx.symm
        obtain ⟨g, hg⟩ : ∃ g, g = growN 1 (nthP c.ps i) := ⟨_, rfl⟩
        have hg1 : 1 ≤ g := by rw [hg]; exact ru.growN_ge _ 1
        have hg2 : g ≤ 32 := by rw [hg]; exact ru.growN_le _ hgd.2.1 1 (by omega)
        have H18 := (show Hid _ from ru.rgr_any (nthP c.ps i) hgd g hg)
        rw [if_pos rfl, ← hg] at hst
        obtain ⟨q, hq⟩ : ∃ q, q = n / g := ⟨_, rfl⟩
        rw [← hq] at hst
        have HST := (show Hid (lit (c.ps.drop (i + 1)) q = lit c.ps 60) from by show _ = _; rw [← hst]; exact HL.out)
        have hng : q ≤ 60 := by rw [hq]; exact Nat.le_trans (Nat.div_le_self _ _) hn60
        have hup : (n : Int).tdiv (g : Int) = (q : Int) := by rw [hq]; exact (Int.ofNat_tdiv n g).symm
        have hg0 : ((g : Int) == 0) = false := beq_eq_false_iff_ne.2 (by omega)
        have hgi : ¬ ((g : Int) = 0) := by omega
        clear hq
        clear hst hx hgd hg hbo hru HL
        go_wp2_with (fail)
        go_at_call 17
        refine c17.mono ?_
        rintro e w3 ⟨rfl, b3⟩
        have c18 := H18.out v w3 (HRU.out w3 b3)
        clear c17 hc
        go_wp2_with (fail)
        go_at_call 18
        refine c18.mono ?_
        rintro e w4 ⟨rfl, b4⟩
        have hB4 := chain (chain hB b3) b4
        clear c18 hB b3 b4
        go_wp2_with (fail)
        go_roundw
        case rel => exact ⟨i + 1, q, rfl, by go_num, by omega, hng, HST, hB4⟩
        case measure => simp [intOf]; omega
      · have hne : (((x : Nat) : Int) == 0) = false := beq_eq_false_iff_ne.2 (by omega)
        rw [if_neg hx0] at hst
        have HST := (show Hid (lit (c.ps.drop (i + 1)) n = lit c.ps 60) from by show _ = _; rw [← hst]; exact HL.out)
        clear hst hx hbo hru HL
        go_wp2_with (fail)
        go_at_call 17
        refine c17.mono ?_
        rintro e w3 ⟨rfl, b3⟩
        have hB4 := chain hB b3
        clear c17 hc hB b3
        go_wp2_with (fail)
        go_roundw
        case rel => exact ⟨i + 1, n, rfl, by go_num, by omega, hn60, HST, hB4⟩
        case measure => simp [intOf]; omega
    · obtain rfl : i = c.ps.length := by omega
      have hn : n = lit c.ps 60 := by have := HL.out; rw [List.drop_length] at this; exact this
      have HLT := (show Hid (little c = if 9 ≤ dd then 0 else if 100 < nd ∧ 10 < n then 10 else n) from by
        show _ = _
        unfold little
        rw [hn]
        have e1 : (9 ≤ dd) ↔ (9 ≤ c.t.depth) := by have := HDD.out; omega
        have e2 : (100 < nd) ↔ (100 < c.t.nodes) := by have := HND.out; omega
        simp only [e1, e2])
      obtain ⟨t0, t1, t2, t3, t4, t5, t6, t7⟩ := (HX.out.later hB).tree
      have c19 := H19.out _ wr _ (HC.out.later hB).t
      have HBr := (show Hid (Below w.heap.size w wr) from chain HB0.out hB)
      have H20b := (show Hid (∀ W, Below wr.heap.size wr W → Calls Tryz.prog 20 _ W _) from fun W b => H20.out _ W _ ((HC.out.later hB).later b).t)
      have HXr := (show Hid (∀ W, Below wr.heap.size wr W → CBox W w.heap.size c p) from fun W b => (HX.out.later hB).later b)
      clear hn HL hB H19 H20
      have HS := (show Hid (s.size ≤ 140737488351232) from hs)
      unfold st.UpIs at *
      go_wp2_with (fail)
      go_at_call 19
      refine c19.mono ?_
      rintro e w3 ⟨rfl, b3⟩
      obtain ⟨t0, t1, t2, t3, t4, t5, t6, t7⟩ := (HXr.out w3 b3).tree
      have c20 := H20b.out w3 b3
      have HB3 := (show Hid (Below w.heap.size w w3) from chain HBr.out b3)
      clear c19 H20b HXr b3
      obtain ⟨m, hm⟩ : ∃ m, m = if 100 < nd ∧ 10 < n then 10 else n := ⟨_, rfl⟩
      have hmn : m ≤ 60 := by rw [hm]; split <;> omega
      have HM := (show Hid (little c = if 9 ≤ dd then 0 else m) from by show _ = _; rw [HLT.out, hm])
      by_cases h1 : 100 < nd
      · have g1 : (100 : Int) < (nd : Int) := by omega
        by_cases h1b : 10 < n
        · have g2 : (10 : Int) < (n : Int) := by omega
          have HMM := (show Hid (m = 10) from by show _ = _; rw [hm, if_pos ⟨h1, h1b⟩])
          clear hm
          go_wp2_with (fail)
          go_at_call 20
          refine c20.mono ?_
          rintro e w4 ⟨rfl, b4⟩
          have HB4 := (show Hid (Below w.heap.size w w4) from chain HB3.out b4)
          clear c20 b4
          by_cases h2 : 9 ≤ dd
          · have d1 : (9 : Int) ≤ (dd : Int) := by omega
            have HK := (show Hid (little c = 0) from by show _ = _; rw [HM.out, if_pos h2])
            by_cases h3 : s.size ≤ 0
            · have d2 : ¬ (0 : Int) < (s.size : Int) := by omega
              go_wp2_with (fail)
              go_ret
              exact ⟨by rw [HK.out]; unfold cutN; rw [if_pos h3]; rfl, HB4.out⟩
            · have d2 : (0 : Int) < (s.size : Int) := by omega
              go_wp2_with (fail)
              go_ret
              exact ⟨by rw [HK.out]; unfold cutN; rw [if_neg h3, show s.extract 0 0 = ByteArray.empty from by simp]; rfl, HB4.out⟩
          · have d1 : ¬ (9 : Int) ≤ (dd : Int) := by omega
            have HK := (show Hid (little c = m) from by show _ = _; rw [HM.out, if_neg h2])
            by_cases h3 : s.size ≤ 10
            · have d2 : ¬ (10 : Int) < (s.size : Int) := by omega
              go_wp2_with (fail)
              go_ret
              exact ⟨by rw [HK.out, HMM.out]; unfold cutN; rw [if_pos h3]; rfl, HB4.out⟩
            · have d2 : (10 : Int) < (s.size : Int) := by omega
              go_wp2_with (fail)
              go_ret
              exact ⟨by rw [HK.out, HMM.out]; unfold cutN; rw [if_neg h3]; rfl, HB4.out⟩
        · have g2 : ¬ (10 : Int) < (n : Int) := by omega
          have HMM := (show Hid (m = n) from by show _ = _; rw [hm, if_neg (fun h => h1b h.2)])
          clear hm
          go_wp2_with (fail)
          go_at_call 20
          refine c20.mono ?_
          rintro e w4 ⟨rfl, b4⟩
          have HB4 := (show Hid (Below w.heap.size w w4) from chain HB3.out b4)
          clear c20 b4
          by_cases h2 : 9 ≤ dd
          · have d1 : (9 : Int) ≤ (dd : Int) := by omega
            have HK := (show Hid (little c = 0) from by show _ = _; rw [HM.out, if_pos h2])
            by_cases h3 : s.size ≤ 0
            · have d2 : ¬ (0 : Int) < (s.size : Int) := by omega
              go_wp2_with (fail)
              go_ret
              exact ⟨by rw [HK.out]; unfold cutN; rw [if_pos h3]; rfl, HB4.out⟩
            · have d2 : (0 : Int) < (s.size : Int) := by omega
              go_wp2_with (fail)
              go_ret
              exact ⟨by rw [HK.out]; unfold cutN; rw [if_neg h3, show s.extract 0 0 = ByteArray.empty from by simp]; rfl, HB4.out⟩
          · have d1 : ¬ (9 : Int) ≤ (dd : Int) := by omega
            have HK := (show Hid (little c = m) from by show _ = _; rw [HM.out, if_neg h2])
            by_cases h3 : s.size ≤ n
            · have d2 : ¬ (n : Int) < (s.size : Int) := by omega
              go_wp2_with (fail)
              go_ret
              exact ⟨by rw [HK.out, HMM.out]; unfold cutN; rw [if_pos h3]; rfl, HB4.out⟩
            · have d2 : (n : Int) < (s.size : Int) := by omega
              go_wp2_with (fail)
              go_ret
              exact ⟨by rw [HK.out, HMM.out]; unfold cutN; rw [if_neg h3]; rfl, HB4.out⟩
      · have g1 : ¬ (100 : Int) < (nd : Int) := by omega
        have HMM := (show Hid (m = n) from by show _ = _; rw [hm, if_neg (fun h => h1 h.1)])
        clear hm
        go_wp2_with (fail)
        go_at_call 20
        refine c20.mono ?_
        rintro e w4 ⟨rfl, b4⟩
        have HB4 := (show Hid (Below w.heap.size w w4) from chain HB3.out b4)
        clear c20 b4
        by_cases h2 : 9 ≤ dd
        · have d1 : (9 : Int) ≤ (dd : Int) := by omega
          have HK := (show Hid (little c = 0) from by show _ = _; rw [HM.out, if_pos h2])
          by_cases h3 : s.size ≤ 0
          · have d2 : ¬ (0 : Int) < (s.size : Int) := by omega
            go_wp2_with (fail)
            go_ret
            exact ⟨by rw [HK.out]; unfold cutN; rw [if_pos h3]; rfl, HB4.out⟩
          · have d2 : (0 : Int) < (s.size : Int) := by omega
            go_wp2_with (fail)
            go_ret
            exact ⟨by rw [HK.out]; unfold cutN; rw [if_neg h3, show s.extract 0 0 = ByteArray.empty from by simp]; rfl, HB4.out⟩
        · have d1 : ¬ (9 : Int) ≤ (dd : Int) := by omega
          have HK := (show Hid (little c = m) from by show _ = _; rw [HM.out, if_neg h2])
          by_cases h3 : s.size ≤ n
          · have d2 : ¬ (n : Int) < (s.size : Int) := by omega
            go_wp2_with (fail)
            go_ret
            exact ⟨by rw [HK.out, HMM.out]; unfold cutN; rw [if_pos h3]; rfl, HB4.out⟩
          · have d2 : (n : Int) < (s.size : Int) := by omega
            go_wp2_with (fail)
            go_ret
            exact ⟨by rw [HK.out, HMM.out]; unfold cutN; rw [if_neg h3]; rfl, HB4.out⟩
end Go.Proofs.YthmecbonjkcnmaaGreat.tk

namespace Go.Proofs.YthmecbonjkcnmaaGreat.tk
open Go.ChangeShapes Go.WideShapes Go.ChangeAt Go.RowKit
open ru (Ru rightE growN Rus apT apE Good)
open cf (Cf Cp cv CfAt CBox cfE cbox_new nthP grs)
open st (Tr Is)
set_option linter.unusedVariables false
set_option maxRecDepth 100000

def Check (c : Cf) (p : Cp) (s : ByteArray) (w : World) (x : Nat) : Prop := Calls Tryz.prog 21 #[.agg (cv c p), .string s] w fun e w' => e = .returned (.int .i64 (x : Int)) ∧ Below w.heap.size w w'
set_option maxHeartbeats 2000000 in
theorem check_long (c : Cf) (p : Cp) (s : ByteArray) (hs : 4096 < s.size) (hs2 : s.size ≤ 140737488351232) (w : World) (hv : CfAt w c p) (h0 : cfE c = 0) : Check c p s w 2 := by
  obtain ⟨wA, hwA⟩ : ∃ wA, wA = w.alloc (.cells (cv c p) 34) := ⟨_, rfl⟩
  have B0 : Below w.heap.size w wA := by rw [hwA]; exact below_alloc w _
  have hX0 : (w.alloc (.cells (cv c p) 34)).heap[w.heap.size]? = some (.cells (cv c p) 34 (0, 0)) := cbox_new w c p
  have hi34 := info34 c p
  have c34 := cf.right_any c p wA (hv.later B0) 0 h0.symm
  clear hv h0
  unfold Check
  go_enter Tryz.func21, Tryz.ntmps21
  go_wp2_with (first | (refine wpList_load_row rfl 34 (.tmp 2) rfl w.heap.size rfl 34 (cv c p) (0, 0) _ hX0 Tryz.underlying34 rfl hi34 ?_))
  rw [← hwA]
  go_at_call 34
  refine c34.mono ?_
  rintro e w1 ⟨rfl, b1⟩
  clear c34 hX0 hwA
  go_wp2_with (fail)
  go_ret
  exact ⟨rfl, chain B0 b1⟩
theorem check_bad (c : Cf) (p : Cp) (s : ByteArray) (hs2 : s.size ≤ 140737488351232) (w : World) (hv : CfAt w c p) (h0 : cfE c ≠ 0) : Check c p s w (cfE c) := by
  obtain ⟨wA, hwA⟩ : ∃ wA, wA = w.alloc (.cells (cv c p) 34) := ⟨_, rfl⟩
  have B0 : Below w.heap.size w wA := by rw [hwA]; exact below_alloc w _
  have hX0 : (w.alloc (.cells (cv c p) 34)).heap[w.heap.size]? = some (.cells (cv c p) 34 (0, 0)) := cbox_new w c p
  have hi34 := info34 c p
  obtain ⟨r, hr⟩ : ∃ r, r = cfE c := ⟨_, rfl⟩
  have c34 := cf.right_any c p wA (hv.later B0) r hr
  rw [← hr] at h0 ⊢
  clear hv hr
  have hne : (((r : Nat) : Int) == 0) = false := beq_eq_false_iff_ne.2 (by omega)
  have hne2 : (((r : Nat) : Int) != 0) = true := by rw [bne_iff_ne]; omega
  unfold Check
  go_enter Tryz.func21, Tryz.ntmps21
  go_wp2_with (first | (refine wpList_load_row rfl 34 (.tmp 2) rfl w.heap.size rfl 34 (cv c p) (0, 0) _ hX0 Tryz.underlying34 rfl hi34 ?_))
  rw [← hwA]
  go_at_call 34
  refine c34.mono ?_
  rintro e w1 ⟨rfl, b1⟩
  clear c34 hX0 hwA
  go_wp2_with (fail)
  go_ret
  exact ⟨rfl, chain B0 b1⟩
/-- what is refused -/
noncomputable def badE (c : Cf) (s : ByteArray) : Nat := if cfE c = 0 then 2 else cfE c
theorem check_no (c : Cf) (p : Cp) (s : ByteArray) (hs2 : s.size ≤ 140737488351232) (hb : cfE c ≠ 0 ∨ 4096 < s.size) (w : World) (hv : CfAt w c p) : Check c p s w (badE c s) := by
  unfold badE
  by_cases h : cfE c = 0
  · rw [if_pos h]
    exact check_long c p s (hb.resolve_left (fun k => k h)) hs2 w hv h
  · rw [if_neg h]
    exact check_bad c p s hs2 w hv h
theorem bad_ne (c : Cf) (s : ByteArray) : badE c s ≠ 0 := by
  unfold badE
  split <;> omega
set_option maxHeartbeats 2000000 in
theorem norm_no (c : Cf) (p : Cp) (s : ByteArray) (hs2 : s.size ≤ 140737488351232) (hb : cfE c ≠ 0 ∨ 4096 < s.size) (w : World) (hv : CfAt w c p) : Calls Tryz.prog 8 #[.agg (cv c p), .string s] w fun e w' => e = .returned (.tuple #[.string e0, .int .i64 ((badE c s : Nat) : Int)]) ∧ Below w.heap.size w w' := by
  obtain ⟨wA, hwA⟩ : ∃ wA, wA = w.alloc (.cells (cv c p) 34) := ⟨_, rfl⟩
  have B0 : Below w.heap.size w wA := by rw [hwA]; exact below_alloc w _
  have hX0 : (w.alloc (.cells (cv c p) 34)).heap[w.heap.size]? = some (.cells (cv c p) 34 (0, 0)) := cbox_new w c p
  have hi34 := info34 c p
  have c21 := check_no c p s hs2 hb wA (hv.later B0)
  have hx := bad_ne c s
  unfold Check at c21
  generalize badE c s = r at *
  have hne : (((r : Nat) : Int) == 0) = false := beq_eq_false_iff_ne.2 (by omega)
  have hne2 : (((r : Nat) : Int) != 0) = true := by rw [bne_iff_ne]; omega
  clear hv
  go_enter Tryz.func8, Tryz.ntmps8
  go_wp2_with (first | (refine wpList_load_row rfl 34 (.tmp 2) rfl w.heap.size rfl 34 (cv c p) (0, 0) _ hX0 Tryz.underlying34 rfl hi34 ?_))
  rw [← hwA]
  go_at_call 21
  refine c21.mono ?_
  rintro e w1 ⟨rfl, b1⟩
  clear c21 hX0 hwA
  go_wp2_with (fail)
  go_ret2
  exact ⟨rfl, chain B0 b1⟩
set_option maxHeartbeats 2000000 in
theorem tok_no (c : Cf) (p : Cp) (s : ByteArray) (hs2 : s.size ≤ 140737488351232) (hb : cfE c ≠ 0 ∨ 4096 < s.size) (w : World) (hv : CfAt w c p) : Calls Tryz.prog 9 #[.agg (cv c p), .string s] w fun e w' => e = .returned (.tuple #[.slice none 0 0, .int .i64 ((badE c s : Nat) : Int)]) ∧ Below w.heap.size w w' := by
  obtain ⟨wA, hwA⟩ : ∃ wA, wA = w.alloc (.cells (cv c p) 34) := ⟨_, rfl⟩
  have B0 : Below w.heap.size w wA := by rw [hwA]; exact below_alloc w _
  have hX0 : (w.alloc (.cells (cv c p) 34)).heap[w.heap.size]? = some (.cells (cv c p) 34 (0, 0)) := cbox_new w c p
  have hi34 := info34 c p
  have c21 := check_no c p s hs2 hb wA (hv.later B0)
  have hx := bad_ne c s
  unfold Check at c21
  generalize badE c s = r at *
  have hne : (((r : Nat) : Int) == 0) = false := beq_eq_false_iff_ne.2 (by omega)
  have hne2 : (((r : Nat) : Int) != 0) = true := by rw [bne_iff_ne]; omega
  clear hv
  go_enter Tryz.func9, Tryz.ntmps9
  go_wp2_with (first | (refine wpList_load_row rfl 34 (.tmp 2) rfl w.heap.size rfl 34 (cv c p) (0, 0) _ hX0 Tryz.underlying34 rfl hi34 ?_))
  rw [← hwA]
  go_at_call 21
  refine c21.mono ?_
  rintro e w1 ⟨rfl, b1⟩
  clear c21 hX0 hwA
  go_wp2_with (fail)
  go_ret2
  exact ⟨rfl, chain B0 b1⟩
def FitN (ps : List (List Ru)) (t : ByteArray) : Prop := grs 1 ps * t.size ≤ 3000
theorem FitN.small {ps : List (List Ru)} {t : ByteArray} (h : FitN ps t) : t.size ≤ 3000 := Nat.le_trans (Nat.le_mul_of_pos_left _ (grs_pos ps)) h
theorem FitN.step {p : List Ru} {ps : List (List Ru)} {t : ByteArray} (h : FitN (p :: ps) t) (hg : ru.Good p) : FitN ps (apT p t) := by
  have h1 : grs 1 (p :: ps) = growN 1 p * grs 1 ps := by
    show grs (1 * growN 1 p) ps = _
    rw [grs_mul, Nat.one_mul]
  have h2 := apT_size hg t (Nat.le_trans h.small (by decide))
  unfold FitN at h ⊢
  rw [h1] at h
  refine Nat.le_trans (Nat.mul_le_mul_left _ h2) (Nat.le_trans (Nat.le_of_eq ?_) h)
  rw [← Nat.mul_assoc, Nat.mul_comm (grs 1 ps)]
theorem fitN_of {c : Cf} (h : cfE c = 0) {s : ByteArray} (hs : s.size ≤ 60) : FitN c.ps s := by
  have := (passes_ok h).2.2
  exact Nat.le_trans (Nat.mul_le_mul this hs) (by decide)
set_option maxHeartbeats 4000000 in
theorem rnorm_any (c : Cf) (p : Cp) (s : ByteArray) (hs : s.size ≤ 60) (h0 : cfE c = 0) (w : World) (hv : CfAt w c p) : Calls Tryz.prog 11 #[.agg (cv c p), .string s] w fun e w' => e = .returned (.string (nrm c.ps s)) ∧ Below w.heap.size w w' := by
  obtain ⟨wA, hwA⟩ : ∃ wA, wA = w.alloc (.cells (cv c p) 34) := ⟨_, rfl⟩
  have B0 : Below w.heap.size w wA := by rw [hwA]; exact below_alloc w _
  have HX := (show Hid (CBox wA w.heap.size c p) from by rw [hwA]; exact cbox_new w c p)
  have HC := (show Hid (CfAt wA c p) from hv.later B0)
  have HB0 := (show Hid (Below w.heap.size w wA) from B0)
  have k0 := HX.out.c0
  have f1 := hv.ps.fit
  have f2 := hv.ps.top
  have HG := (show Hid (∀ p ∈ c.ps, ru.Good p) from (passes_ok h0).2.1)
  have HFIT := (show Hid (FitN c.ps s) from fitN_of h0 hs)
  obtain ⟨n, hn⟩ : ∃ n, n = nrm c.ps s := ⟨_, rfl⟩
  rw [← hn]
  have HN := (show Hid (n = nrm c.ps s) from hn)
  clear hv B0 h0 hn
  unfold cv at hwA ⊢
  go_enter Tryz.func11, Tryz.ntmps11
  go_wp2_with (fail)
  rw [← hwA]
  clear hwA
  go_loopw [1, 10] (fun y z wr => ∃ (i : Nat) (t : ByteArray), y = .string t ∧ z = .int .i64 i ∧ i ≤ c.ps.length ∧ Hid (FitN (c.ps.drop i) t) ∧ Hid (nrm (c.ps.drop i) t = n) ∧ Below wA.heap.size wA wr) (fun _ z _ => c.ps.length - (intOf z).toNat)
  case atStart => exact ⟨0, s, rfl, rfl, by omega, HFIT, by show _ = _; exact HN.out.symm, Below.refl _ _⟩
  case round =>
    clear HFIT HN
    obtain ⟨i, t, rfl, rfl, hil, HF, HT, hB⟩ := hrel
    by_cases hend : i < c.ps.length
    · have hst := drop_step hend
      have hF := HF.out
      have hT := HT.out
      rw [hst] at hF hT
      have hgd := HG.out (nthP c.ps i) (by rw [cf.nthP_eq _ _ hend]; exact List.getElem_mem hend)
      obtain ⟨b, off, v, hbo, hb, hc, hru⟩ := (HC.out.later hB).ps.lie i hend
      have htz := hF.small
      have c30 := ru.rap_any (nthP c.ps i) hgd t htz v wr hru
      have hap : apT (nthP c.ps i) t = ru.txt (ru.ap (nthP c.ps i) t.data.toList) := by unfold apT; rw [if_pos ⟨hgd, by omega⟩]
      rw [← hap] at c30
      have HF2 := (show Hid (FitN (c.ps.drop (i + 1)) (apT (nthP c.ps i) t)) from hF.step hgd)
      have HT2 := (show Hid (nrm (c.ps.drop (i + 1)) (apT (nthP c.ps i) t) = n) from hT)
      clear hap
      generalize apT (nthP c.ps i) t = t2 at *
      rw [hbo]
      clear HF HT hF hT hst hgd hru hbo
      go_wp2_with (fail)
      go_at_call 30
      refine c30.mono ?_
      rintro e w3 ⟨rfl, b3⟩
      clear c30 hc
      go_wp2_with (fail)
      go_roundw
      case rel => exact ⟨i + 1, t2, rfl, by go_num, by omega, HF2, HT2, chain hB b3⟩
      case measure => simp [intOf]; omega
    · obtain rfl : i = c.ps.length := by omega
      have ht : t = n := by have := HT.out; rw [List.drop_length] at this; exact this
      subst ht
      go_wp2_with (fail)
      go_ret
      exact ⟨rfl, chain HB0.out hB⟩
end Go.Proofs.YthmecbonjkcnmaaGreat.tk
