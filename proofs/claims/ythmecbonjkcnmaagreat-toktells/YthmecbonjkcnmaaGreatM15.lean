/-
  Texts put together: Contracts over this program: passes in memory; rightPasses, rightSplit. Contracts over this program: a configuration in memory; config.Right.
-/
import Derived.Test.YthmecbonjkcnmaaGreatM13
import Derived.Test.YthmecbonjkcnmaaGreatM14
import Derived.Test.YthmecbonjkcnmaaGreatM01
import Derived.Test.YthmecbonjkcnmaaGreatM12
import Derived.Test.YthmecbonjkcnmaaGreatM16
namespace Go.Proofs.YthmecbonjkcnmaaGreat.cf
open Go.ChangeShapes Go.WideShapes Go.ChangeAt Go.RowKit
open st (Tr Q4 nodesOf goods okNode nthT Is UpIs)
open ru (Ru rightE growN Rus)
open mg (chain below_alloc)
set_option linter.unusedVariables false

/-- passes that are read -/
structure Pss (w : World) (o : Option Addr) (cap : Nat) (l : List (List Ru)) : Prop where
  fit : l.length ≤ cap
  top : cap ≤ 9223372036854775807
  lie : ∀ i, i < l.length → ∃ b off v, o = some ⟨b, off, none⟩ ∧ b < w.heap.size ∧ w.cell? ⟨b, off + i, none⟩ = some v ∧ Rus w v (nthP l i)
theorem Pss.later {w w' : World} {o : Option Addr} {cap : Nat} {l : List (List Ru)} (h : Pss w o cap l) (b : Below w.heap.size w w') : Pss w' o cap l :=
  ⟨h.fit, h.top, fun i hi => by
    obtain ⟨g, off, v, e, hg, hc, hr⟩ := h.lie i hi
    exact ⟨g, off, v, e, Nat.lt_of_lt_of_le hg b.size, (b.cell (p := ⟨g, off + i, none⟩) hg).trans hc, hr.below b⟩⟩
theorem grN_of {p : List Ru} (h : rightE p = 0) : ru.grN p = growN 1 p := by unfold ru.grN; rw [if_pos (ru.rightE_zero h)]
theorem passE_long {l : List (List Ru)} (h : 4 < l.length) : passE l = 172 := by unfold passE; rw [if_pos h]
theorem passE_bad {l : List (List Ru)} (h : ¬ 4 < l.length) {i : Nat} (hi : i < l.length) (h0 : ∀ j, j < i → rightE (nthP l j) = 0) (hn : rightE (nthP l i) ≠ 0) : passE l = rightE (nthP l i) := by
  have e := first_at l i hi h0 hn
  unfold passE
  rw [if_neg h, e, if_pos hn]
theorem passE_end {l : List (List Ru)} (h : ¬ 4 < l.length) (h0 : ∀ j, j < l.length → rightE (nthP l j) = 0) : passE l = if 32 < grs 1 l then 172 else 0 := by
  have e := first_all l h0
  unfold passE
  rw [if_neg h, e, if_neg (by simp)]

set_option maxHeartbeats 1000000 in
set_option maxRecDepth 100000 in
theorem passes_any (l : List (List Ru)) (o : Option Addr) (cap : Nat) (w : World) (hv : Pss w o cap l) (r : Nat) (hr : r = passE l) : Calls Tryz.prog 52 #[.slice o l.length cap] w fun e w' => e = .returned (.int .i64 (r : Int)) ∧ Below w.heap.size w w' := by
  have f1 := hv.fit
  have f2 := hv.top
  have HV := (show Hid (Pss w o cap l) from hv)
  clear hv
  by_cases hlong : 4 < l.length
  · obtain rfl : r = 172 := by rw [hr, passE_long hlong]
    clear hr HV
    go_enter Tryz.func52, Tryz.ntmps52
    go_wp2_with (fail)
    go_ret
    exact ⟨rfl, Below.refl _ _⟩
  · have hl : l.length ≤ 4 := by omega
    have HR := (show Hid (r = passE l) from hr)
    clear hr
    go_enter Tryz.func52, Tryz.ntmps52
    go_wp2_with (fail)
    go_loopw [3, 13] (fun u y wr => ∃ (i n : Nat), u = .int .i64 n ∧ y = .int .i64 i ∧ i ≤ l.length ∧ n ≤ 32 ^ i ∧ Below w.heap.size w wr ∧ Hid (n = grs 1 (l.take i) ∧ ∀ j, j < i → rightE (nthP l j) = 0)) (fun _ y _ => l.length - (intOf y).toNat)
    case atStart => exact ⟨0, 1, rfl, rfl, by omega, by omega, Below.refl _ _, ⟨rfl, fun j hj => by omega⟩⟩
    case round =>
      obtain ⟨i, n, rfl, rfl, hil, hn, hB, HU⟩ := hrel
      by_cases hend : i < l.length
      · obtain ⟨b, off, v, rfl, hb, hc, hrus⟩ := HV.out.lie i hend
        have k1 := (hB.cell (p := ⟨b, off + i, none⟩) hb).trans hc
        have hcall := ru.gr_any (nthP l i) _ rfl v wr (hrus.below hB)
        by_cases h0 : rightE (nthP l i) = 0
        · have hg := grow_le h0
          have e1 := grN_of h0
          have hi3 : i ≤ 3 := by omega
          have ht := times_le hi3 hn hg.2
          have HJ := (show Hid (n * growN 1 (nthP l i) = grs 1 (l.take (i + 1)) ∧ ∀ j, j < i + 1 → rightE (nthP l j) = 0) from ⟨by rw [grs_take l i hend, ← HU.out.1], fun j hj => by
            by_cases e : j = i
            · rw [e]; exact h0
            · exact HU.out.2 j (by omega)⟩)
          rw [h0, e1] at hcall
          have hpow : n * growN 1 (nthP l i) ≤ 1048576 := Nat.le_trans ht (by
            have : 32 ^ (i + 1) ≤ 32 ^ 4 := Nat.pow_le_pow_right (by omega) (by omega)
            exact this)
          obtain ⟨x, hx⟩ : ∃ x, x = n * growN 1 (nthP l i) := ⟨_, rfl⟩
          have hxi : (n : Int) * ((growN 1 (nthP l i) : Nat) : Int) = (x : Int) := by rw [hx, Int.natCast_mul]
          rw [← hx] at HJ ht hpow
          clear HR HV HU h0 e1 hc hrus hx
          generalize growN 1 (nthP l i) = g at *
          go_wp2_with (go_at_call 78; refine hcall.mono ?_; rintro e w2 ⟨rfl, b2⟩)
          go_roundw
          case rel => exact ⟨i + 1, x, by go_num, by go_num, by omega, ht, chain hB b2, HJ.out⟩
          case measure => simp [intOf]; omega
        · have HE := (show Hid (r = rightE (nthP l i)) from by
            show r = _
            rw [HR.out]; exact passE_bad hlong hend HU.out.2 h0)
          have hne : ((rightE (nthP l i) : Nat) : Int) ≠ 0 := by omega
          clear HR HV HU hc hrus
          generalize rightE (nthP l i) = x at *
          generalize ru.grN (nthP l i) = g at *
          obtain rfl : r = x := HE.out
          have hnb : (((r : Nat) : Int) == 0) = false := beq_eq_false_iff_ne.2 hne
          go_wp2_with (go_at_call 78; refine hcall.mono ?_; rintro e w2 ⟨rfl, b2⟩)
          go_ret
          exact ⟨rfl, chain hB b2⟩
      · have HE := (show Hid (r = if 32 < n then 172 else 0) from by
          have e : i = l.length := by omega
          have h := HU.out
          rw [e, List.take_length] at h
          show r = _
          rw [HR.out, passE_end hlong h.2, h.1])
        have hn2 : n ≤ 1048576 := Nat.le_trans hn (by
          have : 32 ^ i ≤ 32 ^ 4 := Nat.pow_le_pow_right (by omega) (by omega)
          exact this)
        clear HR HU HV hn
        by_cases h32 : 32 < n
        · obtain rfl : r = 172 := by rw [HE.out, if_pos h32]
          clear HE
          go_wp2_with (fail)
          go_ret
          exact ⟨rfl, hB⟩
        · obtain rfl : r = 0 := by rw [HE.out, if_neg h32]
          clear HE
          go_wp2_with (fail)
          go_ret
          exact ⟨rfl, hB⟩
theorem re_eq (t : Tr) : st.rightN t = reE t := rfl
theorem reE_good {t : Tr} (h : reE t = 0) : t.good = true ∧ t.nodes ≤ 512 := by
  unfold reE at h
  split at h
  · next k =>
    refine ⟨?_, k.2⟩
    cases hg : t.good
    · rw [hg] at h; simp at h
    · rfl
  · simp at h
set_option maxHeartbeats 1000000 in
set_option maxRecDepth 100000 in
theorem split_any (t : Tr) (r : Nat) (hr : r = splitE t) : st.RightIs 53 t r := by
  intro v w hi
  have HC1 := (show Hid _ from st.right_is t _ rfl)
  have HI := (show Hid _ from hi)
  obtain ⟨o, cp, b, off, vs, rfl, hcap, hk⟩ := hi.form
  obtain ⟨w1, HW1⟩ : ∃ w1, Hid (w1 = w.alloc (.cells #[.int .i64 t.kind, .int .u64 t.set.a, .int .u64 t.set.b, .int .u64 t.set.c, .int .u64 t.set.d, .int .i64 t.min, .int .i64 t.max, .slice o t.kids.length cp] 29)) := ⟨_, rfl⟩
  have hb1 : Below w.heap.size w w1 := by rw [HW1.out]; exact below_alloc _ _
  have hbx : st.Box w1 w.heap.size t (.slice o t.kids.length cp) := by rw [HW1.out]; exact st.box_new w t _
  have hc1 := HC1.out _ w1 (hi.later hb1)
  rw [re_eq] at hc1
  by_cases h0 : reE t = 0
  · obtain ⟨hg, hno⟩ := reE_good h0
    obtain ⟨m, hm⟩ : ∃ m, m = Min.min (szT t) 1001 := ⟨_, rfl⟩
    have HC2 := (show Hid (∀ w2, Below w1.heap.size w1 w2 → Calls Tryz.prog 79 #[.agg #[.int .i64 t.kind, .int .u64 t.set.a, .int .u64 t.set.b, .int .u64 t.set.c, .int .u64 t.set.d, .int .i64 t.min, .int .i64 t.max, .slice o t.kids.length cp]] w2 fun e w' => e = .returned (.int .i64 (m : Int)) ∧ Below w2.heap.size w2 w') from fun w2 b2 => sz_any t.depth t m (Nat.le_refl _) hg hno hm _ w2 _ (hi.later (chain hb1 b2)))
    have HBX := (show Hid (∀ w2, Below w1.heap.size w1 w2 → _) from fun w2 b2 => (hbx.below b2).cells)
    have hE : r = if 1000 < m then 172 else 0 := by
      rw [hr]; unfold splitE
      rw [if_neg (by omega)]
      by_cases h : 1000 < szT t
      · rw [if_pos h, if_pos (by omega)]
      · rw [if_neg h, if_neg (by omega)]
    rw [h0] at hc1
    obtain ⟨c0, c1, c2, c3, c4, c5, c6, c7⟩ := hbx.cells
    have hm2 : m ≤ 1001 := by omega
    clear hr hi hk h0 hg hno hm hbx HI HC1
    generalize t.kind = k at *
    generalize t.set = q at *
    generalize t.min = mn at *
    generalize t.max = mx at *
    generalize t.kids.length = ln at *
    by_cases h1 : 1000 < m
    · obtain rfl : r = 172 := by rw [hE, if_pos h1]
      clear hE
      go_enter Tryz.func53, Tryz.ntmps53
      go_wp2_with (first | (go_at_call 65; rw [← HW1.out]; refine hc1.mono ?_; rintro e w2 ⟨rfl, b2⟩; obtain ⟨d0, d1, d2, d3, d4, d5, d6, d7⟩ := HBX.out w2 b2) | (go_at_call 79; refine (HC2.out _ b2).mono ?_; rintro e w3 ⟨rfl, b3⟩))
      go_ret
      exact ⟨rfl, chain hb1 (chain b2 b3)⟩
    · obtain rfl : r = 0 := by rw [hE, if_neg h1]
      clear hE
      go_enter Tryz.func53, Tryz.ntmps53
      go_wp2_with (first | (go_at_call 65; rw [← HW1.out]; refine hc1.mono ?_; rintro e w2 ⟨rfl, b2⟩; obtain ⟨d0, d1, d2, d3, d4, d5, d6, d7⟩ := HBX.out w2 b2) | (go_at_call 79; refine (HC2.out _ b2).mono ?_; rintro e w3 ⟨rfl, b3⟩))
      go_ret
      exact ⟨rfl, chain hb1 (chain b2 b3)⟩
  · have hE : r = reE t := by rw [hr]; unfold splitE; rw [if_pos h0]
    have hne : ((reE t : Nat) : Int) ≠ 0 := by omega
    obtain ⟨c0, c1, c2, c3, c4, c5, c6, c7⟩ := hbx.cells
    clear hr hi hk hbx HI HC1 h0
    subst hE
    generalize reE t = r at *
    have hnb : (((r : Nat) : Int) == 0) = false := beq_eq_false_iff_ne.2 hne
    generalize t.kind = k at *
    generalize t.set = q at *
    generalize t.min = mn at *
    generalize t.max = mx at *
    generalize t.kids.length = ln at *
    go_enter Tryz.func53, Tryz.ntmps53
    go_wp2_with (go_at_call 65; rw [← HW1.out]; refine hc1.mono ?_; rintro e w2 ⟨rfl, b2⟩)
    go_ret
    exact ⟨rfl, chain hb1 b2⟩
end Go.Proofs.YthmecbonjkcnmaaGreat.cf

namespace Go.Proofs.YthmecbonjkcnmaaGreat.cf
open Go.ChangeShapes Go.WideShapes Go.ChangeAt Go.RowKit
open st (Tr Q4 nodesOf goods okNode nthT Is UpIs)
open ru (Ru rightE growN Rus)
open mg (Row RowV IntsV StrsV In chain below_alloc Mgs errOf)
set_option linter.unusedVariables false

/-- where a configuration's parts lie -/
structure Cp where
  po : Option Addr
  pc : Nat
  ko : Option Addr
  kc : Nat
  mo : Option Addr
  mc : Nat
  no : Option Addr
  nc : Nat
  bo : Option Addr
  bc : Nat
  ao : Option Addr
  ac : Nat
def cv (c : Cf) (p : Cp) : Array Value := #[.slice p.po c.ps.length p.pc, .int .i64 c.t.kind, .int .u64 c.t.set.a, .int .u64 c.t.set.b, .int .u64 c.t.set.c, .int .u64 c.t.set.d, .int .i64 c.t.min, .int .i64 c.t.max, .slice p.ko c.t.kids.length p.kc, .slice p.mo c.ms.length p.mc, .slice p.no c.ns.length p.nc, .slice p.bo c.bf.length p.bc, .slice p.ao c.af.length p.ac]
structure CfAt (w : World) (c : Cf) (p : Cp) : Prop where
  ps : Pss w p.po p.pc c.ps
  t : Is w (fun _ => True) c.t (.slice p.ko c.t.kids.length p.kc)
  ms : Mgs w (.slice p.mo c.ms.length p.mc) c.ms
  ns : Row (In w) w Value.string p.no p.nc c.ns
  bf : Row (In w) w mg.iv p.bo p.bc c.bf
  af : Row (In w) w mg.iv p.ao p.ac c.af
theorem CfAt.later {w w' : World} {c : Cf} {p : Cp} (h : CfAt w c p) (b : Below w.heap.size w w') : CfAt w' c p :=
  ⟨h.ps.later b, h.t.later b, h.ms.later b, h.ns.later b, h.bf.later b, h.af.later b⟩
/-- a configuration in a block of its own -/
def CBox (w : World) (g : Nat) (c : Cf) (p : Cp) : Prop := w.heap[g]? = some (.cells (cv c p) 34 (0, 0))
section
variable {w w' : World} {g : Nat} {c : Cf} {p : Cp}
theorem CBox.lt (h : CBox w g c p) : g < w.heap.size := (Array.getElem?_eq_some_iff.1 h).1
theorem CBox.later (h : CBox w g c p) (b : Below w.heap.size w w') : CBox w' g c p := by unfold CBox; rw [b.block g h.lt]; exact h
theorem cbox_new (w : World) (c : Cf) (p : Cp) : CBox (w.alloc (.cells (cv c p) 34)) w.heap.size c p := heap_alloc_new w _
theorem CBox.c0 (h : CBox w g c p) : w.cell? ⟨g, 0, none⟩ = some (.slice p.po c.ps.length p.pc) := by rw [Lib.cell_of_heap h]; rfl
theorem CBox.tree (h : CBox w g c p) : w.cell? ⟨g, 1, none⟩ = some (.int .i64 c.t.kind) ∧ w.cell? ⟨g, 2, none⟩ = some (.int .u64 c.t.set.a) ∧ w.cell? ⟨g, 3, none⟩ = some (.int .u64 c.t.set.b) ∧ w.cell? ⟨g, 4, none⟩ = some (.int .u64 c.t.set.c) ∧ w.cell? ⟨g, 5, none⟩ = some (.int .u64 c.t.set.d) ∧ w.cell? ⟨g, 6, none⟩ = some (.int .i64 c.t.min) ∧ w.cell? ⟨g, 7, none⟩ = some (.int .i64 c.t.max) ∧ w.cell? ⟨g, 8, none⟩ = some (.slice p.ko c.t.kids.length p.kc) := by
  refine ⟨?_, ?_, ?_, ?_, ?_, ?_, ?_, ?_⟩ <;> (rw [Lib.cell_of_heap h]; rfl)
theorem CBox.c9 (h : CBox w g c p) : w.cell? ⟨g, 9, none⟩ = some (.slice p.mo c.ms.length p.mc) := by rw [Lib.cell_of_heap h]; rfl
theorem CBox.c10 (h : CBox w g c p) : w.cell? ⟨g, 10, none⟩ = some (.slice p.no c.ns.length p.nc) := by rw [Lib.cell_of_heap h]; rfl
theorem CBox.c11 (h : CBox w g c p) : w.cell? ⟨g, 11, none⟩ = some (.slice p.bo c.bf.length p.bc) := by rw [Lib.cell_of_heap h]; rfl
theorem CBox.c12 (h : CBox w g c p) : w.cell? ⟨g, 12, none⟩ = some (.slice p.ao c.af.length p.ac) := by rw [Lib.cell_of_heap h]; rfl
end
theorem rest_yes {c : Cf} (h1 : NamesOk c.ns) (h2 : FrameOk c.bf c.ns.length) (h3 : FrameOk c.af c.ns.length) : rest c = 0 := by unfold rest; rw [if_pos ⟨h1, h2, h3⟩]
theorem rest_no {c : Cf} (h : ¬ LastOk c) : rest c = 172 := by unfold rest; rw [if_neg h]

def CallAt (f : Nat) (args : Array Value) (w1 : World) (r : Value) : Prop := ∀ W, Below w1.heap.size w1 W → Calls Tryz.prog f args W fun e w' => e = .returned r ∧ Below W.heap.size W w'
theorem CallAt.out {f : Nat} {args : Array Value} {w1 : World} {r : Value} (h : CallAt f args w1 r) (W : World) (b : Below w1.heap.size w1 W) : Calls Tryz.prog f args W fun e w' => e = .returned r ∧ Below w1.heap.size w1 w' := (h W b).mono fun e w' ⟨h1, h2⟩ => ⟨h1, chain b h2⟩
/-- what stays in the block -/
def StayAt (w1 : World) (a : Addr) (v : Value) : Prop := ∀ W, Below w1.heap.size w1 W → W.cell? a = some v

open Classical in
set_option maxHeartbeats 2000000 in
set_option maxRecDepth 100000 in
theorem right_any (c : Cf) (p : Cp) (w : World) (hv : CfAt w c p) (r : Nat) (hr : r = cfE c) : Calls Tryz.prog 34 #[.agg (cv c p)] w fun e w' => e = .returned (.int .i64 (r : Int)) ∧ Below w.heap.size w w' := by
  obtain ⟨w1, HW1⟩ : ∃ w1, Hid (w1 = w.alloc (.cells (cv c p) 34)) := ⟨_, rfl⟩
  have hb1 : Below w.heap.size w w1 := by rw [HW1.out]; exact below_alloc _ _
  have hbx : CBox w1 w.heap.size c p := by rw [HW1.out]; exact cbox_new w c p
  have hv1 := hv.later hb1
  have k6 : CallAt 52 #[.slice p.po c.ps.length p.pc] w1 (.int .i64 ((passE c.ps : Nat) : Int)) := fun W b => passes_any c.ps _ _ W (hv1.ps.later b) _ rfl
  have k7 : CallAt 53 #[.agg #[.int .i64 c.t.kind, .int .u64 c.t.set.a, .int .u64 c.t.set.b, .int .u64 c.t.set.c, .int .u64 c.t.set.d, .int .i64 c.t.min, .int .i64 c.t.max, .slice p.ko c.t.kids.length p.kc]] w1 (.int .i64 ((splitE c.t : Nat) : Int)) := fun W b => split_any c.t _ rfl _ W (hv1.t.later b)
  have k8 : CallAt 54 #[.slice p.mo c.ms.length p.mc] w1 (.int .i64 ((errOf c.ms : Nat) : Int)) := fun W b => mg.right_any c.ms _ W (hv1.ms.later b)
  have k9 : CallAt 55 #[.slice p.no c.ns.length p.nc] w1 (.bool (decide (NamesOk c.ns))) := fun W b => names_any c.ns _ W ⟨_, _, rfl, hv1.ns.later b⟩
  have hnl : c.ns.length ≤ 9223372036854775807 := Nat.le_trans hv.ns.fit hv.ns.top
  have kb : CallAt 56 #[.slice p.bo c.bf.length p.bc, .int .i64 (c.ns.length : Int)] w1 (.bool (decide (FrameOk c.bf c.ns.length))) := fun W b => frame_any c.bf _ hnl _ W ⟨_, _, rfl, hv1.bf.later b⟩
  have ka : CallAt 56 #[.slice p.ao c.af.length p.ac, .int .i64 (c.ns.length : Int)] w1 (.bool (decide (FrameOk c.af c.ns.length))) := fun W b => frame_any c.af _ hnl _ W ⟨_, _, rfl, hv1.af.later b⟩
  have m0 := hbx.c0
  have HT := (show Hid (∀ W, Below w1.heap.size w1 W → _) from fun W b => (hbx.later b).tree)
  have H9 : StayAt w1 ⟨w.heap.size, 9, none⟩ (.slice p.mo c.ms.length p.mc) := fun W b => (hbx.later b).c9
  have H10 : StayAt w1 ⟨w.heap.size, 10, none⟩ (.slice p.no c.ns.length p.nc) := fun W b => (hbx.later b).c10
  have H11 : StayAt w1 ⟨w.heap.size, 11, none⟩ (.slice p.bo c.bf.length p.bc) := fun W b => (hbx.later b).c11
  have H12 : StayAt w1 ⟨w.heap.size, 12, none⟩ (.slice p.ao c.af.length p.ac) := fun W b => (hbx.later b).c12
  have r0 : Below w1.heap.size w1 w1 := Below.refl _ _
  rw [cfE_eq] at hr
  have HL : Hid (rest c = if NamesOk c.ns then (if FrameOk c.bf c.ns.length then (if FrameOk c.af c.ns.length then 0 else 172) else 172) else 172) := by
    show _ = _
    by_cases h1 : NamesOk c.ns
    · by_cases h2 : FrameOk c.bf c.ns.length
      · by_cases h3 : FrameOk c.af c.ns.length
        · rw [if_pos h1, if_pos h2, if_pos h3, rest_yes h1 h2 h3]
        · rw [if_pos h1, if_pos h2, if_neg h3, rest_no fun h => h3 h.2.2]
      · rw [if_pos h1, if_neg h2, rest_no fun h => h2 h.2.1]
    · rw [if_neg h1, rest_no fun h => h1 h.1]
  rw [HL.out] at hr
  clear hv hv1 hbx HL
  unfold cv at *
  generalize passE c.ps = x6 at *
  generalize splitE c.t = x7 at *
  generalize errOf c.ms = x8 at *
  generalize c.t.kind = k at *
  generalize c.t.set = q at *
  generalize c.t.min = mn at *
  generalize c.t.max = mx at *
  generalize c.t.kids.length = ln at *
  generalize c.ps.length = l0 at *
  generalize c.ms.length = l1 at *
  generalize hl2 : c.ns.length = l2 at *
  generalize c.bf.length = l3 at *
  generalize c.af.length = l4 at *
  by_cases h6 : x6 = 0
  · subst h6
    by_cases h7 : x7 = 0
    · subst h7
      by_cases h8 : x8 = 0
      · subst h8
        rw [if_neg (by simp), if_neg (by simp), if_neg (by simp)] at hr
        by_cases h9 : NamesOk c.ns
        · rw [decide_eq_true h9] at k9
          rw [if_pos h9] at hr
          clear h9
          by_cases hb : FrameOk c.bf l2
          · rw [decide_eq_true hb] at kb
            rw [if_pos hb] at hr
            clear hb
            by_cases ha : FrameOk c.af l2
            · rw [decide_eq_true ha] at ka
              rw [if_pos ha] at hr
              subst hr
              clear ha
              go_enter Tryz.func34, Tryz.ntmps34
              go_wp2_with (first | (go_at_call 52; rw [← HW1.out]; refine (k6.out _ r0).mono ?_; rintro e w2 ⟨rfl, b2⟩; obtain ⟨t0, t1, t2, t3, t4, t5, t6, t7⟩ := HT.out _ b2) | (go_at_call 53; refine (k7.out _ b2).mono ?_; rintro e w3 ⟨rfl, b3⟩; have m9 := H9 _ b3) | (go_at_call 54; refine (k8.out _ b3).mono ?_; rintro e w4 ⟨rfl, b4⟩; have m10 := H10 _ b4) | (go_at_call 55; refine (k9.out _ b4).mono ?_; rintro e w5 ⟨rfl, b5⟩; have m11 := H11 _ b5) | (go_at_call 56; refine (kb.out _ b5).mono ?_; clear kb; rintro e w6 ⟨rfl, b6⟩; have m12 := H12 _ b6) | (go_at_call 56; refine (ka.out _ b6).mono ?_; rintro e w7 ⟨rfl, b7⟩))
              go_ret
              exact ⟨rfl, chain hb1 b7⟩
            · rw [decide_eq_false ha] at ka
              rw [if_neg ha] at hr
              subst hr
              clear ha
              go_enter Tryz.func34, Tryz.ntmps34
              go_wp2_with (first | (go_at_call 52; rw [← HW1.out]; refine (k6.out _ r0).mono ?_; rintro e w2 ⟨rfl, b2⟩; obtain ⟨t0, t1, t2, t3, t4, t5, t6, t7⟩ := HT.out _ b2) | (go_at_call 53; refine (k7.out _ b2).mono ?_; rintro e w3 ⟨rfl, b3⟩; have m9 := H9 _ b3) | (go_at_call 54; refine (k8.out _ b3).mono ?_; rintro e w4 ⟨rfl, b4⟩; have m10 := H10 _ b4) | (go_at_call 55; refine (k9.out _ b4).mono ?_; rintro e w5 ⟨rfl, b5⟩; have m11 := H11 _ b5) | (go_at_call 56; refine (kb.out _ b5).mono ?_; clear kb; rintro e w6 ⟨rfl, b6⟩; have m12 := H12 _ b6) | (go_at_call 56; refine (ka.out _ b6).mono ?_; rintro e w7 ⟨rfl, b7⟩))
              go_ret
              exact ⟨rfl, chain hb1 b7⟩
          · rw [decide_eq_false hb] at kb
            rw [if_neg hb] at hr
            subst hr
            clear hb ka
            go_enter Tryz.func34, Tryz.ntmps34
            go_wp2_with (first | (go_at_call 52; rw [← HW1.out]; refine (k6.out _ r0).mono ?_; rintro e w2 ⟨rfl, b2⟩; obtain ⟨t0, t1, t2, t3, t4, t5, t6, t7⟩ := HT.out _ b2) | (go_at_call 53; refine (k7.out _ b2).mono ?_; rintro e w3 ⟨rfl, b3⟩; have m9 := H9 _ b3) | (go_at_call 54; refine (k8.out _ b3).mono ?_; rintro e w4 ⟨rfl, b4⟩; have m10 := H10 _ b4) | (go_at_call 55; refine (k9.out _ b4).mono ?_; rintro e w5 ⟨rfl, b5⟩; have m11 := H11 _ b5) | (go_at_call 56; refine (kb.out _ b5).mono ?_; clear kb; rintro e w6 ⟨rfl, b6⟩; have m12 := H12 _ b6) | (go_at_call 56; refine (ka.out _ b6).mono ?_; rintro e w7 ⟨rfl, b7⟩))
            go_ret
            exact ⟨rfl, chain hb1 b6⟩
        · rw [decide_eq_false h9] at k9
          rw [if_neg h9] at hr
          subst hr
          clear h9 ka kb
          go_enter Tryz.func34, Tryz.ntmps34
          go_wp2_with (first | (go_at_call 52; rw [← HW1.out]; refine (k6.out _ r0).mono ?_; rintro e w2 ⟨rfl, b2⟩; obtain ⟨t0, t1, t2, t3, t4, t5, t6, t7⟩ := HT.out _ b2) | (go_at_call 53; refine (k7.out _ b2).mono ?_; rintro e w3 ⟨rfl, b3⟩; have m9 := H9 _ b3) | (go_at_call 54; refine (k8.out _ b3).mono ?_; rintro e w4 ⟨rfl, b4⟩; have m10 := H10 _ b4) | (go_at_call 55; refine (k9.out _ b4).mono ?_; rintro e w5 ⟨rfl, b5⟩; have m11 := H11 _ b5) | (go_at_call 56; refine (kb.out _ b5).mono ?_; clear kb; rintro e w6 ⟨rfl, b6⟩; have m12 := H12 _ b6) | (go_at_call 56; refine (ka.out _ b6).mono ?_; rintro e w7 ⟨rfl, b7⟩))
          go_ret
          exact ⟨rfl, chain hb1 b5⟩
      · rw [if_neg (by simp), if_neg (by simp), if_pos h8] at hr
        subst hr
        have hne : ((r : Nat) : Int) ≠ 0 := by omega
        have hnb : (((r : Nat) : Int) == 0) = false := beq_eq_false_iff_ne.2 hne
        clear ka kb k9
        go_enter Tryz.func34, Tryz.ntmps34
        go_wp2_with (first | (go_at_call 52; rw [← HW1.out]; refine (k6.out _ r0).mono ?_; rintro e w2 ⟨rfl, b2⟩; obtain ⟨t0, t1, t2, t3, t4, t5, t6, t7⟩ := HT.out _ b2) | (go_at_call 53; refine (k7.out _ b2).mono ?_; rintro e w3 ⟨rfl, b3⟩; have m9 := H9 _ b3) | (go_at_call 54; refine (k8.out _ b3).mono ?_; rintro e w4 ⟨rfl, b4⟩; have m10 := H10 _ b4) | (go_at_call 55; refine (k9.out _ b4).mono ?_; rintro e w5 ⟨rfl, b5⟩; have m11 := H11 _ b5) | (go_at_call 56; refine (kb.out _ b5).mono ?_; clear kb; rintro e w6 ⟨rfl, b6⟩; have m12 := H12 _ b6) | (go_at_call 56; refine (ka.out _ b6).mono ?_; rintro e w7 ⟨rfl, b7⟩))
        go_ret
        exact ⟨rfl, chain hb1 b4⟩
    · rw [if_neg (by simp), if_pos h7] at hr
      subst hr
      have hne : ((r : Nat) : Int) ≠ 0 := by omega
      have hnb : (((r : Nat) : Int) == 0) = false := beq_eq_false_iff_ne.2 hne
      clear ka kb k9 k8
      go_enter Tryz.func34, Tryz.ntmps34
      go_wp2_with (first | (go_at_call 52; rw [← HW1.out]; refine (k6.out _ r0).mono ?_; rintro e w2 ⟨rfl, b2⟩; obtain ⟨t0, t1, t2, t3, t4, t5, t6, t7⟩ := HT.out _ b2) | (go_at_call 53; refine (k7.out _ b2).mono ?_; rintro e w3 ⟨rfl, b3⟩; have m9 := H9 _ b3) | (go_at_call 54; refine (k8.out _ b3).mono ?_; rintro e w4 ⟨rfl, b4⟩; have m10 := H10 _ b4) | (go_at_call 55; refine (k9.out _ b4).mono ?_; rintro e w5 ⟨rfl, b5⟩; have m11 := H11 _ b5) | (go_at_call 56; refine (kb.out _ b5).mono ?_; clear kb; rintro e w6 ⟨rfl, b6⟩; have m12 := H12 _ b6) | (go_at_call 56; refine (ka.out _ b6).mono ?_; rintro e w7 ⟨rfl, b7⟩))
      go_ret
      exact ⟨rfl, chain hb1 b3⟩
  · rw [if_pos h6] at hr
    subst hr
    have hne : ((r : Nat) : Int) ≠ 0 := by omega
    have hnb : (((r : Nat) : Int) == 0) = false := beq_eq_false_iff_ne.2 hne
    clear ka kb k9 k8 k7
    go_enter Tryz.func34, Tryz.ntmps34
    go_wp2_with (first | (go_at_call 52; rw [← HW1.out]; refine (k6.out _ r0).mono ?_; rintro e w2 ⟨rfl, b2⟩; obtain ⟨t0, t1, t2, t3, t4, t5, t6, t7⟩ := HT.out _ b2) | (go_at_call 53; refine (k7.out _ b2).mono ?_; rintro e w3 ⟨rfl, b3⟩; have m9 := H9 _ b3) | (go_at_call 54; refine (k8.out _ b3).mono ?_; rintro e w4 ⟨rfl, b4⟩; have m10 := H10 _ b4) | (go_at_call 55; refine (k9.out _ b4).mono ?_; rintro e w5 ⟨rfl, b5⟩; have m11 := H11 _ b5) | (go_at_call 56; refine (kb.out _ b5).mono ?_; clear kb; rintro e w6 ⟨rfl, b6⟩; have m12 := H12 _ b6) | (go_at_call 56; refine (ka.out _ b6).mono ?_; rintro e w7 ⟨rfl, b7⟩))
    go_ret
    exact ⟨rfl, chain hb1 b2⟩
end Go.Proofs.YthmecbonjkcnmaaGreat.cf
