/-
  Contracts over this program: a text on its way through passes (tok.way.pass), the normal text (tok.normal).
-/
import Derived.Test.YthmecbonjkcnmaaGreatM15
import Derived.Test.YthmecbonjkcnmaaGreatM11
import Derived.BigQuiet
namespace Go.Proofs.YthmecbonjkcnmaaGreat.tk
open Go.ChangeShapes Go.WideShapes Go.ChangeAt Go.RowKit
open ru (Ru rightE growN Rus apT apE ApIs Good)
open cf (Cf Cp cv CfAt CBox cfE cbox_new Pss nthP grs firstE passE)
set_option linter.unusedVariables false
set_option maxRecDepth 100000

theorem below_alloc (w : World) (o : Obj) : Below w.heap.size w (w.alloc o) := (Below.refl _ _).alloc (Nat.le_refl _) o
/-- what is left of the passes -/
def LeftAt (w : World) (v : Value) (l : List (List Ru)) : Prop := ∃ o cap, v = .slice o l.length cap ∧ Pss w o cap l
theorem LeftAt.later {w w' : World} {v : Value} {l : List (List Ru)} (h : LeftAt w v l) (b : Below w.heap.size w w') : LeftAt w' v l := by
  obtain ⟨o, c, e, h⟩ := h
  exact ⟨o, c, e, h.later b⟩
theorem pss_tail {w : World} {b off cap : Nat} {p : List Ru} {l : List (List Ru)} (h : Pss w (some ⟨b, off, none⟩) cap (p :: l)) : Pss w (some ⟨b, off + 1, none⟩) (cap - 1) l := by
  have h1 := h.fit
  have h2 := h.top
  refine ⟨by simp at h1; omega, by omega, fun i hi => ?_⟩
  obtain ⟨b', off', v, e, g1, g2, g3⟩ := h.lie (i + 1) (by simp; omega)
  cases e
  exact ⟨b, off + 1, v, rfl, g1, by rw [show off + 1 + i = off + (i + 1) by omega]; exact g2, g3⟩
theorem pss_none {w : World} (o : Option Addr) : Pss w o 0 [] := ⟨Nat.le_refl _, by omega, fun i hi => by simp at hi⟩
def yv (t : ByteArray) (v : Value) : Array Value := #[.string t, v]
def PassOut (W0 : World) (yb : Nat) (p : List Ru) (l : List (List Ru)) (t : ByteArray) (W : World) (e : Ending) (w' : World) : Prop :=
  e = .returned (.bool true) ∧ ∃ v', w'.heap[yb]? = some (.cells (yv (apT p t) v') 82 (0, 0)) ∧ LeftAt W0 v' l ∧ w'.os = W.os ∧ w'.tape = W.tape ∧ w'.output = W.output ∧ W.heap.size ≤ w'.heap.size ∧ ∀ k, k < W.heap.size → k ≠ yb → w'.heap[k]? = W.heap[k]?
set_option maxHeartbeats 2000000 in
theorem pass_end (yb : Nat) (t : ByteArray) (v : Value) (W : World) (hb : W.heap[yb]? = some (.cells (yv t v) 82 (0, 0))) (hv : LeftAt W v []) : Calls Tryz.prog 42 #[.pointer (some ⟨yb, 0, none⟩)] W fun e w' => e = .returned (.bool false) ∧ Below W.heap.size W w' := by
  obtain ⟨o, cap, rfl, h⟩ := hv
  have c1 : W.cell? ⟨yb, 1, none⟩ = some (.slice o 0 cap) := by rw [Lib.cell_of_heap hb]; rfl
  clear hb h
  go_enter Tryz.func42, Tryz.ntmps42
  go_wp2_with (fail)
  go_ret
  exact ⟨rfl, Below.refl _ _⟩
theorem set_heap (w : World) (g : Nat) (cs : Array Value) (t : TypeId) (i : Nat) (v : Value) (h : w.heap[g]? = some (.cells cs t (0, 0))) : (w.setCell ⟨g, i, none⟩ v).heap[g]? = some (.cells (cs.setIfInBounds i v) t (0, 0)) := by
  show (w.heap.modify g _)[g]? = _
  rw [Array.getElem?_modify, if_pos rfl, h]
  rfl
set_option maxHeartbeats 2000000 in
theorem pass_any (yb : Nat) (p : List Ru) (l : List (List Ru)) (t : ByteArray) (ht : t.size ≤ 262144) (v : Value) (W : World) (hb : W.heap[yb]? = some (.cells (yv t v) 82 (0, 0))) (W0 : World) (b0 : Below W0.heap.size W0 W) (hv : LeftAt W0 v (p :: l)) (hl : l.length ≤ 100) : Calls Tryz.prog 42 #[.pointer (some ⟨yb, 0, none⟩)] W (PassOut W0 yb p l t W) := by
  obtain ⟨o, cap, rfl, h0⟩ := hv
  have h := h0.later b0
  obtain ⟨b, off, u, rfl, hbl, hc, hru⟩ := h.lie 0 (by simp)
  rw [Nat.add_zero] at hc
  have hlt : yb < W.heap.size := (Array.getElem?_eq_some_iff.1 hb).1
  have c0 : W.cell? ⟨yb, 0, none⟩ = some (.string t) := by rw [Lib.cell_of_heap hb]; rfl
  have c1 : W.cell? ⟨yb, 1, none⟩ = some (.slice (some ⟨b, off, none⟩) (l.length + 1) cap) := by rw [Lib.cell_of_heap hb]; rfl
  obtain ⟨x, hx⟩ : ∃ x, x = apE p t := ⟨_, rfl⟩
  have H16 := (show Hid (∀ w, Below W.heap.size W w → Calls Tryz.prog 16 #[u, .string t] w fun e w' => e = .returned (.tuple #[.string (apT p t), .int .i64 (x : Int)]) ∧ Below w.heap.size w w') from fun w b => ru.ap_any p t (by omega) _ x rfl hx u w (hru.below b))
  have HB := (show Hid (W.heap[yb]? = some (.cells (yv t (.slice (some ⟨b, off, none⟩) (l.length + 1) cap)) 82 (0, 0))) from hb)
  have HP := (show Hid (Pss W0 (some ⟨b, off, none⟩) cap (p :: l)) from h0)
  have hf := h.fit
  have hto := h.top
  simp only [List.length_cons] at hf
  clear hx hru h h0 hb
  obtain ⟨t2, ht2⟩ : ∃ t2, t2 = apT p t := ⟨_, rfl⟩
  rw [← ht2] at H16
  have HT2 := (show Hid (t2 = apT p t) from ht2)
  clear ht2
  have HL0 := (show Hid (l.length = 0 → l = []) from List.length_eq_zero_iff.1)
  obtain ⟨n, hn⟩ : ∃ n, n = l.length := ⟨_, rfl⟩
  have HN := (show Hid (n = l.length) from hn)
  rw [← hn] at c1 HB hf hl
  clear hn
  go_enter Tryz.func42, Tryz.ntmps42
  go_wp2_with (fail)
  go_region_with (go_at_call 16; refine (H16.out _ (Below.drew (Below.refl _ _))).mono ?_; rintro e w2 ⟨rfl, b2⟩; have b3 := (Below.drew (Below.refl W.heap.size W)).trans b2; have hb2 := (b3.block yb hlt).trans HB.out; have d0 : w2.cell? ⟨yb, 0, none⟩ = some (.string t) := (by rw [Lib.cell_of_heap hb2]; rfl); have d1 : w2.frozen? ⟨yb, 0, none⟩ = false := Lib.frozen_of_heap hb2 0)
  all_goals (
    rename_i K9 hK9
    refine hK9 _ _ ?_
    clear hK9
    have hb3 := set_heap w2 yb _ _ 0 (.string t2) hb2
    have HF := (show Hid ((∀ k, k < W.heap.size → k ≠ yb → (w2.setCell ⟨yb, 0, none⟩ (.string t2)).heap[k]? = W.heap[k]?) ∧ (w2.setCell ⟨yb, 0, none⟩ (.string t2)).os = W.os ∧ (w2.setCell ⟨yb, 0, none⟩ (.string t2)).tape = W.tape ∧ (w2.setCell ⟨yb, 0, none⟩ (.string t2)).output = W.output ∧ W.heap.size ≤ (w2.setCell ⟨yb, 0, none⟩ (.string t2)).heap.size) from ⟨fun k hk hne => (Below.heap_setCell _ _ _ k hne).trans (b3.block k hk), b3.os, b3.tape, b3.output, by simpa using b3.size⟩)
    have HB3 := (show Hid ((w2.setCell ⟨yb, 0, none⟩ (.string t2)).heap[yb]? = some (.cells (yv t2 (.slice (some ⟨b, off, none⟩) (n + 1) cap)) 82 (0, 0))) from hb3)
    have q1 : (w2.setCell ⟨yb, 0, none⟩ (.string t2)).cell? ⟨yb, 1, none⟩ = some (.slice (some ⟨b, off, none⟩) (n + 1) cap) := by rw [Lib.cell_of_heap hb3]; rfl
    have q2 : (w2.setCell ⟨yb, 0, none⟩ (.string t2)).frozen? ⟨yb, 1, none⟩ = false := Lib.frozen_of_heap hb3 1
    clear hb3 d0 d1 hb2 b3 b2 c0 c1 hc H16 HB
    generalize w2.setCell ⟨yb, 0, none⟩ (.string t2) = W3 at *
    by_cases hc1 : cap = 1
    · have hn0 : n = 0 := by omega
      subst hc1 hn0
      go_wp2_with (fail)
      go_ret
      obtain ⟨f1, f2, f3, f4, f5⟩ := HF.out
      have hl0 : l = [] := HL0.out (by have := HN.out; omega)
      refine ⟨rfl, (.slice (some ⟨b, off, none⟩) 0 0), by rw [set_heap W3 yb _ _ 1 _ HB3.out, ← HT2.out]; rfl, ⟨some ⟨b, off, none⟩, 0, by rw [hl0]; rfl, by rw [hl0]; exact pss_none _⟩, f2, f3, f4, by simpa using f5, fun k hk hne => (Below.heap_setCell _ _ _ k hne).trans (f1 k hk hne)⟩
    · have hc2 : ¬ (cap = 1) := hc1
      go_wp2_with (fail)
      go_ret
      obtain ⟨f1, f2, f3, f4, f5⟩ := HF.out
      refine ⟨rfl, (.slice (some ⟨b, off + 1, none⟩) n (cap - 1)), by rw [set_heap W3 yb _ _ 1 _ HB3.out, ← HT2.out]; rfl, ⟨some ⟨b, off + 1, none⟩, cap - 1, by rw [HN.out], pss_tail HP.out⟩, f2, f3, f4, by simpa using f5, fun k hk hne => (Below.heap_setCell _ _ _ k hne).trans (f1 k hk hne)⟩)

/-- a text behind all passes -/
def nrm (ps : List (List Ru)) (s : ByteArray) : ByteArray := ps.foldl (fun s p => apT p s) s
theorem firstE_mem {l : List (List Ru)} (h : firstE l = 0) : ∀ p ∈ l, rightE p = 0 := by
  induction l with
  | nil => intro p hp; simp at hp
  | cons q l ih =>
    intro p hp
    unfold firstE at h
    by_cases hq : rightE q = 0
    · rw [if_pos hq] at h
      rcases List.mem_cons.1 hp with rfl | hp
      · exact hq
      · exact ih h p hp
    · rw [if_neg hq] at h; exact absurd h hq
theorem passes_ok {c : Cf} (h : cfE c = 0) : c.ps.length ≤ 4 ∧ (∀ p ∈ c.ps, ru.Good p) ∧ grs 1 c.ps ≤ 32 := by
  rw [cf.cfE_eq] at h
  have hp : passE c.ps = 0 := by
    by_cases e : passE c.ps = 0
    · exact e
    · rw [if_pos e] at h; exact h
  unfold passE at hp
  split at hp
  · cases hp
  · rename_i h1
    split at hp
    · rename_i h2; exact absurd hp h2
    · rename_i h2
      split at hp
      · cases hp
      · rename_i h3
        exact ⟨by omega, fun p hp' => ru.rightE_zero (firstE_mem (Decidable.not_not.1 h2) p hp'), by omega⟩
theorem apT_size {p : List Ru} (h : ru.Good p) (s : ByteArray) (hs : s.size ≤ 262144) : (apT p s).size ≤ growN 1 p * s.size := by
  unfold apT
  rw [if_pos ⟨h, hs⟩]
  have := ru.ap_grow h s.data.toList
  show (ru.ap p s.data.toList).toArray.size ≤ _
  simpa using this
theorem grs_mul : ∀ (l : List (List Ru)) (n : Nat), grs n l = n * grs 1 l
  | [], n => by simp [grs]
  | p :: l, n => by
    unfold grs
    rw [grs_mul l (n * growN 1 p), grs_mul l (1 * growN 1 p), Nat.one_mul, Nat.mul_assoc]
theorem grs_pos : ∀ l : List (List Ru), 1 ≤ grs 1 l
  | [] => Nat.le_refl _
  | q :: l => by
    show 1 ≤ grs (1 * growN 1 q) l
    rw [grs_mul, Nat.one_mul]
    exact Nat.mul_pos (ru.growN_ge q 1) (grs_pos l)
/-- a text that has room on its way -/
def Fit (ps : List (List Ru)) (t : ByteArray) : Prop := grs 1 ps * t.size ≤ 262144
theorem Fit.small {ps : List (List Ru)} {t : ByteArray} (h : Fit ps t) : t.size ≤ 262144 := Nat.le_trans (Nat.le_mul_of_pos_left _ (grs_pos ps)) h
theorem Fit.step {p : List Ru} {ps : List (List Ru)} {t : ByteArray} (h : Fit (p :: ps) t) (hg : ru.Good p) : Fit ps (apT p t) := by
  have h1 : grs 1 (p :: ps) = growN 1 p * grs 1 ps := by
    show grs (1 * growN 1 p) ps = _
    rw [grs_mul, Nat.one_mul]
  have h2 := apT_size hg t h.small
  unfold Fit at h ⊢
  rw [h1] at h
  refine Nat.le_trans (Nat.mul_le_mul_left _ h2) (Nat.le_trans (Nat.le_of_eq ?_) h)
  rw [← Nat.mul_assoc, Nat.mul_comm (grs 1 ps)]
theorem Fit.nrm : ∀ {ps : List (List Ru)} {t : ByteArray}, Fit ps t → (∀ p ∈ ps, ru.Good p) → (nrm ps t).size ≤ 262144
  | [], t, h, _ => h.small
  | p :: ps, t, h, hg => (h.step (hg p (by simp))).nrm fun q hq => hg q (by simp [hq])
theorem fit_of {c : Cf} (h : cfE c = 0) {s : ByteArray} (hs : s.size ≤ 4096) : Fit c.ps s := by
  have := (passes_ok h).2.2
  exact Nat.le_trans (Nat.mul_le_mul this hs) (by decide)
/-- a text on its way: what is left, and that the whole way leads to the normal text -/
structure Wy (w : World) (yb : Nat) (ps : List (List Ru)) (s : ByteArray) (l : List (List Ru)) (t : ByteArray) (wr : World) : Prop where
  box : ∃ v, wr.heap[yb]? = some (.cells (yv t v) 82 (0, 0)) ∧ LeftAt w v l
  eq : nrm ps s = nrm l t
  fit : Fit l t
  good : ∀ p ∈ l, ru.Good p
  be : Below w.heap.size w wr
theorem Wy.next {w : World} {ps : List (List Ru)} {s : ByteArray} {q : List Ru} {l : List (List Ru)} {t : ByteArray} {wr w4 : World} (h : Wy w (w.heap.size + 1) ps s (q :: l) t wr) (po : ∃ v', w4.heap[w.heap.size + 1]? = some (.cells (yv (apT q t) v') 82 (0, 0)) ∧ LeftAt w v' l ∧ w4.os = wr.os ∧ w4.tape = wr.tape ∧ w4.output = wr.output ∧ wr.heap.size ≤ w4.heap.size ∧ ∀ k, k < wr.heap.size → k ≠ w.heap.size + 1 → w4.heap[k]? = wr.heap[k]?) : Wy w (w.heap.size + 1) ps s l (apT q t) w4 := by
  obtain ⟨v', h1, h2, h3, h4, h5, h6, h7⟩ := po
  exact ⟨⟨v', h1, h2⟩, h.eq, h.fit.step (h.good q (by simp)), fun p hp => h.good p (by simp [hp]), h3.trans h.be.os, h4.trans h.be.tape, h5.trans h.be.output, Nat.le_trans h.be.size h6, fun k hk => (h7 k (Nat.lt_of_lt_of_le hk h.be.size) (by omega)).trans (h.be.block k hk)⟩
set_option maxHeartbeats 2000000 in
theorem normal_any (c : Cf) (p : Cp) (s : ByteArray) (hs : s.size ≤ 4096) (w : World) (hv : CfAt w c p) (h0 : cfE c = 0) : Calls Tryz.prog 23 #[.agg (cv c p), .string s] w fun e w' => e = .returned (.string (nrm c.ps s)) ∧ Below w.heap.size w w' := by
  obtain ⟨hp1, hp2, hp3⟩ := passes_ok h0
  have HFIT := (show Hid (Fit c.ps s) from fit_of h0 hs)
  have HG := (show Hid (∀ p ∈ c.ps, ru.Good p) from hp2)
  have HL := (show Hid (LeftAt w (.slice p.po c.ps.length p.pc) c.ps) from ⟨_, _, rfl, hv.ps⟩)
  unfold cv
  clear hv h0 hp2 hp3
  go_enter Tryz.func23, Tryz.ntmps23
  go_wp2_with (fail)
  have hb1 := below_alloc w (.cells (cv c p) 34)
  have HST := (show Hid (∀ W, W = ((w.alloc (.cells (cv c p) 34)).alloc (.cells (yv s (.slice p.po c.ps.length p.pc)) 82)) → Wy w (w.heap.size + 1) c.ps s c.ps s W) from by
    rintro W rfl
    have h2 := below_alloc (w.alloc (.cells (cv c p) 34)) (.cells (yv s (.slice p.po c.ps.length p.pc)) 82)
    refine ⟨⟨_, ?_, HL.out⟩, rfl, HFIT.out, HG.out, hb1.trans (h2.mono hb1.size)⟩
    have := World.alloc_heap_new (w.alloc (.cells (cv c p) 34)) (.cells (yv s (.slice p.po c.ps.length p.pc)) 82)
    rw [World.size_alloc] at this
    exact this)
  unfold cv at HST
  clear hb1 HL HFIT HG
  go_loopg [13] (c.ps.length) (fun k y wr => ∃ (l : List (List Ru)) (t : ByteArray), Hid (k = l.length) ∧ Hid (l.length ≤ 4) ∧ Hid (Wy w (w.heap.size + 1) c.ps s l t wr))
  case atStart => exact ⟨c.ps, s, rfl, hp1, HST.out _ rfl⟩
  case round =>
    obtain ⟨l, t, HK, HL4, HW⟩ := hrel
    clear HST
    obtain ⟨v, hbv, hlv⟩ := HW.out.box
    have hlt : w.heap.size + 1 < wr.heap.size := (Array.getElem?_eq_some_iff.1 hbv).1
    cases l with
    | nil =>
      have h42 := pass_end (w.heap.size + 1) t v wr hbv (hlv.later HW.out.be)
      have HE := (show Hid (nrm c.ps s = t) from HW.out.eq)
      have HBX := (show Hid (∀ W, Below wr.heap.size wr W → W.cell? ⟨w.heap.size + 1, 0, none⟩ = some (.string t)) from fun W b => by rw [Lib.cell_of_heap ((b.block _ hlt).trans hbv)]; rfl)
      clear hbv hlv
      go_wp2_with (go_at_call 42; refine h42.mono ?_; rintro e w4 ⟨rfl, b4⟩; have d0 := HBX.out w4 b4)
      go_ret
      exact ⟨by rw [HE.out]; rfl, HW.out.be.trans (b4.mono HW.out.be.size)⟩
    | cons q l =>
      have hl4 := HL4.out
      simp only [List.length_cons] at hl4
      have h42 := pass_any (w.heap.size + 1) q l t HW.out.fit.small v wr hbv w HW.out.be hlv (by omega)
      clear hbv hlv
      unfold PassOut at h42
      go_wp2_with (fail)
      go_at_call 42
      refine h42.mono ?_
      rintro e w4 ⟨rfl, po⟩
      have HN := (show Hid (Wy w (w.heap.size + 1) c.ps s l (apT q t) w4) from HW.out.next po)
      clear h42 po
      go_wp2_with (fail)
      go_roundg (l.length)
      case rel => exact ⟨l, apT q t, rfl, by show _ ≤ _; omega, HN⟩
      case measure => have := HK.out; simp only [List.length_cons] at this; omega
end Go.Proofs.YthmecbonjkcnmaaGreat.tk
