/-
  Contracts over this program: fretsawref07's from: one behind the other, one beside the other.
-/
import Derived.Test.YtfilndgbgdnpiaaKXf
namespace Go.Proofs.Ytfilndgbgdnpiaa.nb
open Go.ChangeShapes Go.WideShapes Go.ChangeAt Go.RowKit
open st (Tr Q4 nodesOf goods okNode Is Box nthT)
open nf (Ed IRow icells dOf)
set_option linter.unusedVariables false

theorem PlOf.put0 {S : Nat → Prop} {n : Nat} {P : List Int} (h : PlOf S n P) (j : Nat) (hj : ¬ S j) : PlOf S n (P.set j 0) := by
  refine ⟨by rw [List.length_set]; exact h.len, fun i hi => ?_⟩
  rw [List.length_set] at hi
  rw [List.getElem_set]
  by_cases e : j = i
  · rw [if_pos e]
    exact .inr ⟨rfl, by rw [← e]; exact hj⟩
  · rw [if_neg e]
    exact h.bit i hi
theorem tkC_snoc (x : Tx) : ∀ (l : List Tr) (t : Tr) (a b : Nat), TkC x (l ++ [t]) a b ↔ Sq (TkC x l) (Tk x t) a b
  | [], t, a, b => by
    show TkC x [t] a b ↔ _
    rw [TkC]
    constructor
    · rintro ⟨k, h1, h2⟩
      rw [TkC] at h2
      subst h2
      exact ⟨a, by rw [TkC], h1⟩
    · rintro ⟨k, h1, h2⟩
      rw [TkC] at h1
      subst h1
      exact ⟨b, h2, by rw [TkC]⟩
  | u :: l, t, a, b => by
    show TkC x (u :: (l ++ [t])) a b ↔ _
    rw [TkC]
    constructor
    · rintro ⟨k, h1, h2⟩
      obtain ⟨c, h3, h4⟩ := (tkC_snoc x l t k b).1 h2
      exact ⟨c, by rw [TkC]; exact ⟨k, h1, h3⟩, h4⟩
    · rintro ⟨c, h1, h2⟩
      rw [TkC] at h1
      obtain ⟨k, h3, h4⟩ := h1
      exact ⟨k, h3, (tkC_snoc x l t k b).2 ⟨c, h4, h2⟩⟩
theorem tkA_snoc (x : Tx) : ∀ (l : List Tr) (t : Tr) (a b : Nat), TkA x (l ++ [t]) a b ↔ TkA x l a b ∨ Tk x t a b
  | [], t, a, b => by
    show TkA x [t] a b ↔ _
    rw [TkA, TkA, TkA]
    exact or_comm
  | u :: l, t, a, b => by
    show TkA x (u :: (l ++ [t])) a b ↔ _
    rw [TkA, TkA, tkA_snoc x l t a b, or_assoc]
theorem img_seq (s : ByteArray) (l : List Tr) (t : Tr) (S : Nat → Prop) (j : Nat) : Img (s.size + 1) (Tk (txOf s) t) (Img (s.size + 1) (TkC (txOf s) l) S) j ↔ Img (s.size + 1) (TkC (txOf s) (l ++ [t])) S j := by
  constructor
  · rintro ⟨c, h1, ⟨a, h2, h3, h4⟩, h5⟩
    exact ⟨a, h2, h3, (tkC_snoc _ l t a j).2 ⟨c, h4, h5⟩⟩
  · rintro ⟨a, h2, h3, h4⟩
    obtain ⟨c, h5, h6⟩ := (tkC_snoc _ l t a j).1 h4
    have hr := (tkC_range (txOf s) l a c h5).2 (by show a ≤ s.size; omega)
    have hr' : c ≤ s.size := hr
    exact ⟨c, by omega, ⟨a, h2, h3, h5⟩, h6⟩
theorem below_of {w W : World} {n : Nat} (h : Below w.heap.size w W) : w.heap.size ≤ W.heap.size := h.size
set_option maxHeartbeats 4000000 in
set_option maxRecDepth 100000 in
theorem from2 (s : ByteArray) (hs : s.size ≤ 60) (t : Tr) (hk : t.kind = 2) (hkids : ∀ i, i < t.kids.length → FromIs s (nthT t.kids i)) : FromIs s t := by
  intro S P g tv w Q0 hP hR hI
  obtain ⟨o, cap, b, off, vs, rfl, hcap, hki⟩ := hI.form
  have hll : t.kids.length ≤ 9223372036854775807 := by
    by_cases h0 : 0 < t.kids.length
    · have := (hki 0 h0).2.1; omega
    · omega
  have hm : ∀ W, (Instr.makeSlice 79 (.int .i64 ((s.size : Int) + 1)) (.int .i64 ((s.size : Int) + 1))).run Try.prog W = .ok (.slice (some ⟨W.heap.size, 0, none⟩) (s.size + 1) (s.size + 1)) (W.alloc (.cells (icells (List.replicate (s.size + 1) 0)) 3)) := fun W => by
    have := make79 (s.size + 1) (by omega) W
    rw [Int.natCast_add] at this
    exact this
  obtain ⟨w2, HW2⟩ : ∃ w2, Hid (w2 = (w.alloc (.cells #[.int .i64 t.kind, .int .u64 t.set.a, .int .u64 t.set.b, .int .u64 t.set.c, .int .u64 t.set.d, .int .i64 t.min, .int .i64 t.max, .slice o t.kids.length cap] 28)).alloc (.cells (icells (List.replicate (s.size + 1) 0)) 3)) := ⟨_, rfl⟩
  have HT0 := (show Hid _ from two_new w t _ (s.size + 1) w2 HW2.out)
  have HTK := (show Hid (∀ i j, Tk (txOf s) t i j ↔ TkC (txOf s) t.kids i j) from fun i j => by
    cases t with
    | node k q mn mx l =>
      simp only [Tr.kind] at hk
      rw [Tk, if_neg (by omega), if_pos hk]
      rfl)
  have HPP := (show Hid (PlOf S (s.size + 1) P) from hP)
  have HRR := (show Hid (∀ W, Below w.heap.size w W → IRow W g P) from fun W h => hR.later h)
  have HKI := (show Hid _ from hki)
  have HKD := (show Hid _ from hkids)
  have hlen := hP.len
  clear hP hR hI hki hkids
  unfold trV
  rw [hk] at HW2 ⊢
  go_enter Try.func37, Try.ntmps37
  go_wp2
  rw [← HW2.out]
  clear hm
  go_loopw [50] (fun x wr => ∃ (i : Nat) (Q : List Int), x = .int .i64 i ∧ i ≤ s.size + 1 ∧ Hid (Two w t (.slice o t.kids.length cap) (s.size + 1) wr Q) ∧ Hid (PlOf (fun j => j < i ∧ S j) (s.size + 1) Q)) (fun x _ => s.size + 1 - (intOf x).toNat)
  case atStart => exact ⟨0, _, rfl, by omega, HT0, (plOf_none _).to fun j _ => ⟨fun h => h.elim, fun h => by omega⟩⟩
  case round =>
    obtain ⟨i, Q, rfl, hi, HT, HQ⟩ := hrel
    clear HT0
    have hQl := HQ.out.len
    by_cases hin : i < s.size + 1
    · have hpr := HRR.out wr HT.out.be
      have hpi := hpr.cell i (by omega)
      have kc := HT.out.out.cell i (by omega)
      have kf := HT.out.out.fz i
      have hii : (i : Int) < (s.size : Int) + 1 := by omega
      rcases HPP.out.bit i (by omega) with ⟨e1, hSi⟩ | ⟨e0, hSn⟩
      · rw [e1] at hpi
        have HQ2 := (show Hid (PlOf (fun j => j < i + 1 ∧ S j) (s.size + 1) (Q.set i 1)) from (HQ.out.put i hin).to fun j _ => by
          constructor
          · rintro (⟨h1, h2⟩ | rfl)
            · exact ⟨by omega, h2⟩
            · exact ⟨by omega, hSi⟩
          · rintro ⟨h1, h2⟩
            by_cases e : j = i
            · exact .inr e
            · exact .inl ⟨by omega, h2⟩)
        clear hpr HQ
        go_wp2
        go_roundw
        case rel => exact ⟨i + 1, _, by go_num, by omega, HT.out.put i 1, HQ2⟩
        case measure => simp [intOf]; omega
      · rw [e0] at hpi
        have HQ2 := (show Hid (PlOf (fun j => j < i + 1 ∧ S j) (s.size + 1) (Q.set i 0)) from (HQ.out.put0 i (fun h => by omega)).to fun j _ => by
          constructor
          · rintro ⟨h1, h2⟩
            exact ⟨by omega, h2⟩
          · rintro ⟨h1, h2⟩
            by_cases e : j = i
            · subst e; exact absurd h2 hSn
            · exact ⟨by omega, h2⟩)
        clear hpr HQ
        go_wp2
        go_roundw
        case rel => exact ⟨i + 1, _, by go_num, by omega, HT.out.put i 0, HQ2⟩
        case measure => simp [intOf]; omega
    · have hbx := HT.out.box
      have hb7 : wr.cell? ⟨w.heap.size, 7, none⟩ = some (.slice o t.kids.length cap) := by rw [Lib.cell_of_heap hbx]; rfl
      have HQ0 := (show Hid (PlOf (Img (s.size + 1) (TkC (txOf s) (t.kids.take 0)) S) (s.size + 1) Q) from HQ.out.to fun j hj => by
        rw [List.take_zero]
        constructor
        · rintro ⟨h1, h2⟩
          exact ⟨j, hj, h2, by rw [TkC]⟩
        · rintro ⟨k, h1, h2, h3⟩
          rw [TkC] at h3
          subst h3
          exact ⟨by omega, h2⟩)
      have hii : ¬ (i : Int) < (s.size : Int) + 1 := by omega
      have HO := (show Hid _ from HT.out.out)
      have HB := (show Hid _ from HT.out.be)
      clear hbx HQ HT
      go_wp2
      go_loopw [7, 64] (fun u x wr => ∃ (i g' : Nat) (Q : List Int), u = .slice (some ⟨g', 0, none⟩) (s.size + 1) (s.size + 1) ∧ x = .int .i64 i ∧ i ≤ t.kids.length ∧ w.heap.size ≤ g' ∧ Hid (IRow wr g' Q) ∧ Hid (PlOf (Img (s.size + 1) (TkC (txOf s) (t.kids.take i)) S) (s.size + 1) Q) ∧ Below w.heap.size w wr) (fun _ x _ => t.kids.length - (intOf x).toNat)
      case atStart => exact ⟨0, _, Q, rfl, rfl, by omega, by omega, HO, HQ0, HB.out⟩
      case round =>
        clear HO HB HQ0 hb7
        obtain ⟨i2, g', Q2, rfl, rfl, hi2, hg', HIR, HPQ, hB⟩ := hrel
        by_cases hend : i2 < t.kids.length
        · obtain ⟨rfl, hcm, hb, hne, hcells, hkid⟩ := HKI.out i2 hend
          have hcells2 := hcells.same (hB.block b hb)
          have hkid2 := hkid.later hB
          obtain ⟨o2, n2, cap2, hv2⟩ := hkid.shape
          rw [hv2] at hcells2 hkid2
          obtain ⟨k0, k1, k2, k3, k4, k5, k6, k7⟩ := hcells2
          have hcall := HKD.out i2 hend
          have HNX := (show Hid (∀ Q3, PlOf (Img (s.size + 1) (Tk (txOf s) (nthT t.kids i2)) (Img (s.size + 1) (TkC (txOf s) (t.kids.take i2)) S)) (s.size + 1) Q3 → PlOf (Img (s.size + 1) (TkC (txOf s) (t.kids.take (i2 + 1))) S) (s.size + 1) Q3) from fun Q3 h => h.to fun j _ => by rw [st.take_nthT t.kids i2 hend]; exact img_seq s _ _ S j)
          clear hcells hkid hv2
          generalize nthT t.kids i2 = x at *
          have hbig : Below wr.heap.size wr (wr.alloc (.cells #[.int .i64 x.kind, .int .u64 x.set.a, .int .u64 x.set.b, .int .u64 x.set.c, .int .u64 x.set.d, .int .i64 x.min, .int .i64 x.max, .slice o2 n2 cap2] 28)) := nf.below_alloc _ _
          have c37 := hcall _ Q2 g' _ _ _ HPQ.out (HIR.out.later hbig) (hkid2.later hbig)
          go_wp2_with (go_at_call 37; refine c37.mono ?_; rintro e w3 ⟨g3, Q3, rfl, hg3, hr3, hp3, b3⟩; have HR3 := (show Hid (IRow w3 g3 Q3) from hr3); have HP3 := (show Hid _ from HNX.out Q3 hp3); clear hr3 hp3)
          go_roundw
          case rel => exact ⟨i2 + 1, g3, Q3, rfl, by go_num, by omega, by have := hbig.size; have := hB.size; omega, HR3, HP3, nf.chain hB (nf.chain hbig b3)⟩
          case measure => simp [intOf]; omega
        · have HQ2 := (show Hid (PlOf (Img (s.size + 1) (Tk (txOf s) t) S) (s.size + 1) Q2) from HPQ.out.to fun j hj => by
            rw [List.take_of_length_le (by omega)]
            exact ⟨fun ⟨k, h1, h2, h3⟩ => ⟨k, h1, h2, (HTK.out k j).2 h3⟩, fun ⟨k, h1, h2, h3⟩ => ⟨k, h1, h2, (HTK.out k j).1 h3⟩⟩)
          clear HPQ
          go_wp2
          go_ret
          exact ⟨_, Q2, rfl, hg', HIR.out, HQ2.out, hB⟩
end Go.Proofs.Ytfilndgbgdnpiaa.nb
