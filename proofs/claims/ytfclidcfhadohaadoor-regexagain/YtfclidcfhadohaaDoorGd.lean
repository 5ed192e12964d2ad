/-
  Contracts over this program: whether a tree is an expression's, how deep it is, how many nodes it has (regex.right, Right; the document's every, Deep, Nodes, Right).
-/
import Derived.Test.YtfclidcfhadohaaDoorNd1
import Derived.Test.YtfclidcfhadohaaDoorNd2
import Derived.Test.YtfclidcfhadohaaDoorNd3
import Derived.Test.YtfclidcfhadohaaDoorNd4
import Derived.Test.YtfclidcfhadohaaDoorNd6
import Derived.Test.YtfclidcfhadohaaDoorNd7
namespace Go.Proofs.YtfclidcfhadohaaDoor.st
open Go.ChangeShapes Go.WideShapes Go.ChangeAt Go.RowKit
set_option linter.unusedVariables false

theorem Is.len {w : World} {P : Nat → Prop} {t : Tr} {v : Value} (h : Is w P t v) : ∃ o cap, v = .slice o t.kids.length cap ∧ t.kids.length ≤ 9223372036854775807 := by
  cases h with
  | leaf k q mn mx a cap => exact ⟨_, _, rfl, by simp [Tr.kids]⟩
  | node k q mn mx l b off cap vs hl hc hb hP cells kids => exact ⟨_, _, rfl, by simp only [Tr.kids]; omega⟩

theorem chainG {w w1 w2 : World} (h1 : Below w.heap.size w w1) (h2 : Below w1.heap.size w1 w2) : Below w.heap.size w w2 := h1.trans (h2.mono h1.size)

theorem node_any (t : Tr) (r : Bool) (hr : r = okNode t) : NodeIs 33 t r := by
  intro v w P hi
  obtain ⟨o, cap, rfl, hll⟩ := hi.len
  have heq : EqS t.set (noSet t.set) := heq_of t.set
  have hh : ∀ k, HasAt w (.slice o t.kids.length cap) k (anyKind k t.kids) := fun k x => (hasT_any t.kids k _ rfl _ _ _ (hi.toKids.later (below_alloc w x))).mono fun e w' h => ⟨h.1, chainG (below_alloc _ _) h.2⟩
  have htm := times_any t.min t.max _ rfl
  rw [okB_is] at hr
  unfold okB at hr
  by_cases h1 : t.kind = 1
  · rw [if_pos h1] at hr; rw [h1]; exact node1 w t.set t.min t.max o _ cap _ r hll heq hr
  rw [if_neg h1] at hr
  by_cases h2 : t.kind = 2
  · rw [if_pos h2] at hr; rw [h2]; exact node2 w t.set t.min t.max o _ cap _ _ r hll heq (hh 2) hr
  rw [if_neg h2] at hr
  by_cases h3 : t.kind = 3
  · rw [if_pos h3] at hr; rw [h3]; exact node3 w t.set t.min t.max o _ cap _ _ r hll heq (hh 3) hr
  rw [if_neg h3] at hr
  by_cases h4 : t.kind = 4
  · rw [if_pos h4] at hr; rw [h4]; exact node4 w t.set t.min t.max o _ cap _ _ r hll heq htm hr
  rw [if_neg h4] at hr
  rw [hr]
  exact node5 w _ t.set t.min t.max o _ cap _ heq (beqf h1) (beqf h2) (beqf h3) (beqf h4)

theorem one_any (t : Tr) (r : Bool) (hr : r = okNode t) : NodeIs 41 t r := by
  intro v w P hi
  obtain ⟨o, cap, rfl, hll⟩ := hi.len
  have heq : EqS t.set (noSet t.set) := heq_of t.set
  have hkd := hi.toKids
  rw [okB_is] at hr
  unfold okB at hr
  by_cases h1 : t.kind = 1
  · rw [if_pos h1] at hr; rw [h1]; exact one1 w t.set t.min t.max o _ cap r hll hr
  rw [if_neg h1] at hr
  by_cases h2 : t.kind = 2
  · rw [if_pos h2] at hr; rw [h2]; exact one2 w t.set t.min t.max o _ cap P _ r heq hkd hr
  rw [if_neg h2] at hr
  by_cases h3 : t.kind = 3
  · rw [if_pos h3] at hr; rw [h3]; exact one3 w t.set t.min t.max o _ cap P _ r heq hkd hr
  rw [if_neg h3] at hr
  by_cases h4 : t.kind = 4
  · rw [if_pos h4] at hr; rw [h4]; exact one4 w t.set t.min t.max o _ cap _ r hll heq hr
  rw [if_neg h4] at hr
  rw [hr]
  exact one5 w _ t.set t.min t.max o _ cap (beqf h1) (beqf h2) (beqf h3) (beqf h4)

set_option maxHeartbeats 1000000 in
set_option maxRecDepth 100000 in
theorem right_any (d : Nat) : ∀ (t : Tr) (r : Bool), t.depth ≤ d → r = t.good → NodeIs 20 t r := by
  induction d with
  | zero => intro t r hd; have := t.depth_eq; omega
  | succ d ih =>
    intro t r hd hr v w P hi
    have hDe := t.depth_eq
    have HK : Hid (∀ i, i < t.kids.length → (nthT t.kids i).depth ≤ d) := fun i hi => by have := depth_nth t.kids i hi; omega
    have hnode := node_any t _ rfl
    have HR : Hid (r = (okNode t && goods t.kids)) := by show _ = _; rw [hr, t.good_eq]
    have hnd := hnode v
    have hi1 := fun o => hi.later (below_alloc w o)
    obtain ⟨o, cap, b, off, vs, rfl, hcap, hk⟩ := hi.form
    have hll : t.kids.length ≤ 9223372036854775807 := by
      by_cases h0 : 0 < t.kids.length
      · have := (hk 0 h0).2.1; omega
      · omega
    have hnd2 : ∀ x, Calls Tryd.prog 33 #[.agg #[.int .i64 t.kind, .int .u64 t.set.a, .int .u64 t.set.b, .int .u64 t.set.c, .int .u64 t.set.d, .int .i64 t.min, .int .i64 t.max, .slice o t.kids.length cap]] (w.alloc x) fun e w' => e = .returned (.bool (okNode t)) ∧ Below (w.alloc x).heap.size (w.alloc x) w' := fun x => hnd _ P (hi1 x)
    clear hDe hd hr hi hnode hnd hi1
    generalize okNode t = ok at *
    generalize t.kind = k at *
    generalize t.set = q at *
    generalize t.min = mn at *
    generalize t.max = mx at *
    generalize t.kids = l at *
    cases ok
    · have HX : Hid (r = false) := HR.out
      clear hk HR
      go_enter Tryd.func20, Tryd.ntmps20
      go_wp2_with (go_at_call 33; refine (hnd2 _).mono ?_; rintro e w1 ⟨rfl, b1⟩)
      go_ret
      exact ⟨by rw [HX.out]; rfl, chainG (below_alloc _ _) b1⟩
    · have HX : Hid (r = goods l) := HR.out
      clear HR
      go_enter Tryd.func20, Tryd.ntmps20
      go_wp2_with (go_at_call 33; refine (hnd2 _).mono ?_; rintro e w1 ⟨rfl, b1⟩; have c7 : w1.cell? ⟨w.heap.size, 7, none⟩ = some (.slice o l.length cap) := (cell_same (b1.block _ (by simp)) 7).trans (by simp [go_sem]))
      go_loopw [11] (fun x wr => ∃ (i : Nat), x = .int .i64 i ∧ i ≤ l.length ∧ Below w.heap.size w wr ∧ Hid (goods (l.take i) = true)) (fun x _ => l.length - (intOf x).toNat)
      case atStart => exact ⟨0, rfl, by omega, chainG (below_alloc _ _) b1, rfl⟩
      case round =>
        obtain ⟨i, rfl, hil, hB, HI⟩ := hrel
        by_cases hend : i < l.length
        · obtain ⟨rfl, hcm, hb, hne, hcells, hkid⟩ := hk i hend
          have hcells2 := hcells.same (hB.block b hb)
          have hkid2 := hkid.later hB
          obtain ⟨o2, n2, cap2, hv2⟩ := hkid.shape
          rw [hv2] at hcells2 hkid2
          obtain ⟨k0, k1, k2, k3, k4, k5, k6, k7⟩ := hcells2
          clear hcells hkid hk hv2
          by_cases hyes : (nthT l i).good = true
          · have hcall := ih (nthT l i) true (HK.out i hend) hyes.symm
            have HJ : Hid (goods (l.take (i + 1)) = true) := by show _ = _; rw [goods_take l i hend, HI.out, hyes]; rfl
            clear hyes
            generalize nthT l i = x at *
            go_wp2_with (go_at_call 20; refine (hcall _ _ _ (hkid2.later (below_alloc _ _))).mono ?_; rintro e w2 ⟨rfl, b2⟩)
            go_roundw
            case rel => exact ⟨i + 1, by go_num, by omega, hB.trans (Below.mono (chainG (below_alloc _ _) b2) hB.size), HJ⟩
            case measure => simp [intOf]; omega
          · have hno : (nthT l i).good = false := by simpa using hyes
            have hcall := ih (nthT l i) false (HK.out i hend) hno.symm
            have HF : Hid (r = false) := HX.out.trans (goods_false l i hend hno)
            clear hyes hno
            generalize nthT l i = x at *
            go_wp2_with (go_at_call 20; refine (hcall _ _ _ (hkid2.later (below_alloc _ _))).mono ?_; rintro e w2 ⟨rfl, b2⟩)
            go_ret
            exact ⟨by rw [HF.out]; rfl, hB.trans (Below.mono (chainG (below_alloc _ _) b2) hB.size)⟩
        · have HF : Hid (r = true) := by
            have h := HI.out
            rw [List.take_of_length_le (by omega)] at h
            exact HX.out.trans h
          go_wp2_with (fail)
          go_ret
          exact ⟨by rw [HF.out]; rfl, hB⟩

set_option maxHeartbeats 1000000 in
set_option maxRecDepth 100000 in
theorem every_any (d : Nat) : ∀ (t : Tr) (r : Bool), t.depth ≤ d → r = t.good → NodeIs 28 t r := by
  induction d with
  | zero => intro t r hd; have := t.depth_eq; omega
  | succ d ih =>
    intro t r hd hr v w P hi
    have hDe := t.depth_eq
    have HK : Hid (∀ i, i < t.kids.length → (nthT t.kids i).depth ≤ d) := fun i hi => by have := depth_nth t.kids i hi; omega
    have hnode := one_any t _ rfl
    have HR : Hid (r = (okNode t && goods t.kids)) := by show _ = _; rw [hr, t.good_eq]
    have hnd := hnode v
    have hi1 := fun o => hi.later (below_alloc w o)
    obtain ⟨o, cap, b, off, vs, rfl, hcap, hk⟩ := hi.form
    have hll : t.kids.length ≤ 9223372036854775807 := by
      by_cases h0 : 0 < t.kids.length
      · have := (hk 0 h0).2.1; omega
      · omega
    have hnd2 : ∀ x, Calls Tryd.prog 41 #[.agg #[.int .i64 t.kind, .int .u64 t.set.a, .int .u64 t.set.b, .int .u64 t.set.c, .int .u64 t.set.d, .int .i64 t.min, .int .i64 t.max, .slice o t.kids.length cap]] (w.alloc x) fun e w' => e = .returned (.bool (okNode t)) ∧ Below (w.alloc x).heap.size (w.alloc x) w' := fun x => hnd _ P (hi1 x)
    clear hDe hd hr hi hnode hnd hi1
    generalize okNode t = ok at *
    generalize t.kind = k at *
    generalize t.set = q at *
    generalize t.min = mn at *
    generalize t.max = mx at *
    generalize t.kids = l at *
    cases ok
    · have HX : Hid (r = false) := HR.out
      clear hk HR
      go_enter Tryd.func28, Tryd.ntmps28
      go_wp2_with (go_at_call 41; refine (hnd2 _).mono ?_; rintro e w1 ⟨rfl, b1⟩)
      go_ret
      exact ⟨by rw [HX.out]; rfl, chainG (below_alloc _ _) b1⟩
    · have HX : Hid (r = goods l) := HR.out
      clear HR
      go_enter Tryd.func28, Tryd.ntmps28
      go_wp2_with (go_at_call 41; refine (hnd2 _).mono ?_; rintro e w1 ⟨rfl, b1⟩; have c7 : w1.cell? ⟨w.heap.size, 7, none⟩ = some (.slice o l.length cap) := (cell_same (b1.block _ (by simp)) 7).trans (by simp [go_sem]))
      go_loopw [11] (fun x wr => ∃ (i : Nat), x = .int .i64 i ∧ i ≤ l.length ∧ Below w.heap.size w wr ∧ Hid (goods (l.take i) = true)) (fun x _ => l.length - (intOf x).toNat)
      case atStart => exact ⟨0, rfl, by omega, chainG (below_alloc _ _) b1, rfl⟩
      case round =>
        obtain ⟨i, rfl, hil, hB, HI⟩ := hrel
        by_cases hend : i < l.length
        · obtain ⟨rfl, hcm, hb, hne, hcells, hkid⟩ := hk i hend
          have hcells2 := hcells.same (hB.block b hb)
          have hkid2 := hkid.later hB
          obtain ⟨o2, n2, cap2, hv2⟩ := hkid.shape
          rw [hv2] at hcells2 hkid2
          obtain ⟨k0, k1, k2, k3, k4, k5, k6, k7⟩ := hcells2
          clear hcells hkid hk hv2
          by_cases hyes : (nthT l i).good = true
          · have hcall := ih (nthT l i) true (HK.out i hend) hyes.symm
            have HJ : Hid (goods (l.take (i + 1)) = true) := by show _ = _; rw [goods_take l i hend, HI.out, hyes]; rfl
            clear hyes
            generalize nthT l i = x at *
            go_wp2_with (go_at_call 28; refine (hcall _ _ _ (hkid2.later (below_alloc _ _))).mono ?_; rintro e w2 ⟨rfl, b2⟩)
            go_roundw
            case rel => exact ⟨i + 1, by go_num, by omega, hB.trans (Below.mono (chainG (below_alloc _ _) b2) hB.size), HJ⟩
            case measure => simp [intOf]; omega
          · have hno : (nthT l i).good = false := by simpa using hyes
            have hcall := ih (nthT l i) false (HK.out i hend) hno.symm
            have HF : Hid (r = false) := HX.out.trans (goods_false l i hend hno)
            clear hyes hno
            generalize nthT l i = x at *
            go_wp2_with (go_at_call 28; refine (hcall _ _ _ (hkid2.later (below_alloc _ _))).mono ?_; rintro e w2 ⟨rfl, b2⟩)
            go_ret
            exact ⟨by rw [HF.out]; rfl, hB.trans (Below.mono (chainG (below_alloc _ _) b2) hB.size)⟩
        · have HF : Hid (r = true) := by
            have h := HI.out
            rw [List.take_of_length_le (by omega)] at h
            exact HX.out.trans h
          go_wp2_with (fail)
          go_ret
          exact ⟨by rw [HF.out]; rfl, hB⟩
end Go.Proofs.YtfclidcfhadohaaDoor.st
