/-
  Contracts over this program: how deep a tree is and how many nodes it has, up to so many (the document's Deep, Nodes); Right, the program's and the document's.
-/
import Derived.Test.YtfclidcfhadohaaDoorGd
namespace Go.Proofs.YtfclidcfhadohaaDoor.st
open Go.ChangeShapes Go.WideShapes Go.ChangeAt Go.RowKit
set_option linter.unusedVariables false

def UpIs (f : Nat) (t : Tr) (most r : Nat) : Prop := ∀ v w P, Is w P t v → Calls Tryd.prog f #[.agg #[.int .i64 t.kind, .int .u64 t.set.a, .int .u64 t.set.b, .int .u64 t.set.c, .int .u64 t.set.d, .int .i64 t.min, .int .i64 t.max, v], .int .i64 most] w fun e w' => e = .returned (.int .i64 r) ∧ Below w.heap.size w w'

set_option maxHeartbeats 1000000 in
set_option maxRecDepth 100000 in
theorem deep_any (d : Nat) : ∀ (t : Tr) (most r : Nat), t.depth ≤ d → 1 ≤ most → most ≤ 1000 → r = Min.min t.depth most → UpIs 26 t most r := by
  induction d with
  | zero => intro t most r hd; have := t.depth_eq; omega
  | succ d ih =>
    intro t most r hd hm1 hm2 hr v w P hi
    have hDe := t.depth_eq
    have HK : Hid (∀ i, i < t.kids.length → (nthT t.kids i).depth ≤ d) := fun i hi => by have := depth_nth t.kids i hi; omega
    have HR : Hid (r = Min.min (depths t.kids + 1) most) := by show _ = _; rw [hr, hDe]
    obtain ⟨o, cap, b, off, vs, rfl, hcap, hk⟩ := hi.form
    have hll : t.kids.length ≤ 9223372036854775807 := by
      by_cases h0 : 0 < t.kids.length
      · have := (hk 0 h0).2.1; omega
      · omega
    clear hDe hd hr hi
    generalize t.kind = k at *
    generalize t.set = q at *
    generalize t.min = mn at *
    generalize t.max = mx at *
    generalize t.kids = l at *
    by_cases h1 : most ≤ 1
    · have HX : Hid (r = most) := by show _ = _; rw [HR.out]; omega
      clear hk HR
      go_enter Tryd.func26, Tryd.ntmps26
      go_wp2_with (fail)
      go_ret
      exact ⟨by rw [HX.out]; rfl, below_alloc _ _⟩
    · obtain ⟨p, hp, hp1⟩ : ∃ p, Hid (most = p + 1) ∧ 1 ≤ p := ⟨most - 1, by show _ = _; omega, by omega⟩
      have hs : (most : Int) - 1 = (p : Int) := by have := hp.out; omega
      have hpm : p ≤ 1000 := by have := hp.out; omega
      go_enter Tryd.func26, Tryd.ntmps26
      go_wp2_with (fail)
      go_loopw [5, 15] (fun u x wr => ∃ (i n : Nat), u = .int .i64 n ∧ x = .int .i64 i ∧ i ≤ l.length ∧ n < p ∧ Below w.heap.size w wr ∧ Hid (n = depths (l.take i))) (fun _ x _ => l.length - (intOf x).toNat)
      case atStart => exact ⟨0, 0, rfl, rfl, by omega, by omega, below_alloc _ _, by show _ = _; simp [depths]⟩
      case round =>
        obtain ⟨i, n, rfl, rfl, hil, hnp, hB, HI⟩ := hrel
        by_cases hend : i < l.length
        · obtain ⟨rfl, hcm, hb, hne, hcells, hkid⟩ := hk i hend
          have hcells2 := hcells.same (hB.block b hb)
          have hkid2 := hkid.later hB
          obtain ⟨o2, n2, cap2, hv2⟩ := hkid.shape
          rw [hv2] at hcells2 hkid2
          obtain ⟨k0, k1, k2, k3, k4, k5, k6, k7⟩ := hcells2
          clear hcells hkid hk hv2
          obtain ⟨m, hm⟩ : ∃ m, m = Min.min (nthT l i).depth p := ⟨_, rfl⟩
          have hcall := ih (nthT l i) p m (HK.out i hend) hp1 (by omega) hm
          have HM := (show Hid (m = Min.min (nthT l i).depth p) from hm)
          have hmp : m ≤ p := by omega
          clear hm
          by_cases hgt : n < m
          · by_cases hfull : p ≤ m
            · have HF : Hid (r = most) := by
                show _ = _
                have := depth_nth l i hend
                have := HM.out
                have := hp.out
                rw [HR.out]; omega
              generalize nthT l i = x at *
              go_wp2_with (go_at_call 26; refine (hcall _ _ _ (hkid2.later (below_alloc _ _))).mono ?_; rintro e w2 ⟨rfl, b2⟩)
              go_ret
              exact ⟨by rw [HF.out]; rfl, hB.trans (Below.mono (chainG (below_alloc _ _) b2) hB.size)⟩
            · have HJ : Hid (m = depths (l.take (i + 1))) := by
                show _ = _
                have := HM.out
                have := HI.out
                rw [depths_take l i hend]; omega
              generalize nthT l i = x at *
              go_wp2_with (go_at_call 26; refine (hcall _ _ _ (hkid2.later (below_alloc _ _))).mono ?_; rintro e w2 ⟨rfl, b2⟩)
              go_roundw
              case rel => exact ⟨i + 1, m, rfl, by go_num, by omega, by omega, hB.trans (Below.mono (chainG (below_alloc _ _) b2) hB.size), HJ⟩
              case measure => simp [intOf]; omega
          · have HJ : Hid (n = depths (l.take (i + 1))) := by
              show _ = _
              have := HM.out
              have := HI.out
              rw [depths_take l i hend]; omega
            generalize nthT l i = x at *
            go_wp2_with (go_at_call 26; refine (hcall _ _ _ (hkid2.later (below_alloc _ _))).mono ?_; rintro e w2 ⟨rfl, b2⟩)
            go_roundw
            case rel => exact ⟨i + 1, n, rfl, by go_num, by omega, by omega, hB.trans (Below.mono (chainG (below_alloc _ _) b2) hB.size), HJ⟩
            case measure => simp [intOf]; omega
        · have HF : Hid (r = n + 1) := by
            have h := HI.out
            rw [List.take_of_length_le (by omega)] at h
            have := hp.out
            show _ = _
            rw [HR.out]; omega
          go_wp2_with (fail)
          go_ret
          exact ⟨by rw [HF.out]; rfl, hB⟩

set_option maxHeartbeats 1000000 in
set_option maxRecDepth 100000 in
theorem nodes_any (d : Nat) : ∀ (t : Tr) (most r : Nat), t.depth ≤ d → 1 ≤ most → most ≤ 1000 → r = Min.min t.nodes most → UpIs 27 t most r := by
  induction d with
  | zero => intro t most r hd; have := t.depth_eq; omega
  | succ d ih =>
    intro t most r hd hm1 hm2 hr v w P hi
    have hDe := t.depth_eq
    have hNe := t.nodes_eq
    have HK : Hid (∀ i, i < t.kids.length → (nthT t.kids i).depth ≤ d) := fun i hi => by have := depth_nth t.kids i hi; omega
    have HR : Hid (r = Min.min (nodesOf t.kids + 1) most) := by show _ = _; rw [hr, hNe]
    obtain ⟨o, cap, b, off, vs, rfl, hcap, hk⟩ := hi.form
    have hll : t.kids.length ≤ 9223372036854775807 := by
      by_cases h0 : 0 < t.kids.length
      · have := (hk 0 h0).2.1; omega
      · omega
    clear hDe hNe hd hr hi
    generalize t.kind = k at *
    generalize t.set = q at *
    generalize t.min = mn at *
    generalize t.max = mx at *
    generalize t.kids = l at *
    go_enter Tryd.func27, Tryd.ntmps27
    go_wp2_with (fail)
    go_loopw [5, 11] (fun u x wr => ∃ (i n : Nat), u = .int .i64 n ∧ x = .int .i64 i ∧ i ≤ l.length ∧ n ≤ most ∧ Below w.heap.size w wr ∧ Hid (n = Min.min (nodesOf (l.take i) + 1) most)) (fun _ x _ => l.length - (intOf x).toNat)
    case atStart => exact ⟨0, 1, rfl, rfl, by omega, by omega, below_alloc _ _, by show _ = _; simp [nodesOf]; omega⟩
    case round =>
      obtain ⟨i, n, rfl, rfl, hil, hnp, hB, HI⟩ := hrel
      by_cases hend : i < l.length
      · obtain ⟨rfl, hcm, hb, hne, hcells, hkid⟩ := hk i hend
        have hcells2 := hcells.same (hB.block b hb)
        have hkid2 := hkid.later hB
        obtain ⟨o2, n2, cap2, hv2⟩ := hkid.shape
        rw [hv2] at hcells2 hkid2
        obtain ⟨k0, k1, k2, k3, k4, k5, k6, k7⟩ := hcells2
        clear hcells hkid hk hv2
        by_cases hfull : most ≤ n
        · have HF : Hid (r = most) := by
            show _ = _
            have := nodesOf_le l i
            have := HI.out
            rw [HR.out]; omega
          generalize nthT l i = x at *
          go_wp2_with (fail)
          go_ret
          exact ⟨by rw [HF.out]; rfl, hB.trans (Below.mono (below_alloc _ _) hB.size)⟩
        · obtain ⟨p, hp, hp1⟩ : ∃ p, Hid (most = n + p) ∧ 1 ≤ p := ⟨most - n, by show _ = _; omega, by omega⟩
          have hs : (most : Int) - (n : Int) = (p : Int) := by have := hp.out; omega
          have hpm : p ≤ 1000 := by have := hp.out; omega
          obtain ⟨m, hm⟩ : ∃ m, m = Min.min (nthT l i).nodes p := ⟨_, rfl⟩
          have hcall := ih (nthT l i) p m (HK.out i hend) hp1 (by omega) hm
          have hmp : m ≤ p := by omega
          have hmost : n + m ≤ most := by have := hp.out; omega
          have HJ : Hid (n + m = Min.min (nodesOf (l.take (i + 1)) + 1) most) := by
            show _ = _
            have := HI.out
            have := hp.out
            rw [nodesOf_take l i hend]; omega
          clear hm
          generalize nthT l i = x at *
          go_wp2_with (go_at_call 27; refine (hcall _ _ _ (hkid2.later (below_alloc _ _))).mono ?_; rintro e w2 ⟨rfl, b2⟩)
          go_roundw
          case rel => exact ⟨i + 1, n + m, by go_num, by go_num, by omega, by omega, hB.trans (Below.mono (chainG (below_alloc _ _) b2) hB.size), HJ⟩
          case measure => simp [intOf]; omega
      · have HF : Hid (r = n) := by
          have h := HI.out
          rw [List.take_of_length_le (by omega)] at h
          show _ = _
          rw [HR.out, h]
        go_wp2_with (fail)
        go_ret
        exact ⟨by rw [HF.out]; rfl, hB⟩

def RightIs (f : Nat) (t : Tr) (r : Nat) : Prop := ∀ v w, Is w (fun _ => True) t v → Calls Tryd.prog f #[.agg #[.int .i64 t.kind, .int .u64 t.set.a, .int .u64 t.set.b, .int .u64 t.set.c, .int .u64 t.set.d, .int .i64 t.min, .int .i64 t.max, v]] w fun e w' => e = .returned (.int .i64 r) ∧ Below w.heap.size w w'

theorem Is.old {w : World} {P : Nat → Prop} {t : Tr} {v : Value} (h : Is w P t v) : Is w (fun b => b < w.heap.size) t v := h.carry (Nat.le_refl _) (fun _ _ h => h) (fun _ _ _ => rfl)
theorem Is.weak {w : World} {P : Nat → Prop} {t : Tr} {v : Value} (h : Is w P t v) : Is w (fun _ => True) t v := h.carry (Nat.le_refl _) (fun _ _ _ => trivial) (fun _ _ _ => rfl)
theorem Is.fresh {w w' : World} {P : Nat → Prop} {t : Tr} {v : Value} (h : Is w P t v) (b : Below w.heap.size w w') (g : Nat) (hg : w.heap.size ≤ g) : Is w' (· ≠ g) t v :=
  h.old.carry b.size (fun k hk _ => by show k ≠ g; omega) (fun k hk _ => b.block k hk)

def rightN (t : Tr) : Nat := if t.depth ≤ 30 ∧ t.nodes ≤ 512 then (if t.good then 0 else 61) else 2

/-- a tree in a block of its own -/
def Box (w : World) (g : Nat) (t : Tr) (v : Value) : Prop := w.heap[g]? = some (.cells #[.int .i64 t.kind, .int .u64 t.set.a, .int .u64 t.set.b, .int .u64 t.set.c, .int .u64 t.set.d, .int .i64 t.min, .int .i64 t.max, v] 28 (0, 0))
theorem Box.lt {w : World} {g : Nat} {t : Tr} {v : Value} (h : Box w g t v) : g < w.heap.size := (Array.getElem?_eq_some_iff.1 h).1
theorem Box.cells {w : World} {g : Nat} {t : Tr} {v : Value} (h : Box w g t v) :
    w.cell? ⟨g, 0, none⟩ = some (.int .i64 t.kind) ∧ w.cell? ⟨g, 1, none⟩ = some (.int .u64 t.set.a) ∧ w.cell? ⟨g, 2, none⟩ = some (.int .u64 t.set.b) ∧ w.cell? ⟨g, 3, none⟩ = some (.int .u64 t.set.c) ∧
    w.cell? ⟨g, 4, none⟩ = some (.int .u64 t.set.d) ∧ w.cell? ⟨g, 5, none⟩ = some (.int .i64 t.min) ∧ w.cell? ⟨g, 6, none⟩ = some (.int .i64 t.max) ∧ w.cell? ⟨g, 7, none⟩ = some v := by
  refine ⟨?_, ?_, ?_, ?_, ?_, ?_, ?_, ?_⟩ <;> (rw [Lib.cell_of_heap h]; rfl)
theorem Box.grown {w w' : World} {g k : Nat} {t : Tr} {v : Value} (h : Box w g t v) (b : w.grownBy w' (some k)) (hne : g ≠ k) : Box w' g t v := by
  unfold Box; rw [b.block g h.lt (fun e => hne (Option.some.inj e))]; exact h
theorem Box.below {w w' : World} {g : Nat} {t : Tr} {v : Value} (h : Box w g t v) (b : Below w.heap.size w w') : Box w' g t v := by
  unfold Box; rw [b.block g h.lt]; exact h
theorem box_new (w : World) (t : Tr) (v : Value) : Box (w.alloc (.cells #[.int .i64 t.kind, .int .u64 t.set.a, .int .u64 t.set.b, .int .u64 t.set.c, .int .u64 t.set.d, .int .i64 t.min, .int .i64 t.max, v] 28)) w.heap.size t v := heap_alloc_new w _

set_option maxHeartbeats 1000000 in
set_option maxRecDepth 100000 in
theorem right_is (t : Tr) (r : Nat) (hr : r = rightN t) : RightIs 11 t r := by
  intro v w hi
  have HR : Hid (r = rightN t) := hr
  clear hr
  obtain ⟨o, n, cap, hv⟩ := hi.shape
  subst hv
  have hB1 : ∀ x y, Below w.heap.size w ((w.alloc x).alloc y) := fun x y => chainG (below_alloc w x) (below_alloc (w.alloc x) y)
  have hf : ∀ x y, Is ((w.alloc x).alloc y) (· ≠ w.heap.size + 1) t (.slice o n cap) := fun x y => hi.fresh (hB1 x y) _ (by omega)
  have hone : ∀ x, One ((w.alloc x).alloc (.cells #[.int .i64 512] 3)) (w.heap.size + 1) (512 : Nat) := fun x => heap_alloc2_new w _ _
  have hbox : ∀ y, Box ((w.alloc (.cells #[.int .i64 t.kind, .int .u64 t.set.a, .int .u64 t.set.b, .int .u64 t.set.c, .int .u64 t.set.d, .int .i64 t.min, .int .i64 t.max, .slice o n cap] 28)).alloc y) w.heap.size t (.slice o n cap) := fun y => (box_new w t _).below (below_alloc _ _)
  by_cases hfit : t.depth ≤ 30 ∧ t.nodes ≤ 512
  · have hcall := fits_any t.depth t 30 512 true _ (Nat.le_refl _) (by decide) (by decide) (by simp [hfit]) rfl
    have HS : Hid (r = if t.good then 0 else 61) := by show _ = _; rw [HR.out, rightN, if_pos hfit]
    have hgood := right_any t.depth t _ (Nat.le_refl _) rfl
    clear HR hfit
    generalize t.good = gd at *
    cases gd
    · have HX : Hid (r = 61) := HS.out
      go_enter Tryd.func11, Tryd.ntmps11
      go_wp2_with (first | (go_at_call 19; refine (hcall _ _ _ (hf _ _) (hone _)).mono ?_; rintro e w1 ⟨rfl, h1, t1⟩; have B1 := (hbox _).grown t1 (by omega); have S1 := (hf _ _).grown t1; obtain ⟨k0, k1, k2, k3, k4, k5, k6, k7⟩ := B1.cells) | (go_at_call 20; refine (hgood _ _ _ S1).mono ?_; rintro e w2 ⟨rfl, b2⟩))
      go_ret
      exact ⟨by rw [HX.out]; rfl, (Below.grown (hB1 _ _) t1 (hB1 _ _).size (by intro k hk; simp at hk; omega)).trans (b2.mono (Nat.le_trans (hB1 _ _).size t1.size))⟩
    · have HX : Hid (r = 0) := HS.out
      go_enter Tryd.func11, Tryd.ntmps11
      go_wp2_with (first | (go_at_call 19; refine (hcall _ _ _ (hf _ _) (hone _)).mono ?_; rintro e w1 ⟨rfl, h1, t1⟩; have B1 := (hbox _).grown t1 (by omega); have S1 := (hf _ _).grown t1; obtain ⟨k0, k1, k2, k3, k4, k5, k6, k7⟩ := B1.cells) | (go_at_call 20; refine (hgood _ _ _ S1).mono ?_; rintro e w2 ⟨rfl, b2⟩))
      go_ret
      exact ⟨by rw [HX.out]; rfl, (Below.grown (hB1 _ _) t1 (hB1 _ _).size (by intro k hk; simp at hk; omega)).trans (b2.mono (Nat.le_trans (hB1 _ _).size t1.size))⟩
  · have hcall := fits_any t.depth t 30 512 false _ (Nat.le_refl _) (by decide) (by decide) (by symm; simp; omega) rfl
    have HX : Hid (r = 2) := by show _ = _; rw [HR.out, rightN, if_neg hfit]
    clear HR hfit
    go_enter Tryd.func11, Tryd.ntmps11
    go_wp2_with (go_at_call 19; refine (hcall _ _ _ (hf _ _) (hone _)).mono ?_; rintro e w1 ⟨rfl, h1, t1⟩)
    go_ret
    exact ⟨by rw [HX.out]; rfl, Below.grown (hB1 _ _) t1 (hB1 _ _).size (by intro k hk; simp at hk; omega)⟩

set_option maxHeartbeats 1000000 in
set_option maxRecDepth 100000 in
theorem rright_is (t : Tr) (r : Nat) (hr : r = rightN t) : RightIs 15 t r := by
  intro v w hi
  have HR : Hid (r = rightN t) := hr
  clear hr
  obtain ⟨o, n, cap, hv⟩ := hi.shape
  subst hv
  have hf : ∀ x, Is (w.alloc x) (fun _ => True) t (.slice o n cap) := fun x => hi.later (below_alloc w x)
  have hbox := box_new w t (.slice o n cap)
  obtain ⟨dd, hdd⟩ : ∃ dd, dd = Min.min t.depth 31 := ⟨_, rfl⟩
  obtain ⟨nn, hnn⟩ : ∃ nn, nn = Min.min t.nodes 513 := ⟨_, rfl⟩
  have hdeep := deep_any t.depth t 31 dd (Nat.le_refl _) (by decide) (by decide) hdd
  have hnodes := nodes_any t.depth t 513 nn (Nat.le_refl _) (by decide) (by decide) hnn
  have hevery := every_any t.depth t _ (Nat.le_refl _) rfl
  by_cases hd : t.depth ≤ 30
  · have hdl : ¬ 30 < dd := by omega
    have hdm : dd ≤ 31 := by omega
    by_cases hn : t.nodes ≤ 512
    · have hnl : ¬ 512 < nn := by omega
      have hnm : nn ≤ 513 := by omega
      have HS : Hid (r = if t.good then 0 else 61) := by show _ = _; rw [HR.out, rightN, if_pos ⟨hd, hn⟩]
      clear HR hd hn hdd hnn
      generalize t.good = gd at *
      cases gd
      · have HX : Hid (r = 61) := HS.out
        go_enter Tryd.func15, Tryd.ntmps15
        go_wp2_with (first | (go_at_call 26; refine (hdeep _ _ _ (hf _)).mono ?_; rintro e w1 ⟨rfl, b1⟩; have B1 := hbox.below b1; have S1 := (hf _).later b1; obtain ⟨k0, k1, k2, k3, k4, k5, k6, k7⟩ := B1.cells) | (go_at_call 27; refine (hnodes _ _ _ S1).mono ?_; rintro e w2 ⟨rfl, b2⟩; have B2 := B1.below b2; have S2 := S1.later b2; obtain ⟨m0, m1, m2, m3, m4, m5, m6, m7⟩ := B2.cells) | (go_at_call 28; refine (hevery _ _ _ S2).mono ?_; rintro e w3 ⟨rfl, b3⟩))
        go_ret
        exact ⟨by rw [HX.out]; rfl, chainG (chainG (chainG (below_alloc _ _) b1) b2) b3⟩
      · have HX : Hid (r = 0) := HS.out
        go_enter Tryd.func15, Tryd.ntmps15
        go_wp2_with (first | (go_at_call 26; refine (hdeep _ _ _ (hf _)).mono ?_; rintro e w1 ⟨rfl, b1⟩; have B1 := hbox.below b1; have S1 := (hf _).later b1; obtain ⟨k0, k1, k2, k3, k4, k5, k6, k7⟩ := B1.cells) | (go_at_call 27; refine (hnodes _ _ _ S1).mono ?_; rintro e w2 ⟨rfl, b2⟩; have B2 := B1.below b2; have S2 := S1.later b2; obtain ⟨m0, m1, m2, m3, m4, m5, m6, m7⟩ := B2.cells) | (go_at_call 28; refine (hevery _ _ _ S2).mono ?_; rintro e w3 ⟨rfl, b3⟩))
        go_ret
        exact ⟨by rw [HX.out]; rfl, chainG (chainG (chainG (below_alloc _ _) b1) b2) b3⟩
    · have hnl : 512 < nn := by omega
      have HX : Hid (r = 2) := by show _ = _; rw [HR.out, rightN, if_neg (by omega)]
      clear HR hd hn hdd hnn
      go_enter Tryd.func15, Tryd.ntmps15
      go_wp2_with (first | (go_at_call 26; refine (hdeep _ _ _ (hf _)).mono ?_; rintro e w1 ⟨rfl, b1⟩; have B1 := hbox.below b1; have S1 := (hf _).later b1; obtain ⟨k0, k1, k2, k3, k4, k5, k6, k7⟩ := B1.cells) | (go_at_call 27; refine (hnodes _ _ _ S1).mono ?_; rintro e w2 ⟨rfl, b2⟩))
      go_ret
      exact ⟨by rw [HX.out]; rfl, chainG (chainG (below_alloc _ _) b1) b2⟩
  · have hdl : 30 < dd := by omega
    have HX : Hid (r = 2) := by show _ = _; rw [HR.out, rightN, if_neg (by omega)]
    clear HR hd hdd hnn
    go_enter Tryd.func15, Tryd.ntmps15
    go_wp2_with (first | (go_at_call 26; refine (hdeep _ _ _ (hf _)).mono ?_; rintro e w1 ⟨rfl, b1⟩))
    go_ret
    exact ⟨by rw [HX.out]; rfl, chainG (below_alloc _ _) b1⟩
end Go.Proofs.YtfclidcfhadohaaDoor.st
