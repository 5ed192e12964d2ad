/-
  Contracts over this program: an item: an atom, again and again (regex.reader's item).
-/
import Derived.Test.YtjfnefmolhihaaaRq
namespace Go.Proofs.Ytjfnefmolhihaaa.st
open Go.Sort Go.ChangeShapes Go.WideShapes Go.ChangeAt Go.RowKit
set_option linter.unusedVariables false

theorem again_nodes (t : Tr) (x : Int × Int) : (again t x).nodes ≤ t.nodes + 1 := by
  unfold again
  split
  · omega
  · simp only [Tr.nodes, nodesOf]; omega

theorem reps_pure (u : ByteArray) (hu : u.size ≤ 9223372036854775807) (n : Nat) : ∀ (t : Tr) (p : Nat), p ≤ u.size → u.size - p < n →
    (∃ t' p', p ≤ p' ∧ p' ≤ u.size ∧ reps n t (suf u p) = .ok t' (suf u p') ∧ t'.nodes ≤ t.nodes + 2 * (p' - p)) ∨ (∃ e q, q ≤ u.size ∧ reps n t (suf u p) = .bad e (suf u q)) := by
  induction n with
  | zero => intro t p hp hn; omega
  | succ n ih =>
    intro t p hp hn
    unfold reps
    cases hs : sees [42, 43, 63, 123] (suf u p) with
    | false => exact .inl ⟨t, p, Nat.le_refl _, hp, by simp, by omega⟩
    | true =>
      simp only [if_true]
      rcases times_is u p hu (sees_lt hs) with ⟨x, p1, k1, k2, k3, _⟩ | ⟨e, q, k2, k3, _⟩
      · rw [k3]
        have ha := again_nodes t x
        rcases ih (again t x) p1 k2 (by omega) with ⟨t', p', m1, m2, m3, m4⟩ | ⟨e, q, m2, m3⟩
        · exact .inl ⟨t', p', by omega, m2, m3, by omega⟩
        · exact .inr ⟨e, q, m2, m3⟩
      · rw [k3]; exact .inr ⟨e, q, k2, rfl⟩

theorem item_pure (u : ByteArray) (hu : u.size ≤ 512) (op : Nat) (grp : List Nat → R Tr) (hg : Tells 62 1 0 u op grp) (p : Nat) (hp : p ≤ u.size) : Pure (p + 1) 0 p (item grp (suf u p)) u := by
  unfold item
  rcases atom_any u hu op grp hg p hp with ⟨t, p1, h1, h2, h3, h4, _⟩ | ⟨e, q, h2, h3, _⟩
  · rw [h3]
    simp only [R.then]
    rw [suf_length]
    rcases reps_pure u (by omega) (u.size - p1 + 1) t p1 h2 (by omega) with ⟨t', p', m1, m2, m3, m4⟩ | ⟨e, q, m2, m3⟩
    · exact .inl ⟨t', p', by omega, m2, m3, by omega⟩
    · exact .inr ⟨e, q, m2, m3⟩
  · rw [h3]; exact .inr ⟨e, q, h2, rfl⟩

set_option maxHeartbeats 4000000 in
set_option maxRecDepth 100000 in
theorem item_walk (u : ByteArray) (hu : u.size ≤ 512) (op p p1 : Nat) (t : Tr) (hp1 : p1 ≤ u.size) (h53 : OkT 53 u p op t p1) (res : R Tr) (hres : res = reps (u.size - p1 + 1) t (suf u p1)) :
    ∀ g w, Rd w g u p op → Calls Try.prog 43 #[.pointer (some ⟨g, 0, none⟩)] w (OutT res u g op w) := by
  intro g w h
  have hu2 : u.size ≤ 9223372036854775807 := by omega
  have HR : Hid (res = reps (u.size - p1 + 1) t (suf u p1)) := hres
  clear hres
  have r0 := fun o => h.later (below_alloc w o)
  have z0 := box_new w Tr.zero (.slice none 0 0)
  go_enter Try.func43, Try.ntmps43
  go_wp2_with (go_at_call 53; refine (h53 _ _ (r0 _)).mono ?_; rintro e w1 ⟨v, rfl, i1, r1, t1⟩; obtain ⟨va, vn, vc, rfl⟩ := i1.shape)
  have z1 := (Box.keep z0 t1 h.ne.symm).below (below_alloc w1 (.cells #[.int .i64 t.kind, .int .u64 t.set.a, .int .u64 t.set.b, .int .u64 t.set.c, .int .u64 t.set.d, .int .i64 t.min, .int .i64 t.max, .slice va vn vc] 28))
  have q1 := box_new w1 t (.slice va vn vc)
  have T1 := touch_alloc (touch_trans (touch_alloc (touch_refl w (some g)) _) t1) (.cells #[.int .i64 t.kind, .int .u64 t.set.a, .int .u64 t.set.b, .int .u64 t.set.c, .int .u64 t.set.d, .int .i64 t.min, .int .i64 t.max, .slice va vn vc] 28)
  have r1' := r1.later (below_alloc w1 (.cells #[.int .i64 t.kind, .int .u64 t.set.a, .int .u64 t.set.b, .int .u64 t.set.c, .int .u64 t.set.d, .int .i64 t.min, .int .i64 t.max, .slice va vn vc] 28))
  have hsz : w.heap.size + 1 ≤ w1.heap.size := by have := t1.size; simpa using this
  have j1 : Is (w1.alloc (.cells #[.int .i64 t.kind, .int .u64 t.set.a, .int .u64 t.set.b, .int .u64 t.set.c, .int .u64 t.set.d, .int .i64 t.min, .int .i64 t.max, .slice va vn vc] 28)) (fun b => w.heap.size < b ∧ b ≠ w1.heap.size) t (.slice va vn vc) :=
    (i1.carry (Nat.le_refl _) (P' := fun b => w.heap.size < b ∧ b ≠ w1.heap.size) (fun b hb hlt => by simp at hb; exact ⟨by omega, by omega⟩) (fun _ _ _ => rfl)).later (below_alloc _ _)
  have hne1 : w1.heap.size ≠ g := by have := r1.lt; omega
  have hne2 : w1.heap.size ≠ w.heap.size := by omega
  generalize w1.heap.size = b3 at *
  go_loopw [8] (fun _ wr => ∃ (n p : Nat) (t : Tr) (va : Option Addr) (vn vc : Nat), Rd wr g u p op ∧ Box wr b3 t (.slice va vn vc) ∧ Box wr w.heap.size Tr.zero (.slice none 0 0) ∧ Is wr (fun b => w.heap.size < b ∧ b ≠ b3) t (.slice va vn vc) ∧ p ≤ u.size ∧ w.grownBy wr (some g) ∧ Hid (res = reps n t (suf u p) ∧ u.size - p < n)) (fun _ wr => u.size - placeOf wr g)
  case atStart => exact ⟨_, p1, t, va, vn, vc, r1', q1, z1, j1, hp1, T1, HR.out, by omega⟩
  case round =>
    clear HR h53 t1 i1 r1 z1 q1 T1 r1' j1 z0 r0
    obtain ⟨n, p, t, va, vn, vc, rr, qq, zz, ii, hp, tt, HI⟩ := hrel
    obtain ⟨n, rfl⟩ : ∃ m, n = m + 1 := ⟨n - 1, by have := HI.out.2; omega⟩
    have h42 := sees_any u p ⟨#[42, 43, 63, 123]⟩ hp hu2 _ rfl
    rw [show codes ⟨#[42, 43, 63, 123]⟩ = [42, 43, 63, 123] from rfl] at h42
    cases hs : sees [42, 43, 63, 123] (suf u p) with
    | false =>
      rw [hs] at h42
      have HE : Hid (res = .ok t (suf u p)) := by show _ = _; rw [HI.out.1]; unfold reps; rw [hs]; rfl
      clear hs HI
      go_wp2_with (go_at_call 42; refine (h42 _ _ _ rr).mono ?_; rintro e w3 ⟨rfl, b3'⟩; have q3 := qq.below b3'; have z3 := zz.below b3'; obtain ⟨⟨c0, c1, c2, c3, c4, c5, c6, c7⟩, _⟩ := b8 q3; obtain ⟨⟨d0, d1, d2, d3, d4, d5, d6, d7⟩, f0, f1, f2, f3, f4, f5, f6, f7⟩ := b8 z3)
      refine ret28 Try.results43 w.heap.size t (.slice va vn vc) rfl (box_set z3 t _) rfl ?_
      refine .inl ⟨t, p, _, HE.out, hp, rfl, ?_, (rr.later b3').other (touch_set8 _ _ t _) h.ne, touch_over (touch_trans tt (touch_below _ b3')) (touch_set8 _ _ t _) (Nat.le_refl _)⟩
      exact (ii.later b3').carry (touch_set8 _ _ t _).size (fun b hb _ => by omega) (fun b hb hlt => (touch_set8 _ _ t _).block b hlt (fun e => by have := Option.some.inj e; omega))
    | true =>
      rw [hs] at h42
      rcases times_is u p hu2 (sees_lt hs) with ⟨x, p', k1, k2, k3, h54⟩ | ⟨er, q', k2, k3, h54⟩
      · have h41 := once_any x.1 x.2 _ rfl
        have HJ : Hid (res = reps n (again t x) (suf u p') ∧ u.size - p' < n) := by
          refine ⟨?_, by have := HI.out.2; omega⟩
          rw [HI.out.1]; conv => lhs; unfold reps
          rw [hs, k3]; rfl
        clear hs HI k3
        by_cases hx : x.1 = 1 ∧ x.2 = 1
        · have e1 : again t x = t := by unfold again; rw [if_pos hx]
          have e2 : (decide (x.1 = 1) && decide (x.2 = 1)) = true := by simp [hx]
          rw [e1] at HJ
          rw [e2] at h41
          clear e1 e2 hx
          go_wp2_with (first | (go_at_call 42; refine (h42 _ _ _ rr).mono ?_; rintro e w3 ⟨rfl, b3'⟩) | (go_at_call 54; refine (h54 _ _ _ (rr.later b3')).mono ?_; rintro e w4 ⟨rfl, r4, t4⟩) | (go_at_call 41; refine (h41 _).mono ?_; rintro e w5 ⟨rfl, hh⟩; obtain rfl := hh.symm))
          go_roundw
          case rel => exact ⟨n, p', t, va, vn, vc, r4, Box.keep (qq.below b3') t4 hne1, Box.keep (zz.below b3') t4 h.ne.symm, (ii.later b3').carry t4.size (fun _ hb _ => hb) (fun b hb hlt => t4.block b hlt (fun e => by have := Option.some.inj e; have := h.lt; omega)), k2, touch_trans (touch_trans tt (touch_below _ b3')) t4, HJ⟩
          case measure => rw [place_is r4, place_is rr]; omega
        · have e1 : again t x = .node 4 none4 x.1 x.2 [t] := by unfold again; rw [if_neg hx]
          have e2 : (decide (x.1 = 1) && decide (x.2 = 1)) = false := by simp; omega
          rw [e1] at HJ
          rw [e2] at h41
          clear e1 e2 hx
          obtain ⟨mn, mx⟩ := x
          simp only at *
          go_wp2_with (first | (go_at_call 42; refine (h42 _ _ _ rr).mono ?_; rintro e w3 ⟨rfl, b3'⟩) | (go_at_call 54; refine (h54 _ _ _ (rr.later b3')).mono ?_; rintro e w4 ⟨rfl, r4, t4⟩; have q4 := Box.keep (qq.below b3') t4 hne1; have q5 := q4.below (below_alloc w4 (.cells #[.int .i64 t.kind, .int .u64 t.set.a, .int .u64 t.set.b, .int .u64 t.set.c, .int .u64 t.set.d, .int .i64 t.min, .int .i64 t.max, .slice va vn vc] 28)); obtain ⟨⟨c0, c1, c2, c3, c4, c5, c6, c7⟩, g0, g1, g2, g3, g4, g5, g6, g7⟩ := b8 q4; obtain ⟨⟨d0, d1, d2, d3, d4, d5, d6, d7⟩, f0, f1, f2, f3, f4, f5, f6, f7⟩ := b8 q5) | (go_at_call 41; refine (h41 _).mono ?_; rintro e w5 ⟨rfl, hh⟩; obtain rfl := hh.symm))
          have z4 := Box.keep (zz.below b3') t4 h.ne.symm
          have hq4 := q4.lt
          have hz4 := z4.lt
          have i4 : Is w4 (fun b => w.heap.size < b ∧ b ≠ b3) t (.slice va vn vc) := (ii.later b3').carry t4.size (fun _ hb _ => hb) (fun b hb hlt => t4.block b hlt (fun e => by have := Option.some.inj e; have := h.lt; omega))
          have rE := (r4.later (below_alloc w4 (.cells #[.int .i64 t.kind, .int .u64 t.set.a, .int .u64 t.set.b, .int .u64 t.set.c, .int .u64 t.set.d, .int .i64 t.min, .int .i64 t.max, .slice va vn vc] 28))).other (touch_set8 _ b3 (.node 4 none4 mn mx [t]) (.slice (some ⟨w4.heap.size, 0, none⟩) 1 1)) hne1.symm
          have kE := Box.keep (box_new w4 t (.slice va vn vc)) (touch_set8 _ b3 (.node 4 none4 mn mx [t]) (.slice (some ⟨w4.heap.size, 0, none⟩) 1 1)) (by omega)
          have iE := (i4.later (below_alloc w4 (.cells #[.int .i64 t.kind, .int .u64 t.set.a, .int .u64 t.set.b, .int .u64 t.set.c, .int .u64 t.set.d, .int .i64 t.min, .int .i64 t.max, .slice va vn vc] 28))).carry (touch_set8 _ b3 (.node 4 none4 mn mx [t]) (.slice (some ⟨w4.heap.size, 0, none⟩) 1 1)).size (fun _ hb _ => hb) (fun b hb hlt => (touch_set8 _ b3 (.node 4 none4 mn mx [t]) (.slice (some ⟨w4.heap.size, 0, none⟩) 1 1)).block b hlt (fun e => hb.2 (Option.some.inj e)))
          refine ⟨⟨n, p', .node 4 none4 mn mx [t], some ⟨w4.heap.size, 0, none⟩, 1, 1, rE, box_set q5 (.node 4 none4 mn mx [t]) _, Box.keep (z4.below (below_alloc _ _)) (touch_set8 _ b3 (.node 4 none4 mn mx [t]) _) hne2.symm, ?_, k2, touch_over (touch_alloc (touch_trans (touch_trans tt (touch_below _ b3')) t4) _) (touch_set8 _ b3 (.node 4 none4 mn mx [t]) _) (by omega), HJ⟩, ?_⟩
          · refine Is.node 4 none4 mn mx [t] w4.heap.size 0 1 (fun _ => .slice va vn vc) (by simp) (by decide) kE.lt ⟨hz4, by omega⟩ ?_ ?_
            · intro i hi
              obtain rfl : i = 0 := by simp at hi; omega
              exact kE.cells
            · intro i hi
              obtain rfl : i = 0 := by simp at hi; omega
              exact iE
          · refine Nat.lt_of_le_of_lt (Nat.le_of_eq (congrArg (fun x => u.size - x) (place_is rE))) ?_
            rw [place_is rr]; omega
      · have HE : Hid (res = .bad er (suf u q')) := by
          show _ = _
          rw [HI.out.1]; conv => lhs; unfold reps
          rw [hs, k3]; rfl
        clear hs HI k3
        go_wp2_with (first | (go_at_call 42; refine (h42 _ _ _ rr).mono ?_; rintro e w3 ⟨rfl, b3'⟩) | (go_at_call 54; refine (h54 _ _ _ (rr.later b3')).mono ?_; rintro e w4 ⟨rfl, t4⟩))
        exact ⟨rfl, .inr ⟨er, q', HE.out, k2, rfl, touch_trans (touch_trans tt (touch_below _ b3')) t4⟩⟩

theorem item_any (u : ByteArray) (hu : u.size ≤ 512) (op : Nat) (grp : List Nat → R Tr) (hg : Tells 62 1 0 u op grp) : Tells 43 1 0 u op (item grp) := by
  refine tells_of (item_pure u hu op grp hg) ?_
  intro p hp g w h
  unfold item
  rcases atom_any u hu op grp hg p hp with ⟨t, p1, h1, h2, h3, h4, h53⟩ | ⟨e, q, h2, h3, h53⟩
  · rw [h3]
    simp only [R.then]
    rw [suf_length]
    exact item_walk u hu op p p1 t h2 h53 _ rfl g w h
  · rw [h3]
    clear h3
    have r0 := fun o => h.later (below_alloc w o)
    go_enter Try.func43, Try.ntmps43
    go_wp2_with (go_at_call 53; refine (h53 _ _ (r0 _)).mono ?_; rintro e w1 ⟨rfl, t1⟩)
    exact ⟨rfl, .inr ⟨e, q, rfl, h2, rfl, touch_trans (touch_alloc (touch_refl _ _) _) t1⟩⟩
end Go.Proofs.Ytjfnefmolhihaaa.st
