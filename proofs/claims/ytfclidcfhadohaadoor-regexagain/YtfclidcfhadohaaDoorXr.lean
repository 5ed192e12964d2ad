/-
  Contracts over this program: the reader, from an item to the whole text (regex.Parse).
-/
import Derived.Test.YtfclidcfhadohaaDoorRq
import Derived.Defers
import Derived.Recover
namespace Go.Proofs.YtfclidcfhadohaaDoor.st
open Go.Sort Go.ChangeShapes Go.WideShapes Go.ChangeAt Go.RowKit
set_option linter.unusedVariables false

theorem again_nodes (t : Tr) (x : Int × Int) : (again t x).nodes ≤ t.nodes + 1 := by
  unfold again
  split
  · omega
  · simp only [Tr.nodes, nodesOf]; omega

theorem reps_pure (u : ByteArray) (hu : u.size ≤ 9223372036854775807) (n : Nat) : ∀ (t : Tr) (p : Nat), p ≤ u.size → u.size - p < n →
    (∃ t' p', p ≤ p' ∧ p' ≤ u.size ∧ rpts n t (suf u p) = .ok t' (suf u p') ∧ t'.nodes ≤ t.nodes + 2 * (p' - p)) ∨ (∃ e q, q ≤ u.size ∧ rpts n t (suf u p) = .bad e (suf u q)) := by
  induction n with
  | zero => intro t p hp hn; omega
  | succ n ih =>
    intro t p hp hn
    unfold rpts
    cases hs : sees [42, 43, 63, 123] (suf u p) with
    | false => exact .inl ⟨t, p, Nat.le_refl _, hp, by simp, by omega⟩
    | true =>
      simp only [if_true]
      rcases times_is u p hu (sees_lt hs) with ⟨x, p1, k1, k2, k3, _⟩ | ⟨e, q, k2, k3, _⟩
      · rw [k3]
        have ha := again_nodes t x
        rcases ih (again t x) p1 k2 (by omega) with ⟨t', p', m1, m2, m3, m4⟩ | ⟨e, q, m2, m3⟩
        · exact .inl ⟨t', p', by omega, m2, m3, by omega⟩
        · exact .inr ⟨e, q, m2, m3⟩
      · rw [k3]; exact .inr ⟨e, q, k2, rfl⟩

theorem item_pure (u : ByteArray) (hu : u.size ≤ 512) (op : Nat) (grp : List Nat → R Tr) (hg : Tells 86 1 0 u op grp) (p : Nat) (hp : p ≤ u.size) : Pure (p + 1) 0 p (item grp (suf u p)) u := by
  unfold item
  rcases atom_any u hu op grp hg p hp with ⟨t, p1, h1, h2, h3, h4, _⟩ | ⟨e, q, h2, h3, _⟩
  · rw [h3]
    simp only [R.then]
    rw [suf_length]
    rcases reps_pure u (by omega) (u.size - p1 + 1) t p1 h2 (by omega) with ⟨t', p', m1, m2, m3, m4⟩ | ⟨e, q, m2, m3⟩
    · exact .inl ⟨t', p', by omega, m2, m3, by omega⟩
    · exact .inr ⟨e, q, m2, m3⟩
  · rw [h3]; exact .inr ⟨e, q, h2, rfl⟩

set_option maxHeartbeats 4000000 in
set_option maxRecDepth 100000 in
theorem item_walk (u : ByteArray) (hu : u.size ≤ 512) (op p p1 : Nat) (t : Tr) (hp1 : p1 ≤ u.size) (h53 : OkT 82 u p op t p1) (res : R Tr) (hres : res = rpts (u.size - p1 + 1) t (suf u p1)) :
    ∀ g w, Rd w g u p op → Calls Tryd.prog 75 #[.pointer (some ⟨g, 0, none⟩)] w (OutT res u g op w) := by
  intro g w h
  have hu2 : u.size ≤ 9223372036854775807 := by omega
  have HR : Hid (res = rpts (u.size - p1 + 1) t (suf u p1)) := hres
  clear hres
  have r0 := fun o => h.later (below_alloc w o)
  have z0 := box_new w Tr.zero (.slice none 0 0)
  go_enter Tryd.func75, Tryd.ntmps75
  go_wp2_with (go_at_call 82; refine (h53 _ _ (r0 _)).mono ?_; rintro e w1 ⟨v, rfl, i1, r1, t1⟩; obtain ⟨va, vn, vc, rfl⟩ := i1.shape)
  have z1 := (Box.keep z0 t1 h.ne.symm).below (below_alloc w1 (.cells #[.int .i64 t.kind, .int .u64 t.set.a, .int .u64 t.set.b, .int .u64 t.set.c, .int .u64 t.set.d, .int .i64 t.min, .int .i64 t.max, .slice va vn vc] 28))
  have q1 := box_new w1 t (.slice va vn vc)
  have T1 := touch_alloc (touch_trans (touch_alloc (touch_refl w (some g)) _) t1) (.cells #[.int .i64 t.kind, .int .u64 t.set.a, .int .u64 t.set.b, .int .u64 t.set.c, .int .u64 t.set.d, .int .i64 t.min, .int .i64 t.max, .slice va vn vc] 28)
  have r1' := r1.later (below_alloc w1 (.cells #[.int .i64 t.kind, .int .u64 t.set.a, .int .u64 t.set.b, .int .u64 t.set.c, .int .u64 t.set.d, .int .i64 t.min, .int .i64 t.max, .slice va vn vc] 28))
  have hsz : w.heap.size + 1 ≤ w1.heap.size := by have := t1.size; simpa using this
  have j1 : Is (w1.alloc (.cells #[.int .i64 t.kind, .int .u64 t.set.a, .int .u64 t.set.b, .int .u64 t.set.c, .int .u64 t.set.d, .int .i64 t.min, .int .i64 t.max, .slice va vn vc] 28)) (fun b => w.heap.size < b ∧ b ≠ w1.heap.size) t (.slice va vn vc) :=
    (i1.carry (Nat.le_refl _) (P' := fun b => w.heap.size < b ∧ b ≠ w1.heap.size) (fun b hb hlt => by simp at hb; exact ⟨by omega, by omega⟩) (fun _ _ _ => rfl)).later (below_alloc _ _)
  have hne1 : w1.heap.size ≠ g := by have := r1.lt; omega
  have hne2 : w1.heap.size ≠ w.heap.size := by omega
  generalize w1.heap.size = b3 at *
  go_loopw [8] (fun _ wr => ∃ (n p : Nat) (t : Tr) (va : Option Addr) (vn vc : Nat), Rd wr g u p op ∧ Box wr b3 t (.slice va vn vc) ∧ Box wr w.heap.size Tr.zero (.slice none 0 0) ∧ Is wr (fun b => w.heap.size < b ∧ b ≠ b3) t (.slice va vn vc) ∧ p ≤ u.size ∧ w.grownBy wr (some g) ∧ Hid (res = rpts n t (suf u p) ∧ u.size - p < n)) (fun _ wr => u.size - placeOf wr g)
  case atStart => exact ⟨_, p1, t, va, vn, vc, r1', q1, z1, j1, hp1, T1, HR.out, by omega⟩
  case round =>
    clear HR h53 t1 i1 r1 z1 q1 T1 r1' j1 z0 r0
    obtain ⟨n, p, t, va, vn, vc, rr, qq, zz, ii, hp, tt, HI⟩ := hrel
    obtain ⟨n, rfl⟩ : ∃ m, n = m + 1 := ⟨n - 1, by have := HI.out.2; omega⟩
    have h42 := sees_any u p ⟨#[42, 43, 63, 123]⟩ hp hu2 _ rfl
    rw [show codes ⟨#[42, 43, 63, 123]⟩ = [42, 43, 63, 123] from rfl] at h42
    cases hs : sees [42, 43, 63, 123] (suf u p) with
    | false =>
      rw [hs] at h42
      have HE : Hid (res = .ok t (suf u p)) := by show _ = _; rw [HI.out.1]; unfold rpts; rw [hs]; rfl
      clear hs HI
      go_wp2_with (go_at_call 74; refine (h42 _ _ _ rr).mono ?_; rintro e w3 ⟨rfl, b3'⟩; have q3 := qq.below b3'; have z3 := zz.below b3'; obtain ⟨⟨c0, c1, c2, c3, c4, c5, c6, c7⟩, _⟩ := b8 q3; obtain ⟨⟨d0, d1, d2, d3, d4, d5, d6, d7⟩, f0, f1, f2, f3, f4, f5, f6, f7⟩ := b8 z3)
      refine ret28 Tryd.results75 w.heap.size t (.slice va vn vc) rfl (box_set z3 t _) rfl ?_
      refine .inl ⟨t, p, _, HE.out, hp, rfl, ?_, (rr.later b3').other (touch_set8 _ _ t _) h.ne, touch_over (touch_trans tt (touch_below _ b3')) (touch_set8 _ _ t _) (Nat.le_refl _)⟩
      exact (ii.later b3').carry (touch_set8 _ _ t _).size (fun b hb _ => by omega) (fun b hb hlt => (touch_set8 _ _ t _).block b hlt (fun e => by have := Option.some.inj e; omega))
    | true =>
      rw [hs] at h42
      rcases times_is u p hu2 (sees_lt hs) with ⟨x, p', k1, k2, k3, h54⟩ | ⟨er, q', k2, k3, h54⟩
      · have h41 := once_any x.1 x.2 _ rfl
        have HJ : Hid (res = rpts n (again t x) (suf u p') ∧ u.size - p' < n) := by
          refine ⟨?_, by have := HI.out.2; omega⟩
          rw [HI.out.1]; conv => lhs; unfold rpts
          rw [hs, k3]; rfl
        clear hs HI k3
        by_cases hx : x.1 = 1 ∧ x.2 = 1
        · have e1 : again t x = t := by unfold again; rw [if_pos hx]
          have e2 : (decide (x.1 = 1) && decide (x.2 = 1)) = true := by simp [hx]
          rw [e1] at HJ
          rw [e2] at h41
          clear e1 e2 hx
          go_wp2_with (first | (go_at_call 74; refine (h42 _ _ _ rr).mono ?_; rintro e w3 ⟨rfl, b3'⟩) | (go_at_call 83; refine (h54 _ _ _ (rr.later b3')).mono ?_; rintro e w4 ⟨rfl, r4, t4⟩) | (go_at_call 67; refine (h41 _).mono ?_; rintro e w5 ⟨rfl, hh⟩; obtain rfl := hh.symm))
          go_roundw
          case rel => exact ⟨n, p', t, va, vn, vc, r4, Box.keep (qq.below b3') t4 hne1, Box.keep (zz.below b3') t4 h.ne.symm, (ii.later b3').carry t4.size (fun _ hb _ => hb) (fun b hb hlt => t4.block b hlt (fun e => by have := Option.some.inj e; have := h.lt; omega)), k2, touch_trans (touch_trans tt (touch_below _ b3')) t4, HJ⟩
          case measure => rw [place_is r4, place_is rr]; omega
        · have e1 : again t x = .node 4 none4 x.1 x.2 [t] := by unfold again; rw [if_neg hx]
          have e2 : (decide (x.1 = 1) && decide (x.2 = 1)) = false := by simp; omega
          rw [e1] at HJ
          rw [e2] at h41
          clear e1 e2 hx
          obtain ⟨mn, mx⟩ := x
          simp only at *
          go_wp2_with (first | (go_at_call 74; refine (h42 _ _ _ rr).mono ?_; rintro e w3 ⟨rfl, b3'⟩) | (go_at_call 83; refine (h54 _ _ _ (rr.later b3')).mono ?_; rintro e w4 ⟨rfl, r4, t4⟩; have q4 := Box.keep (qq.below b3') t4 hne1; have q5 := q4.below (below_alloc w4 (.cells #[.int .i64 t.kind, .int .u64 t.set.a, .int .u64 t.set.b, .int .u64 t.set.c, .int .u64 t.set.d, .int .i64 t.min, .int .i64 t.max, .slice va vn vc] 28)); obtain ⟨⟨c0, c1, c2, c3, c4, c5, c6, c7⟩, g0, g1, g2, g3, g4, g5, g6, g7⟩ := b8 q4; obtain ⟨⟨d0, d1, d2, d3, d4, d5, d6, d7⟩, f0, f1, f2, f3, f4, f5, f6, f7⟩ := b8 q5) | (go_at_call 67; refine (h41 _).mono ?_; rintro e w5 ⟨rfl, hh⟩; obtain rfl := hh.symm))
          have z4 := Box.keep (zz.below b3') t4 h.ne.symm
          have hq4 := q4.lt
          have hz4 := z4.lt
          have i4 : Is w4 (fun b => w.heap.size < b ∧ b ≠ b3) t (.slice va vn vc) := (ii.later b3').carry t4.size (fun _ hb _ => hb) (fun b hb hlt => t4.block b hlt (fun e => by have := Option.some.inj e; have := h.lt; omega))
          have rE := (r4.later (below_alloc w4 (.cells #[.int .i64 t.kind, .int .u64 t.set.a, .int .u64 t.set.b, .int .u64 t.set.c, .int .u64 t.set.d, .int .i64 t.min, .int .i64 t.max, .slice va vn vc] 28))).other (touch_set8 _ b3 (.node 4 none4 mn mx [t]) (.slice (some ⟨w4.heap.size, 0, none⟩) 1 1)) hne1.symm
          have kE := Box.keep (box_new w4 t (.slice va vn vc)) (touch_set8 _ b3 (.node 4 none4 mn mx [t]) (.slice (some ⟨w4.heap.size, 0, none⟩) 1 1)) (by omega)
          have iE := (i4.later (below_alloc w4 (.cells #[.int .i64 t.kind, .int .u64 t.set.a, .int .u64 t.set.b, .int .u64 t.set.c, .int .u64 t.set.d, .int .i64 t.min, .int .i64 t.max, .slice va vn vc] 28))).carry (touch_set8 _ b3 (.node 4 none4 mn mx [t]) (.slice (some ⟨w4.heap.size, 0, none⟩) 1 1)).size (fun _ hb _ => hb) (fun b hb hlt => (touch_set8 _ b3 (.node 4 none4 mn mx [t]) (.slice (some ⟨w4.heap.size, 0, none⟩) 1 1)).block b hlt (fun e => hb.2 (Option.some.inj e)))
          refine ⟨⟨n, p', .node 4 none4 mn mx [t], some ⟨w4.heap.size, 0, none⟩, 1, 1, rE, box_set q5 (.node 4 none4 mn mx [t]) _, Box.keep (z4.below (below_alloc _ _)) (touch_set8 _ b3 (.node 4 none4 mn mx [t]) _) hne2.symm, ?_, k2, touch_over (touch_alloc (touch_trans (touch_trans tt (touch_below _ b3')) t4) _) (touch_set8 _ b3 (.node 4 none4 mn mx [t]) _) (by omega), HJ⟩, ?_⟩
          · refine Is.node 4 none4 mn mx [t] w4.heap.size 0 1 (fun _ => .slice va vn vc) (by simp) (by decide) kE.lt ⟨hz4, by omega⟩ ?_ ?_
            · intro i hi
              obtain rfl : i = 0 := by simp at hi; omega
              exact kE.cells
            · intro i hi
              obtain rfl : i = 0 := by simp at hi; omega
              exact iE
          · refine Nat.lt_of_le_of_lt (Nat.le_of_eq (congrArg (fun x => u.size - x) (place_is rE))) ?_
            rw [place_is rr]; omega
      · have HE : Hid (res = .bad er (suf u q')) := by
          show _ = _
          rw [HI.out.1]; conv => lhs; unfold rpts
          rw [hs, k3]; rfl
        clear hs HI k3
        go_wp2_with (first | (go_at_call 74; refine (h42 _ _ _ rr).mono ?_; rintro e w3 ⟨rfl, b3'⟩) | (go_at_call 83; refine (h54 _ _ _ (rr.later b3')).mono ?_; rintro e w4 ⟨rfl, t4⟩))
        exact ⟨rfl, .inr ⟨er, q', HE.out, k2, rfl, touch_trans (touch_trans tt (touch_below _ b3')) t4⟩⟩

theorem item_any (u : ByteArray) (hu : u.size ≤ 512) (op : Nat) (grp : List Nat → R Tr) (hg : Tells 86 1 0 u op grp) : Tells 75 1 0 u op (item grp) := by
  refine tells_of (item_pure u hu op grp hg) ?_
  intro p hp g w h
  unfold item
  rcases atom_any u hu op grp hg p hp with ⟨t, p1, h1, h2, h3, h4, h53⟩ | ⟨e, q, h2, h3, h53⟩
  · rw [h3]
    simp only [R.then]
    rw [suf_length]
    exact item_walk u hu op p p1 t h2 h53 _ rfl g w h
  · rw [h3]
    clear h3
    have r0 := fun o => h.later (below_alloc w o)
    go_enter Tryd.func75, Tryd.ntmps75
    go_wp2_with (go_at_call 82; refine (h53 _ _ (r0 _)).mono ?_; rintro e w1 ⟨rfl, t1⟩)
    exact ⟨rfl, .inr ⟨e, q, rfl, h2, rfl, touch_trans (touch_alloc (touch_refl _ _) _) t1⟩⟩
end Go.Proofs.YtfclidcfhadohaaDoor.st

namespace Go.Proofs.YtfclidcfhadohaaDoor.st
open Go.Sort Go.ChangeShapes Go.WideShapes Go.ChangeAt Go.RowKit
set_option linter.unusedVariables false

theorem nodes_pos (t : Tr) : 1 ≤ t.nodes := by rw [t.nodes_eq]; omega
theorem length_nodes (l : List Tr) : l.length ≤ nodesOf l := by
  induction l with
  | nil => simp [nodesOf]
  | cons t l ih => have := nodes_pos t; simp only [List.length_cons, nodesOf]; omega
theorem laid_nodes (ks : List Tr) (t : Tr) (k : Int) : nodesOf (laid ks t k) ≤ nodesOf ks + t.nodes := by
  unfold laid
  have := t.nodes_eq
  split
  · rw [nodesOf_append]; omega
  · rw [nodesOf_append]; simp only [nodesOf]; omega
theorem grown_nodes (k : Int) (ks : List Tr) : (grown k ks).nodes ≤ nodesOf ks + 1 := by
  unfold grown
  split
  · rename_i h
    obtain ⟨x, rfl⟩ := List.length_eq_one_iff.1 h
    simp [nthT, nodesOf]
  · simp only [Tr.nodes]; omega

theorem items_pure (u : ByteArray) (hu : u.size ≤ 512) (op : Nat) (grp : List Nat → R Tr) (hg : Tells 86 1 0 u op grp) (n : Nat) : ∀ (ks : List Tr) (p : Nat), p ≤ u.size → u.size - p < n →
    (∃ t' p', p ≤ p' ∧ p' ≤ u.size ∧ items grp n ks (suf u p) = .ok t' (suf u p') ∧ t'.nodes ≤ nodesOf ks + 2 * (p' - p) + 1) ∨ (∃ e q, q ≤ u.size ∧ items grp n ks (suf u p) = .bad e (suf u q)) := by
  induction n with
  | zero => intro ks p hp hn; omega
  | succ n ih =>
    intro ks p hp hn
    unfold items
    by_cases hend : suf u p = [] ∨ sees [124, 41] (suf u p) = true
    · rw [if_pos hend]
      exact .inl ⟨_, p, Nat.le_refl _, hp, rfl, by have := grown_nodes 2 ks; omega⟩
    · rw [if_neg hend]
      rcases item_any u hu op grp hg p hp with ⟨t, p1, k1, k2, k3, k4, _⟩ | ⟨e, q, k2, k3, _⟩
      · rw [k3]
        have := laid_nodes ks t 2
        rcases ih (laid ks t 2) p1 k2 (by omega) with ⟨t', p', m1, m2, m3, m4⟩ | ⟨e, q, m2, m3⟩
        · exact .inl ⟨t', p', by omega, m2, m3, by omega⟩
        · exact .inr ⟨e, q, m2, m3⟩
      · rw [k3]; exact .inr ⟨e, q, k2, rfl⟩

/-- what stands between the loop's rounds -/
structure Mid (u : ByteArray) (g op B : Nat) (w wr : World) (p : Nat) (l : List (Tr × Value)) (v : Value) : Prop where
  rd : Rd wr g u p op
  zero : Box wr B Tr.zero (.slice none 0 0)
  own : OwnK (B + 1) wr v l
  t : w.grownBy wr (some g)
  few : nodesOf (l.map Prod.fst) ≤ 2 * u.size + 2
  le : p ≤ u.size

theorem Mid.lt {u : ByteArray} {g op B : Nat} {w wr : World} {p : Nat} {l : List (Tr × Value)} {v : Value} (h : Mid u g op B w wr p l v) : B + 1 ≤ wr.heap.size := h.zero.lt
theorem Mid.small {u : ByteArray} {g op B : Nat} {w wr : World} {p : Nat} {l : List (Tr × Value)} {v : Value} (h : Mid u g op B w wr p l v) (hu : u.size ≤ 512) : l.length ≤ 1026 := by
  have h1 := length_nodes (l.map Prod.fst); have h2 := h.few; rw [List.length_map] at h1; omega

theorem Mid.later {u : ByteArray} {g op B : Nat} {w wr w1 : World} {p : Nat} {l : List (Tr × Value)} {v : Value} (h : Mid u g op B w wr p l v) (b : RowKit.Below wr.heap.size wr w1) : Mid u g op B w w1 p l v :=
  ⟨h.rd.later b, h.zero.below b, h.own.below b, touch_trans h.t (touch_below _ b), h.few, h.le⟩

/-- a tree that is read, laid behind the others -/
theorem Mid.more {u : ByteArray} {g op : Nat} {w wr w1 w2 : World} {p p1 : Nat} {l l' : List (Tr × Value)} {v v' : Value} (h : Mid u g op w.heap.size w wr p l v) (hg : g < w.heap.size) (t1 : wr.grownBy w1 (some g)) (r1 : Rd w1 g u p1 op) (o2 : OwnK (w.heap.size + 1) w2 v' l') (t2 : w1.grownBy w2 v.ownBlock) (hp1 : p1 ≤ u.size) (hf : nodesOf (l'.map Prod.fst) ≤ 2 * u.size + 2) : Mid u g op w.heap.size w w2 p1 l' v' := by
  have hv : ∀ k, v.ownBlock = some k → w.heap.size + 1 ≤ k := fun k hk => (World.ownsRow.lt h.own.row k hk).1
  refine ⟨?_, ?_, o2, ?_, hf, hp1⟩
  · unfold Rd; rw [t2.block g r1.lt (fun e => by have := hv g e.symm; omega)]; exact r1
  · have z1 := Box.keep h.zero t1 (by omega)
    unfold Box; rw [t2.block _ z1.lt (fun e => by have := hv _ e.symm; omega)]; exact z1
  · have t3 := touch_trans h.t t1
    exact ⟨t2.os.trans t3.os, t2.tape.trans t3.tape, t2.output.trans t3.output, Nat.le_trans t3.size t2.size, fun k hk hne => (t2.block k (Nat.lt_of_lt_of_le hk t3.size) (fun e => by have := hv k e.symm; omega)).trans (t3.block k hk hne)⟩

/-- the end: what was grown, through the first cell -/
theorem Mid.done {u : ByteArray} {g op : Nat} {w wr w3 : World} {p : Nat} {l : List (Tr × Value)} {v tv : Value} {t : Tr} (h : Mid u g op w.heap.size w wr p l v) (hg : g < w.heap.size) (b3 : RowKit.Below wr.heap.size wr w3) (i3 : Is w3 (fun b => w.heap.size + 1 ≤ b) t tv) (res : R Tr) (hres : res = .ok t (suf u p)) (W : World) (hW : w3.grownBy W (some w.heap.size)) :
    OutT res u g op w (.returned (.agg #[.int .i64 t.kind, .int .u64 t.set.a, .int .u64 t.set.b, .int .u64 t.set.c, .int .u64 t.set.d, .int .i64 t.min, .int .i64 t.max, tv])) W := by
  refine .inl ⟨t, p, tv, hres, h.le, rfl, ?_, (h.rd.later b3).other hW (by omega), touch_over (touch_trans h.t (touch_below _ b3)) hW (Nat.le_refl _)⟩
  exact i3.carry hW.size (fun b hb _ => by omega) (fun b hb hlt => hW.block b hlt (fun e => by have := Option.some.inj e; omega))

set_option maxHeartbeats 4000000 in
set_option maxRecDepth 100000 in
theorem cat_walk (u : ByteArray) (hu : u.size ≤ 512) (op : Nat) (grp : List Nat → R Tr) (hg : Tells 86 1 0 u op grp) (p : Nat) (hp : p ≤ u.size) :
    ∀ g w, Rd w g u p op → Calls Tryd.prog 64 #[.pointer (some ⟨g, 0, none⟩)] w (OutT (cat grp (suf u p)) u g op w) := by
  intro g w h
  have hu2 : u.size ≤ 9223372036854775807 := by omega
  obtain ⟨res, hres⟩ : ∃ res, res = cat grp (suf u p) := ⟨_, rfl⟩
  have HR : Hid (res = items grp (u.size - p + 1) [] (suf u p)) := by show _ = _; rw [hres]; unfold cat; rw [suf_length]
  rw [← hres]
  clear hres
  have hgw := h.lt
  have m0 : Mid u g op w.heap.size w (w.alloc (.cells #[.int .i64 0, .int .u64 0, .int .u64 0, .int .u64 0, .int .u64 0, .int .i64 0, .int .i64 0, .slice none 0 0] 28)) p [] (.slice none 0 0) :=
    ⟨h.later (below_alloc _ _), box_new w Tr.zero (.slice none 0 0), own_nil _ _, touch_alloc (touch_refl _ _) _, by simp [nodesOf], hp⟩
  go_enter Tryd.func64, Tryd.ntmps64
  go_wp2_with (fail)
  go_loopw [3] (fun x wr => ∃ (n p : Nat) (l : List (Tr × Value)), Mid u g op w.heap.size w wr p l x ∧ Hid (res = items grp n (l.map Prod.fst) (suf u p) ∧ u.size - p < n ∧ nodesOf (l.map Prod.fst) ≤ 2 * p)) (fun _ wr => u.size - placeOf wr g)
  case atStart => exact ⟨_, p, [], m0, HR.out, by omega, by simp [nodesOf]⟩
  case round =>
    obtain ⟨n, p, l, mm, HI⟩ := hrel
    obtain ⟨n, rfl⟩ : ∃ m, n = m + 1 := ⟨n - 1, by have := HI.out.2.1; omega⟩
    have hp := mm.le
    have hsm := mm.small hu
    clear m0 HR
    have h42 := sees_any u p ⟨#[124, 41]⟩ hp hu2 _ rfl
    rw [show codes ⟨#[124, 41]⟩ = [124, 41] from rfl] at h42
    obtain ⟨xa, xcap, rfl, hxc⟩ := mm.own.shape
    have h37 := grown_any (w.heap.size + 1) l 2 _ rfl (by omega)
    by_cases hin : p < u.size
    · have k0 := cell_regrown mm.rd.c0
      have k1 := cell_regrown mm.rd.c1
      have hlt : decide (p < u.size) = true := by simpa using hin
      have hne : suf u p ≠ [] := by rw [suf_in u p hin]; simp
      cases hs : sees [124, 41] (suf u p) with
      | true =>
        rw [hs] at h42
        have g42 := sees_grow h42 mm.rd
        have HE : Hid (res = .ok (grown 2 (l.map Prod.fst)) (suf u p)) := by show _ = _; rw [HI.out.1]; unfold items; rw [if_pos (.inr hs)]
        clear hs HI h42 hne
        go_wp2_with (fail)
        refine wp_region_quiet_below (by kernel_rfl) (by kernel_rfl) ?_
        repeat (go_big_quiet_step (with_reducible exact g42 _ _))
        refine wpQuiet_nil ?_
        intro _ hw'
        obtain ⟨⟨dq, osq⟩, hw''⟩ := hw'
        subst hw''
        have b1 := below_regrown wr dq osq
        generalize grow (redrawn wr dq) osq = w1 at *
        have m1 := mm.later b1
        clear g42 k0 k1
        obtain ⟨T, hT⟩ : ∃ T, T = grown 2 (l.map Prod.fst) := ⟨_, rfl⟩
        rw [← hT] at h37 HE
        clear hT
        go_wp2_with (go_at_call 66; refine (h37 _ _ m1.own).mono ?_; rintro e w3 ⟨tv, rfl, i3, b3⟩; obtain ⟨ta, tn, tc, rfl⟩ := i3.shape; have z3 := m1.zero.below b3; obtain ⟨⟨d0, d1, d2, d3, d4, d5, d6, d7⟩, f0, f1, f2, f3, f4, f5, f6, f7⟩ := b8 z3)
        refine ret28 Tryd.results64 w.heap.size T (.slice ta tn tc) rfl (box_set z3 T _) rfl ?_
        exact m1.done hgw b3 i3 res HE.out _ (touch_set8 _ _ T _)
      | false =>
        rw [hs] at h42
        have g42 := sees_grow h42 mm.rd
        have hno : ¬ (suf u p = [] ∨ sees [124, 41] (suf u p) = true) := by rw [hs]; simp [hne]
        rcases item_any u hu op grp hg p hp with ⟨t, p', q1, q2, q3, q4, h43⟩ | ⟨er, q', q2, q3, h43⟩
        · have hln := laid_nodes (l.map Prod.fst) t 2
          have HJ : Hid (res = items grp n (laid (l.map Prod.fst) t 2) (suf u p') ∧ u.size - p' < n ∧ nodesOf (laid (l.map Prod.fst) t 2) ≤ 2 * p') := by
            refine ⟨?_, by have := HI.out.2.1; omega, by have := HI.out.2.2; omega⟩
            rw [HI.out.1]; conv => lhs; unfold items
            rw [if_neg hno, q3]; rfl
          have hkl : t.kids.length ≤ 1026 := by have := length_nodes t.kids; have := t.nodes_eq; omega
          have h34 := laid_any (w.heap.size + 1) l t 2 (by omega)
          clear hs HI h42 hne hno q3
          go_wp2_with (fail)
          refine wp_region_quiet_below (by kernel_rfl) (by kernel_rfl) ?_
          repeat (go_big_quiet_step (with_reducible exact g42 _ _))
          refine wpQuiet_nil ?_
          intro _ hw'
          obtain ⟨⟨dq, osq⟩, hw''⟩ := hw'
          subst hw''
          have b1 := below_regrown wr dq osq
          generalize grow (redrawn wr dq) osq = w1 at *
          have m1 := mm.later b1
          clear g42 k0 k1
          go_wp2_with (first | (go_at_call 75; refine (h43 _ _ m1.rd).mono ?_; rintro e w2 ⟨tv, rfl, i2, r2, t2⟩; have o2 := m1.own.kept t2 (by omega); have i2' : Is w2 (fun b => w.heap.size + 1 ≤ b ∧ Value.ownBlock _ ≠ some b) t tv := i2.weaken (fun b hb => ⟨Nat.le_trans m1.lt hb, fun e => by have := (World.ownsRow.lt m1.own.row b e).2; omega⟩)) | (go_at_call 63; refine (h34 _ _ _ o2 i2' (Nat.le_trans m1.lt t2.size)).mono ?_; rintro e w3 ⟨v', l', rfl, o3, e3, t3⟩))
          have m3 := m1.more hgw t2 r2 o3 t3 q2 (by rw [e3]; have := HJ.out.2.2; omega)
          go_roundw
          case rel => exact ⟨n, p', l', m3, by rw [e3]; exact HJ.out⟩
          case measure => rw [place_is m3.rd, place_is mm.rd]; omega
        · have HE : Hid (res = .bad er (suf u q')) := by
            show _ = _
            rw [HI.out.1]; conv => lhs; unfold items
            rw [if_neg hno, q3]; rfl
          clear hs HI h42 hne hno q3
          go_wp2_with (fail)
          refine wp_region_quiet_below (by kernel_rfl) (by kernel_rfl) ?_
          repeat (go_big_quiet_step (with_reducible exact g42 _ _))
          refine wpQuiet_nil ?_
          intro _ hw'
          obtain ⟨⟨dq, osq⟩, hw''⟩ := hw'
          subst hw''
          have b1 := below_regrown wr dq osq
          generalize grow (redrawn wr dq) osq = w1 at *
          have m1 := mm.later b1
          clear g42 k0 k1
          go_wp2_with (go_at_call 75; refine (h43 _ _ m1.rd).mono ?_; rintro e w2 ⟨rfl, t2⟩)
          exact ⟨rfl, .inr ⟨er, q', HE.out, q2, rfl, touch_trans m1.t t2⟩⟩
    · have hlt : decide (p < u.size) = false := by simpa using hin
      have k0 := cell_regrown mm.rd.c0
      have k1 := cell_regrown mm.rd.c1
      have HE : Hid (res = .ok (grown 2 (l.map Prod.fst)) (suf u p)) := by show _ = _; rw [HI.out.1]; unfold items; rw [if_pos (.inl (suf_out u p (by omega)))]
      have e : p = u.size := by omega
      subst e
      clear HI h42 hin
      go_wp2_with (fail)
      refine wp_region_quiet_below (by kernel_rfl) (by kernel_rfl) ?_
      repeat (go_big_quiet_step (fail))
      refine wpQuiet_nil ?_
      intro _ hw'
      obtain ⟨⟨dq, osq⟩, hw''⟩ := hw'
      subst hw''
      have b1 := below_regrown wr dq osq
      generalize grow (redrawn wr dq) osq = w1 at *
      have m1 := mm.later b1
      clear k0 k1
      obtain ⟨T, hT⟩ : ∃ T, T = grown 2 (l.map Prod.fst) := ⟨_, rfl⟩
      rw [← hT] at h37 HE
      clear hT
      go_wp2_with (go_at_call 66; refine (h37 _ _ m1.own).mono ?_; rintro e w3 ⟨tv, rfl, i3, b3⟩; obtain ⟨ta, tn, tc, rfl⟩ := i3.shape; have z3 := m1.zero.below b3; obtain ⟨⟨d0, d1, d2, d3, d4, d5, d6, d7⟩, f0, f1, f2, f3, f4, f5, f6, f7⟩ := b8 z3)
      refine ret28 Tryd.results64 w.heap.size T (.slice ta tn tc) rfl (box_set z3 T _) rfl ?_
      exact m1.done hgw b3 i3 res HE.out _ (touch_set8 _ _ T _)

theorem cat_any (u : ByteArray) (hu : u.size ≤ 512) (op : Nat) (grp : List Nat → R Tr) (hg : Tells 86 1 0 u op grp) : Tells 64 0 1 u op (cat grp) := by
  refine tells_of ?_ (cat_walk u hu op grp hg)
  intro p hp
  unfold cat
  rw [suf_length]
  rcases items_pure u hu op grp hg (u.size - p + 1) [] p hp (by omega) with ⟨t', p', m1, m2, m3, m4⟩ | ⟨e, q, m2, m3⟩
  · exact .inl ⟨t', p', m1, m2, m3, by simp only [nodesOf] at m4; omega⟩
  · exact .inr ⟨e, q, m2, m3⟩
end Go.Proofs.YtfclidcfhadohaaDoor.st

namespace Go.Proofs.YtfclidcfhadohaaDoor.st
open Go.Sort Go.ChangeShapes Go.WideShapes Go.ChangeAt Go.RowKit
set_option linter.unusedVariables false

theorem alts_pure (u : ByteArray) (hu : u.size ≤ 512) (op : Nat) (grp : List Nat → R Tr) (hg : Tells 86 1 0 u op grp) (n : Nat) : ∀ (ks : List Tr) (p : Nat), p ≤ u.size → u.size - p < n →
    (∃ t' p', p ≤ p' ∧ p' ≤ u.size ∧ alts grp n ks (suf u p) = .ok t' (suf u p') ∧ t'.nodes ≤ nodesOf ks + 2 * (p' - p) + 1) ∨ (∃ e q, q ≤ u.size ∧ alts grp n ks (suf u p) = .bad e (suf u q)) := by
  induction n with
  | zero => intro ks p hp hn; omega
  | succ n ih =>
    intro ks p hp hn
    unfold alts
    cases hs : sees [124] (suf u p) with
    | false => exact .inl ⟨grown 3 ks, p, Nat.le_refl _, hp, by simp, by have := grown_nodes 3 ks; omega⟩
    | true =>
      have hin := sees_lt hs
      simp only [if_true]
      rw [suf_tail u p hin]
      rcases cat_any u hu op grp hg (p + 1) hin with ⟨t, p1, k1, k2, k3, k4, _⟩ | ⟨e, q, k2, k3, _⟩
      · rw [k3]
        have := laid_nodes ks t 3
        rcases ih (laid ks t 3) p1 k2 (by omega) with ⟨t', p', m1, m2, m3, m4⟩ | ⟨e, q, m2, m3⟩
        · exact .inl ⟨t', p', by omega, m2, m3, by omega⟩
        · exact .inr ⟨e, q, m2, m3⟩
      · rw [k3]; exact .inr ⟨e, q, k2, rfl⟩

theorem alt_pure (u : ByteArray) (hu : u.size ≤ 512) (op : Nat) (grp : List Nat → R Tr) (hg : Tells 86 1 0 u op grp) (p : Nat) (hp : p ≤ u.size) : Pure (p + 0) 2 p (altOf grp (suf u p)) u := by
  unfold altOf
  rcases cat_any u hu op grp hg p hp with ⟨t, p1, k1, k2, k3, k4, _⟩ | ⟨e, q, k2, k3, _⟩
  · rw [k3]
    simp only [R.then]
    rw [suf_length]
    have := laid_nodes [] t 3
    simp only [nodesOf] at this
    rcases alts_pure u hu op grp hg (u.size - p1 + 1) (laid [] t 3) p1 k2 (by omega) with ⟨t', p', m1, m2, m3, m4⟩ | ⟨e, q, m2, m3⟩
    · exact .inl ⟨t', p', by omega, m2, m3, by omega⟩
    · exact .inr ⟨e, q, m2, m3⟩
  · rw [k3]; exact .inr ⟨e, q, k2, rfl⟩

set_option maxHeartbeats 4000000 in
set_option maxRecDepth 100000 in
theorem alt_walk (u : ByteArray) (hu : u.size ≤ 512) (op : Nat) (grp : List Nat → R Tr) (hg : Tells 86 1 0 u op grp) (p p1 : Nat) (hpp : p ≤ p1) (hp1 : p1 ≤ u.size) (t : Tr) (ht : t.nodes ≤ 2 * (p1 - p) + 1) (h35 : OkT 64 u p op t p1) (res : R Tr) (hres : res = alts grp (u.size - p1 + 1) (laid [] t 3) (suf u p1)) :
    ∀ g w, Rd w g u p op → Calls Tryd.prog 48 #[.pointer (some ⟨g, 0, none⟩)] w (OutT res u g op w) := by
  intro g w h
  have hu2 : u.size ≤ 9223372036854775807 := by omega
  have HR : Hid (res = alts grp (u.size - p1 + 1) (laid [] t 3) (suf u p1)) := hres
  clear hres
  have hgw := h.lt
  have hkl : t.kids.length ≤ 1026 := by have := length_nodes t.kids; have := t.nodes_eq; omega
  have h34 := laid_any (w.heap.size + 1) [] t 3 (by simp; omega)
  have hln := laid_nodes [] t 3
  simp only [nodesOf] at hln
  have m0 : Mid u g op w.heap.size w (w.alloc (.cells #[.int .i64 0, .int .u64 0, .int .u64 0, .int .u64 0, .int .u64 0, .int .i64 0, .int .i64 0, .slice none 0 0] 28)) p [] (.slice none 0 0) :=
    ⟨h.later (below_alloc _ _), box_new w Tr.zero (.slice none 0 0), own_nil _ _, touch_alloc (touch_refl _ _) _, by simp [nodesOf], by omega⟩
  go_enter Tryd.func48, Tryd.ntmps48
  go_wp2_with (first | (go_at_call 64; refine (h35 _ _ m0.rd).mono ?_; rintro e w1 ⟨tv, rfl, i1, r1, t1⟩; have o1 := m0.own.kept t1 (by omega); have i1' : Is w1 (fun b => w.heap.size + 1 ≤ b ∧ Value.ownBlock (.slice none 0 0) ≠ some b) t tv := i1.weaken (fun b hb => ⟨Nat.le_trans m0.lt hb, by simp [Value.ownBlock]⟩)) | (go_at_call 63; refine (h34 _ _ _ o1 i1' (Nat.le_trans m0.lt t1.size)).mono ?_; rintro e w2 ⟨v', l', rfl, o2, e2, t2⟩))
  have m2 := m0.more hgw t1 r1 o2 t2 hp1 (by rw [e2]; simp only [List.map_nil]; omega)
  go_loopw [3] (fun x wr => ∃ (n p : Nat) (l : List (Tr × Value)), Mid u g op w.heap.size w wr p l x ∧ Hid (res = alts grp n (l.map Prod.fst) (suf u p) ∧ u.size - p < n ∧ nodesOf (l.map Prod.fst) ≤ 2 * p + 1)) (fun _ wr => u.size - placeOf wr g)
  case atStart => exact ⟨_, p1, l', m2, by rw [e2]; exact HR.out, by omega, by rw [e2]; simp only [List.map_nil]; omega⟩
  case round =>
    clear m2 m0 HR h35 h34 o1 i1' i1 r1 t1 o2 t2 e2 hln hkl ht
    obtain ⟨n, p, l, mm, HI⟩ := hrel
    obtain ⟨n, rfl⟩ : ∃ m, n = m + 1 := ⟨n - 1, by have := HI.out.2.1; omega⟩
    have hp := mm.le
    have hsm := mm.small hu
    have h37 := grown_any (w.heap.size + 1) l 3 _ rfl (by omega)
    obtain ⟨xa, xcap, rfl, hxc⟩ := mm.own.shape
    cases hs : sees [124] (suf u p) with
    | false =>
      have h36 := skips_no ⟨#[124]⟩ u p hp hu2 hs
      have HE : Hid (res = .ok (grown 3 (l.map Prod.fst)) (suf u p)) := by show _ = _; rw [HI.out.1]; unfold alts; rw [hs]; rfl
      clear hs HI
      obtain ⟨T, hT⟩ : ∃ T, T = grown 3 (l.map Prod.fst) := ⟨_, rfl⟩
      rw [← hT] at h37 HE
      clear hT
      go_wp2_with (first | (go_at_call 65; refine (h36 _ _ _ mm.rd).mono ?_; rintro e w3 ⟨rfl, r3, t3⟩; have o3 := mm.own.kept t3 (by omega)) | (go_at_call 66; refine (h37 _ _ o3).mono ?_; rintro e w4 ⟨tv, rfl, i4, b4⟩; obtain ⟨ta, tn, tc, rfl⟩ := i4.shape; have z4 := (Box.keep mm.zero t3 (by omega)).below b4; obtain ⟨⟨d0, d1, d2, d3, d4, d5, d6, d7⟩, f0, f1, f2, f3, f4, f5, f6, f7⟩ := b8 z4))
      refine ret28 Tryd.results48 w.heap.size T (.slice ta tn tc) rfl (box_set z4 T _) rfl ?_
      exact Mid.done (wr := w3) ⟨r3, Box.keep mm.zero t3 (by omega), o3, touch_trans mm.t t3, mm.few, hp⟩ hgw b4 i4 res HE.out _ (touch_set8 _ _ T _)
    | true =>
      have hin := sees_lt hs
      have h36 := skips_yes ⟨#[124]⟩ u p hu2 hs
      rcases cat_any u hu op grp hg (p + 1) hin with ⟨t, p', q1, q2, q3, q4, g35⟩ | ⟨er, q', q2, q3, g35⟩
      · have hln := laid_nodes (l.map Prod.fst) t 3
        have HJ : Hid (res = alts grp n (laid (l.map Prod.fst) t 3) (suf u p') ∧ u.size - p' < n ∧ nodesOf (laid (l.map Prod.fst) t 3) ≤ 2 * p' + 1) := by
          refine ⟨?_, by have := HI.out.2.1; omega, by have := HI.out.2.2; omega⟩
          rw [HI.out.1]; conv => lhs; unfold alts
          rw [hs, suf_tail u p hin]; simp only [if_true]
          rw [q3]; rfl
        have hkl : t.kids.length ≤ 1026 := by have := length_nodes t.kids; have := t.nodes_eq; omega
        have g34 := laid_any (w.heap.size + 1) l t 3 (by omega)
        clear hs HI q3
        go_wp2_with (first | (go_at_call 65; refine (h36 _ _ _ mm.rd).mono ?_; rintro e w3 ⟨rfl, r3, t3⟩; have o3 := mm.own.kept t3 (by omega); have m3 : Mid u g op w.heap.size w w3 (p + 1) l _ := ⟨r3, Box.keep mm.zero t3 (by omega), o3, touch_trans mm.t t3, mm.few, hin⟩) | (go_at_call 64; refine (g35 _ _ r3).mono ?_; rintro e w4 ⟨tv, rfl, i4, r4, t4⟩; have o4 := o3.kept t4 (by omega); have i4' : Is w4 (fun b => w.heap.size + 1 ≤ b ∧ Value.ownBlock (.slice xa l.length xcap) ≠ some b) t tv := i4.weaken (fun b hb => ⟨Nat.le_trans m3.lt hb, fun e => by have := (World.ownsRow.lt o3.row b e).2; omega⟩)) | (go_at_call 63; refine (g34 _ _ _ o4 i4' (Nat.le_trans m3.lt t4.size)).mono ?_; rintro e w5 ⟨v', l', rfl, o5, e5, t5⟩))
        have m5 := m3.more hgw t4 r4 o5 t5 q2 (by rw [e5]; have := HJ.out.2.2; omega)
        go_roundw
        case rel => exact ⟨n, p', l', m5, by rw [e5]; exact HJ.out⟩
        case measure => rw [place_is m5.rd, place_is mm.rd]; omega
      · have HE : Hid (res = .bad er (suf u q')) := by
          show _ = _
          rw [HI.out.1]; conv => lhs; unfold alts
          rw [hs, suf_tail u p hin]; simp only [if_true]
          rw [q3]; rfl
        clear hs HI q3
        go_wp2_with (first | (go_at_call 65; refine (h36 _ _ _ mm.rd).mono ?_; rintro e w3 ⟨rfl, r3, t3⟩) | (go_at_call 64; refine (g35 _ _ r3).mono ?_; rintro e w4 ⟨rfl, t4⟩))
        exact ⟨rfl, .inr ⟨er, q', HE.out, q2, rfl, touch_trans (touch_trans mm.t t3) t4⟩⟩

theorem alt_any (u : ByteArray) (hu : u.size ≤ 512) (op : Nat) (grp : List Nat → R Tr) (hg : Tells 86 1 0 u op grp) : Tells 48 0 2 u op (altOf grp) := by
  refine tells_of (alt_pure u hu op grp hg) ?_
  intro p hp g w h
  unfold altOf
  rcases cat_any u hu op grp hg p hp with ⟨t, p1, k1, k2, k3, k4, h35⟩ | ⟨e, q, k2, k3, h35⟩
  · rw [k3]
    simp only [R.then]
    rw [suf_length]
    exact alt_walk u hu op grp hg p p1 k1 k2 t k4 h35 _ rfl g w h
  · rw [k3]
    clear k3
    have r0 := fun o => h.later (below_alloc w o)
    go_enter Tryd.func48, Tryd.ntmps48
    go_wp2_with (go_at_call 64; refine (h35 _ _ (r0 _)).mono ?_; rintro e w1 ⟨rfl, t1⟩)
    exact ⟨rfl, .inr ⟨e, q, rfl, k2, rfl, touch_trans (touch_alloc (touch_refl _ _) _) t1⟩⟩
end Go.Proofs.YtfclidcfhadohaaDoor.st

namespace Go.Proofs.YtfclidcfhadohaaDoor.st
open Go.Sort Go.ChangeShapes Go.WideShapes Go.ChangeAt Go.RowKit
set_option linter.unusedVariables false

theorem group_full (u : ByteArray) (hu : u.size ≤ 512) : Tells 86 1 0 u 30 (group 0) := by
  intro p hp
  refine .inr ⟨2, p, hp, rfl, ?_⟩
  intro g w h
  have r0 := fun o => h.later (below_alloc w o)
  have c1 := fun o => (r0 o).c1
  have c2 : ∀ o, (w.alloc o).cell? ⟨g, 2, none⟩ = some (.int .i64 30) := fun o => (r0 o).c2
  go_enter Tryd.func86, Tryd.ntmps86
  go_wp2_with (fail)
  exact ⟨rfl, rfl, touch_alloc (touch_refl _ _) _⟩

set_option maxHeartbeats 4000000 in
set_option maxRecDepth 100000 in
theorem group_step (u : ByteArray) (hu : u.size ≤ 512) (d op : Nat) (hop : op < 30) (ha : Tells 48 0 2 u (op + 1) (altOf (group d))) : Tells 86 1 0 u op (group (d + 1)) := by
  intro p hp
  have hu2 : u.size ≤ 9223372036854775807 := by omega
  have hne30 : ((op : Int) == 30) = false := by rw [beq_eq_false_iff_ne]; omega
  have hs1 : (op : Int) + 1 = ((op + 1 : Nat) : Int) := by omega
  obtain ⟨op1, hop1⟩ : ∃ x, x = op + 1 := ⟨_, rfl⟩
  rw [← hop1] at ha hs1
  have hs2 : (op1 : Int) - 1 = (op : Int) := by omega
  have hop2 : op1 ≤ 30 := by omega
  unfold group
  have h1 := oneOf_any ⟨#[40]⟩ u p hp hu2
  rw [show codes ⟨#[40]⟩ = [40] from rfl] at h1
  clear hop1
  rcases h1 with ⟨c, p1, k1, k2, k3, h68⟩ | ⟨e, q, k2, k3, h68⟩
  case inr =>
    refine .inr ⟨e, q, k2, by rw [k3]; rfl, ?_⟩
    clear k3
    intro g w h
    have r0 := fun o => h.later (below_alloc w o)
    have c2 := fun o => (r0 o).c2
    have f2 := fun o => (r0 o).fz 2
    have r1 : Rd ((w.alloc (.cells #[.int .i64 0, .int .u64 0, .int .u64 0, .int .u64 0, .int .u64 0, .int .i64 0, .int .i64 0, .slice none 0 0] 28)).setCell ⟨g, 2, none⟩ (.int .i64 op1)) g u p op1 := (r0 _).set2 op1
    unfold BadV at h68
    go_enter Tryd.func86, Tryd.ntmps86
    go_wp2_with (go_at_call 90; (with_reducible refine (h68 _ _ _ r1).mono ?_); rintro e w1 ⟨rfl, t1⟩)
    exact ⟨rfl, rfl, touch_trans (touch_trans (touch_alloc (touch_refl _ _) _) (touch_cell _ _ _ _)) t1⟩
  rw [k3]
  simp only [R.then]
  clear k3
  rcases ha p1 k2 with ⟨t, p2, m1, m2, m3, m4, h28⟩ | ⟨e, q, m2, m3, h28⟩
  case inr =>
    refine .inr ⟨e, q, m2, by rw [m3], ?_⟩
    clear m3
    intro g w h
    have r0 := fun o => h.later (below_alloc w o)
    have c2 := fun o => (r0 o).c2
    have f2 := fun o => (r0 o).fz 2
    have r1 : Rd ((w.alloc (.cells #[.int .i64 0, .int .u64 0, .int .u64 0, .int .u64 0, .int .u64 0, .int .i64 0, .int .i64 0, .slice none 0 0] 28)).setCell ⟨g, 2, none⟩ (.int .i64 op1)) g u p op1 := (r0 _).set2 op1
    unfold OkV at h68
    go_enter Tryd.func86, Tryd.ntmps86
    go_wp2_with (first | (go_at_call 90; (with_reducible refine (h68 _ _ _ r1).mono ?_); rintro e w1 ⟨rfl, r1', t1⟩) | (go_at_call 48; refine (h28 _ _ r1').mono ?_; rintro e w2 ⟨rfl, t2⟩))
    exact ⟨rfl, rfl, touch_trans (touch_trans (touch_trans (touch_alloc (touch_refl _ _) _) (touch_cell _ _ _ _)) t1) t2⟩
  rw [m3]
  simp only
  clear m3
  have h2 := oneOf_any ⟨#[41]⟩ u p2 m2 hu2
  rw [show codes ⟨#[41]⟩ = [41] from rfl] at h2
  rcases h2 with ⟨c', p3, n1, n2, n3, g68⟩ | ⟨e, q, n2, n3, g68⟩
  case inr =>
    refine .inr ⟨e, q, n2, by rw [n3], ?_⟩
    clear n3
    intro g w h
    have r0 := fun o => h.later (below_alloc w o)
    have c2 := fun o => (r0 o).c2
    have f2 := fun o => (r0 o).fz 2
    have r1 : Rd ((w.alloc (.cells #[.int .i64 0, .int .u64 0, .int .u64 0, .int .u64 0, .int .u64 0, .int .i64 0, .int .i64 0, .slice none 0 0] 28)).setCell ⟨g, 2, none⟩ (.int .i64 op1)) g u p op1 := (r0 _).set2 op1
    unfold OkV at h68
    unfold BadV at g68
    go_enter Tryd.func86, Tryd.ntmps86
    go_wp2_with (first | (go_at_call 90; (with_reducible refine (h68 _ _ _ r1).mono ?_); rintro e w1 ⟨rfl, r1', t1⟩) | (go_at_call 48; refine (h28 _ _ r1').mono ?_; rintro e w2 ⟨v, rfl, i2, r2, t2⟩; obtain ⟨va, vn, vc, rfl⟩ := i2.shape; have r2' := r2.later (below_alloc w2 (.cells #[.int .i64 t.kind, .int .u64 t.set.a, .int .u64 t.set.b, .int .u64 t.set.c, .int .u64 t.set.d, .int .i64 t.min, .int .i64 t.max, .slice va vn vc] 28))) | (go_at_call 90; (with_reducible refine (g68 _ _ _ r2').mono ?_); rintro e w3 ⟨rfl, t3⟩))
    exact ⟨rfl, rfl, touch_trans (touch_alloc (touch_trans (touch_trans (touch_trans (touch_alloc (touch_refl _ _) _) (touch_cell _ _ _ _)) t1) t2) _) t3⟩
  rw [n3]
  refine .inl ⟨t, p3, by omega, n2, rfl, by omega, ?_⟩
  clear n3
  intro g w h
  have r0 := fun o => h.later (below_alloc w o)
  have c2 := fun o => (r0 o).c2
  have f2 := fun o => (r0 o).fz 2
  have r1 : Rd ((w.alloc (.cells #[.int .i64 0, .int .u64 0, .int .u64 0, .int .u64 0, .int .u64 0, .int .i64 0, .int .i64 0, .slice none 0 0] 28)).setCell ⟨g, 2, none⟩ (.int .i64 op1)) g u p op1 := (r0 _).set2 op1
  have z0 := Box.keep (box_new w Tr.zero (.slice none 0 0)) (touch_cell _ g 2 (.int .i64 op1)) h.ne.symm
  unfold OkV at h68 g68
  go_enter Tryd.func86, Tryd.ntmps86
  go_wp2_with (first | (go_at_call 90; (with_reducible refine (h68 _ _ _ r1).mono ?_); rintro e w1 ⟨rfl, r1', t1⟩) | (go_at_call 48; refine (h28 _ _ r1').mono ?_; rintro e w2 ⟨v, rfl, i2, r2, t2⟩; obtain ⟨va, vn, vc, rfl⟩ := i2.shape; have r2' := r2.later (below_alloc w2 (.cells #[.int .i64 t.kind, .int .u64 t.set.a, .int .u64 t.set.b, .int .u64 t.set.c, .int .u64 t.set.d, .int .i64 t.min, .int .i64 t.max, .slice va vn vc] 28))) | (go_at_call 90; (with_reducible refine (g68 _ _ _ r2').mono ?_); rintro e w3 ⟨rfl, r3, t3⟩; have e2 := r3.c2; have e3 := r3.fz 2; have hr4 := r3.set2 op; have q3 := Box.keep (Box.keep (box_new w2 t (.slice va vn vc)) t3 (by have := r2.lt; omega)) (touch_cell w3 g 2 (.int .i64 op)) (by have := r2.lt; omega); have z3 := Box.keep (Box.keep ((Box.keep (Box.keep z0 t1 h.ne.symm) t2 h.ne.symm).below (below_alloc w2 _)) t3 h.ne.symm) (touch_cell w3 g 2 (.int .i64 op)) h.ne.symm; obtain ⟨⟨x0, x1, x2, x3, x4, x5, x6, x7⟩, _⟩ := b8 q3; obtain ⟨⟨d0, d1, d2, d3, d4, d5, d6, d7⟩, y0, y1, y2, y3, y4, y5, y6, y7⟩ := b8 z3))
  have hgw := h.lt
  refine ret28 Tryd.results86 w.heap.size t (.slice va vn vc) rfl (box_set z3 t _) rfl ?_
  have hz1 : w.heap.size + 1 ≤ w1.heap.size := by have := t1.size; simpa using this
  have hz2 : w1.heap.size ≤ w2.heap.size := t2.size
  refine ⟨_, rfl, ?_, hr4.other (touch_set8 _ _ t _) (by omega), touch_over (touch_trans (touch_trans (touch_alloc (touch_trans (touch_trans (touch_trans (touch_alloc (touch_refl _ _) _) (touch_cell _ _ _ _)) t1) t2) _) t3) (touch_cell _ _ _ _)) (touch_set8 _ _ t _) (Nat.le_refl _)⟩
  have j2 := i2.later (below_alloc w2 (.cells #[.int .i64 t.kind, .int .u64 t.set.a, .int .u64 t.set.b, .int .u64 t.set.c, .int .u64 t.set.d, .int .i64 t.min, .int .i64 t.max, .slice va vn vc] 28))
  have j3 : Is w3 (fun b => w1.heap.size ≤ b) t (.slice va vn vc) := j2.carry t3.size (fun _ hb _ => hb) (fun b hb hlt => t3.block b hlt (fun e => by have := Option.some.inj e; omega))
  have j4 := j3.carry (touch_cell w3 g 2 (.int .i64 op)).size (P' := fun b => w1.heap.size ≤ b) (fun _ hb _ => hb) (fun b hb hlt => (touch_cell w3 g 2 (.int .i64 op)).block b hlt (fun e => by have := Option.some.inj e; omega))
  exact j4.carry (touch_set8 _ _ t _).size (fun b hb _ => by omega) (fun b hb hlt => (touch_set8 _ _ t _).block b hlt (fun e => by have := Option.some.inj e; omega))

theorem group_any (u : ByteArray) (hu : u.size ≤ 512) (d : Nat) : ∀ op, op + d = 30 → Tells 86 1 0 u op (group d) := by
  induction d with
  | zero =>
    intro op h
    obtain rfl : op = 30 := by omega
    exact group_full u hu
  | succ d ih =>
    intro op h
    exact group_step u hu d op (by omega) (alt_any u hu (op + 1) (group d) (ih (op + 1) (by omega)))

theorem reads (u : ByteArray) (hu : u.size ≤ 512) : Tells 48 0 2 u 0 (alt 30) := alt_any u hu 0 (group 30) (group_any u hu 30 0 rfl)
end Go.Proofs.YtfclidcfhadohaaDoor.st

namespace Go.Proofs.YtfclidcfhadohaaDoor.st
open Go.Sort Go.ChangeShapes Go.WideShapes Go.ChangeAt Go.RowKit
set_option linter.unusedVariables false

theorem assert_yes (x y : Int) (W : World) : (Instr.typeAssert (.iface 48 (.agg #[.int .i64 x, .int .i64 y])) 20 48 true).run Tryd.prog W = .ok (.tuple #[.agg #[.int .i64 x, .int .i64 y], .bool true]) W := by kernel_rfl
theorem assert_no (W : World) : (Instr.typeAssert .nilIface 20 48 true).run Tryd.prog W = .ok (.tuple #[.agg #[.int .i64 0, .int .i64 0], .bool false]) W := by kernel_rfl

set_option maxHeartbeats 2000000 in
set_option maxRecDepth 100000 in
theorem catch_panicking (p : Nat) (er q : Nat) (w : World) (c0 : w.cell? ⟨p, 0, none⟩ = some (.int .i64 0)) (c1 : w.cell? ⟨p, 1, none⟩ = some (.int .i64 0)) (f0 : w.frozen? ⟨p, 0, none⟩ = false) (f1 : w.frozen? ⟨p, 1, none⟩ = false) (hp : p < w.heap.size) :
    CallsD Tryd.prog 31 #[.pointer (some ⟨p, 0, none⟩)] (.panicking ({ v := .iface 48 (.agg #[.int .i64 er, .int .i64 q]), recovered := false } :: [])) w fun e u' w' =>
      e = .returned (.tuple #[]) ∧ u' = .panicking ({ v := .iface 48 (.agg #[.int .i64 er, .int .i64 q]), recovered := true } :: []) ∧ ∃ o, w' = ((w.setCell ⟨p, 0, none⟩ (.int .i64 er)).setCell ⟨p, 1, none⟩ (.int .i64 q)).alloc o := by
  have hta := assert_yes er q
  refine callsD_of_wpS Tryd.func31 rfl fun c₀ cs hu => ?_
  apply wpS_seq
  apply wpS_region
  simp [wpOpsS, go_sem, recoverD, hu, Tryd.ntmps31, Exit.thenS]
  refine wpS_of_wp ?_
  have e1 : ∀ (a b : Value), #[a] ++ ((Array.replicate 14 undef).setIfInBounds 3 b).setIfInBounds 0 b = #[a, b, undef, undef, b, undef, undef, undef, undef, undef, undef, undef, undef, undef, undef] := fun a b => rfl
  rw [e1]
  go_wp2
  simp [bodyPostS, results, Tryd.results31]
  exact ⟨_, rfl⟩

set_option maxHeartbeats 2000000 in
set_option maxRecDepth 100000 in
theorem catch_idle (p : Nat) (w : World) : CallsD Tryd.prog 31 #[.pointer (some ⟨p, 0, none⟩)] .returning w fun e u' w' => e = .returned (.tuple #[]) ∧ u' = .returning ∧ ∃ o, w' = w.alloc o := by
  have hta := assert_no
  refine callsD_of_wpS Tryd.func31 rfl fun c₀ cs hu => ?_
  apply wpS_seq
  apply wpS_region
  simp [wpOpsS, go_sem, recoverD, hu, Tryd.ntmps31, Exit.thenS]
  refine wpS_of_wp ?_
  have e1 : ∀ (a b : Value), #[a] ++ ((Array.replicate 14 undef).setIfInBounds 3 b).setIfInBounds 0 b = #[a, b, undef, undef, b, undef, undef, undef, undef, undef, undef, undef, undef, undef, undef] := fun a b => rfl
  rw [e1]
  go_wp2
  cases c₀
  simp_all [bodyPostS, results, Tryd.results31]
  exact ⟨_, rfl⟩

/-- the whole of a text, as pure reading tells -/
def WholeOk (s : ByteArray) (t : Tr) : Prop := ∀ w, Calls Tryd.prog 32 #[.string s] w fun e w' => ∃ v, e = .returned (.agg #[.int .i64 t.kind, .int .u64 t.set.a, .int .u64 t.set.b, .int .u64 t.set.c, .int .u64 t.set.d, .int .i64 t.min, .int .i64 t.max, v]) ∧ Is w' (fun b => w.heap.size ≤ b) t v ∧ RowKit.Below w.heap.size w w'
def WholeBad (s : ByteArray) (er q : Nat) : Prop := ∀ w, Calls Tryd.prog 32 #[.string s] w fun e w' => e = .panicked [{ v := .iface 48 (.agg #[.int .i64 er, .int .i64 q]), recovered := false }] ∧ RowKit.Below w.heap.size w w'

theorem whole_long (s : ByteArray) (hs : 512 < s.size) (hm : s.size ≤ 9223372036854775807) : WholeBad s 2 0 := by
  intro w
  go_enter Tryd.func32, Tryd.ntmps32
  go_wp2_with (fail)
  exact ⟨rfl, rfl, below_alloc _ _⟩

theorem rd_new (w : World) (o : Obj) (s : ByteArray) : Rd ((w.alloc o).alloc (.cells #[.string s, .int .i64 0, .int .i64 0] 75)) (w.heap.size + 1) s 0 0 := heap_alloc2_new w _ _
theorem below2 (w : World) (o o' : Obj) : RowKit.Below w.heap.size w ((w.alloc o).alloc o') := (below_alloc w o).trans ((below_alloc _ _).mono (below_alloc w o).size)

theorem whole_wrong (s : ByteArray) (hs : s.size ≤ 512) (er q : Nat) (h28 : BadT 48 s 0 0 er q) : WholeBad s er q := by
  intro w
  go_enter Tryd.func32, Tryd.ntmps32
  go_wp2_with (go_at_call 48; refine (h28 _ _ (rd_new _ _ _)).mono ?_; rintro e w1 ⟨rfl, t1⟩)
  exact ⟨rfl, rfl, below_over (below2 _ _ _) t1 (by omega)⟩

set_option maxHeartbeats 1000000 in
set_option maxRecDepth 100000 in
theorem whole_rest (s : ByteArray) (hs : s.size ≤ 512) (t : Tr) (q : Nat) (hq : q < s.size) (h28 : OkT 48 s 0 0 t q) : WholeBad s 60 q := by
  intro w
  have h29 := wrong_any q
  go_enter Tryd.func32, Tryd.ntmps32
  go_wp2_with (first | (go_at_call 48; refine (h28 _ _ (rd_new _ _ _)).mono ?_; rintro e w1 ⟨v, rfl, i1, r1, t1⟩; obtain ⟨va, vn, vc, rfl⟩ := i1.shape; have r1' := r1.later (below_alloc w1 (.cells #[.int .i64 t.kind, .int .u64 t.set.a, .int .u64 t.set.b, .int .u64 t.set.c, .int .u64 t.set.d, .int .i64 t.min, .int .i64 t.max, .slice va vn vc] 28)); have c1 := r1'.c1) | (go_at_call 49; refine (h29 _ _).mono ?_; rintro e w2 ⟨rfl, rfl⟩))
  exact ⟨rfl, rfl, (below_over (below2 _ _ _) t1 (by omega)).alloc (below_over (below2 w _ _) t1 (by omega)).size _⟩

set_option maxHeartbeats 1000000 in
set_option maxRecDepth 100000 in
theorem whole_deep (s : ByteArray) (hs : s.size ≤ 512) (t : Tr) (hd : ¬ t.depth ≤ 30) (h28 : OkT 48 s 0 0 t s.size) : WholeBad s 2 0 := by
  intro w
  have h16 := fits_any t.depth t 30 9223372036854775807 false _ (Nat.le_refl _) (by decide) (by decide) (by symm; simp; omega) rfl
  go_enter Tryd.func32, Tryd.ntmps32
  go_wp2_with (first | (go_at_call 48; refine (h28 _ _ (rd_new _ _ _)).mono ?_; rintro e w1 ⟨v, rfl, i1, r1, t1⟩; obtain ⟨va, vn, vc, rfl⟩ := i1.shape; have r1' := r1.later (below_alloc w1 (.cells #[.int .i64 t.kind, .int .u64 t.set.a, .int .u64 t.set.b, .int .u64 t.set.c, .int .u64 t.set.d, .int .i64 t.min, .int .i64 t.max, .slice va vn vc] 28)); have c1 := r1'.c1; have q1 := (box_new w1 t (.slice va vn vc)).below (below_alloc _ (.cells #[.int .i64 9223372036854775807] 3)); obtain ⟨⟨x0, x1, x2, x3, x4, x5, x6, x7⟩, _⟩ := b8 q1; have i2 := i1.fresh (below2 w1 (.cells #[.int .i64 t.kind, .int .u64 t.set.a, .int .u64 t.set.b, .int .u64 t.set.c, .int .u64 t.set.d, .int .i64 t.min, .int .i64 t.max, .slice va vn vc] 28) (.cells #[.int .i64 9223372036854775807] 3)) (w1.heap.size + 1) (by omega); have o2 : One ((w1.alloc (.cells #[.int .i64 t.kind, .int .u64 t.set.a, .int .u64 t.set.b, .int .u64 t.set.c, .int .u64 t.set.d, .int .i64 t.min, .int .i64 t.max, .slice va vn vc] 28)).alloc (.cells #[.int .i64 9223372036854775807] 3)) (w1.heap.size + 1) (9223372036854775807 : Nat) := heap_alloc2_new w1 _ _) | (go_at_call 19; refine (h16 _ _ _ i2 o2).mono ?_; rintro e w3 ⟨rfl, _, t3⟩))
  exact ⟨rfl, rfl, below_over (Below.trans (below_over (below2 w _ _) t1 (by omega)) ((below2 w1 _ _).mono (below_over (below2 w _ _) t1 (by omega)).size)) t3 (by have := (below_over (below2 w _ _) t1 (by omega)).size; omega)⟩

set_option maxHeartbeats 1000000 in
set_option maxRecDepth 100000 in
theorem whole_ok (s : ByteArray) (hs : s.size ≤ 512) (t : Tr) (hd : t.depth ≤ 30) (hn : t.nodes ≤ 9223372036854775807) (h28 : OkT 48 s 0 0 t s.size) : WholeOk s t := by
  intro w
  have h16 := fits_any t.depth t 30 9223372036854775807 true _ (Nat.le_refl _) (by decide) (by decide) (by simp [hd, hn]) rfl
  have z0 := box_new w Tr.zero (.slice none 0 0)
  go_enter Tryd.func32, Tryd.ntmps32
  go_wp2_with (first | (go_at_call 48; refine (h28 _ _ (rd_new _ _ _)).mono ?_; rintro e w1 ⟨v, rfl, i1, r1, t1⟩; obtain ⟨va, vn, vc, rfl⟩ := i1.shape; have r1' := r1.later (below_alloc w1 (.cells #[.int .i64 t.kind, .int .u64 t.set.a, .int .u64 t.set.b, .int .u64 t.set.c, .int .u64 t.set.d, .int .i64 t.min, .int .i64 t.max, .slice va vn vc] 28)); have c1 := r1'.c1; have q1 := (box_new w1 t (.slice va vn vc)).below (below_alloc _ (.cells #[.int .i64 9223372036854775807] 3)); obtain ⟨⟨x0, x1, x2, x3, x4, x5, x6, x7⟩, _⟩ := b8 q1; have i2 := i1.fresh (below2 w1 (.cells #[.int .i64 t.kind, .int .u64 t.set.a, .int .u64 t.set.b, .int .u64 t.set.c, .int .u64 t.set.d, .int .i64 t.min, .int .i64 t.max, .slice va vn vc] 28) (.cells #[.int .i64 9223372036854775807] 3)) (w1.heap.size + 1) (by omega); have o2 : One ((w1.alloc (.cells #[.int .i64 t.kind, .int .u64 t.set.a, .int .u64 t.set.b, .int .u64 t.set.c, .int .u64 t.set.d, .int .i64 t.min, .int .i64 t.max, .slice va vn vc] 28)).alloc (.cells #[.int .i64 9223372036854775807] 3)) (w1.heap.size + 1) (9223372036854775807 : Nat) := heap_alloc2_new w1 _ _) | (go_at_call 19; refine (h16 _ _ _ i2 o2).mono ?_; rintro e w3 ⟨rfl, _, t3⟩; have hw1 : w.heap.size + 1 + 1 ≤ w1.heap.size := (by have := t1.size; simpa using this); have q3 := Box.keep q1 t3 (by omega); have z3 := Box.keep ((Box.keep (z0.below (below_alloc _ _)) t1 (by omega)).below (below2 w1 _ _)) t3 (by omega); obtain ⟨⟨m0, m1, m2, m3, m4, m5, m6, m7⟩, _⟩ := b8 q3; obtain ⟨⟨d0, d1, d2, d3, d4, d5, d6, d7⟩, f0, f1, f2, f3, f4, f5, f6, f7⟩ := b8 z3))
  refine ret28 Tryd.results32 w.heap.size t (.slice va vn vc) rfl (box_set z3 t _) rfl ?_
  have hB3 := below_over (Below.trans (below_over (below2 w _ _) t1 (by omega)) ((below2 w1 _ _).mono (below_over (below2 w _ _) t1 (by omega)).size)) t3 (by omega)
  refine ⟨_, rfl, ?_, below_over hB3 (touch_set8 _ _ t _) (Nat.le_refl _)⟩
  have j1 : Is w1 (fun b => w.heap.size < b ∧ b < w1.heap.size) t (.slice va vn vc) := i1.carry (Nat.le_refl _) (fun b hb hlt => ⟨by simp at hb; omega, hlt⟩) (fun _ _ _ => rfl)
  have j3 : Is w3 (fun b => w.heap.size < b ∧ b < w1.heap.size) t (.slice va vn vc) := (j1.later (below2 w1 _ _)).carry t3.size (fun _ hb _ => hb) (fun b hb hlt => t3.block b hlt (fun e => by have := Option.some.inj e; omega))
  exact j3.carry (touch_set8 _ _ t _).size (fun b hb _ => by omega) (fun b hb hlt => (touch_set8 _ _ t _).block b hlt (fun e => by have := Option.some.inj e; omega))
end Go.Proofs.YtfclidcfhadohaaDoor.st

namespace Go.Proofs.YtfclidcfhadohaaDoor.st
open Go.Sort Go.ChangeShapes Go.WideShapes Go.ChangeAt Go.RowKit
set_option linter.unusedVariables false

def Flt (w : World) (b er q : Nat) : Prop := w.heap[b]? = some (.cells #[.int .i64 er, .int .i64 q] 48 (0, 0))
theorem results2 {fn : Func} {p r : Tmp} (h : fn.results = #[.cell p 28, .cell r 48]) (tmps : Array Value) (W : World) (g b er q : Nat) (t : Tr) (v : Value) (hp : tmps.getD p undef = .pointer (some ⟨g, 0, none⟩)) (hr : tmps.getD r undef = .pointer (some ⟨b, 0, none⟩)) (hb : Box W g t v) (hf : Flt W b er q) :
    (results fn tmps).run Tryd.prog W = .ok (.tuple #[.agg #[.int .i64 t.kind, .int .u64 t.set.a, .int .u64 t.set.b, .int .u64 t.set.c, .int .u64 t.set.d, .int .i64 t.min, .int .i64 t.max, v], .agg #[.int .i64 er, .int .i64 q]]) W := by
  have h1 := run_loadVar_row (P := Tryd.prog) W g 28 28 _ (0, 0) _ hb Tryd.underlying28 rfl (by kernel_rfl)
  have h2 := run_loadVar_row (P := Tryd.prog) W b 48 48 _ (0, 0) _ hf Tryd.underlying48 rfl (by kernel_rfl)
  have hp' : tmps[p]?.getD undef = .pointer (some ⟨g, 0, none⟩) := by simpa using hp
  have hr' : tmps[r]?.getD undef = .pointer (some ⟨b, 0, none⟩) := by simpa using hr
  simp [results, h, hp', hr', asAddr, h1, h2]

def ReadIs (s : ByteArray) (t : Tr) (er q : Nat) : Prop := ∀ w, Calls Tryd.prog 17 #[.string s] w fun e w' => ∃ v, e = .returned (.tuple #[.agg #[.int .i64 t.kind, .int .u64 t.set.a, .int .u64 t.set.b, .int .u64 t.set.c, .int .u64 t.set.d, .int .i64 t.min, .int .i64 t.max, v], .agg #[.int .i64 er, .int .i64 q]]) ∧ Is w' (fun b => w.heap.size ≤ b) t v ∧ RowKit.Below w.heap.size w w'

theorem Flt.below {w w' : World} {b er q : Nat} (h : Flt w b er q) (l : RowKit.Below w.heap.size w w') : Flt w' b er q := by
  unfold Flt; rw [l.block b (Array.getElem?_eq_some_iff.1 h).1]; exact h
theorem Flt.lt {w : World} {b er q : Nat} (h : Flt w b er q) : b < w.heap.size := (Array.getElem?_eq_some_iff.1 h).1
theorem Flt.cells {w : World} {b er q : Nat} (h : Flt w b er q) : w.cell? ⟨b, 0, none⟩ = some (.int .i64 er) ∧ w.cell? ⟨b, 1, none⟩ = some (.int .i64 q) ∧ w.frozen? ⟨b, 0, none⟩ = false ∧ w.frozen? ⟨b, 1, none⟩ = false := by
  refine ⟨?_, ?_, Lib.frozen_of_heap h 0, Lib.frozen_of_heap h 1⟩ <;> (rw [Lib.cell_of_heap h]; rfl)
theorem Flt.set {w : World} {b e0 q0 : Nat} (h : Flt w b e0 q0) (er q : Nat) : Flt ((w.setCell ⟨b, 0, none⟩ (.int .i64 er)).setCell ⟨b, 1, none⟩ (.int .i64 q)) b er q := set_heap1 _ b _ _ 1 _ (set_heap1 w b _ _ 0 _ h)

set_option maxHeartbeats 1000000 in
set_option maxRecDepth 100000 in
theorem read_bad (s : ByteArray) (er q : Nat) (h22 : WholeBad s er q) : ReadIs s Tr.zero er q := by
  intro w
  have hmf : ∀ (fn : Fn) (first cap : Array Value) (w : World), (Instr.makeFunc fn first cap).run Tryd.prog w = .ok (.func fn first cap) w := fun _ _ _ _ => rfl
  have z0 := (box_new w Tr.zero (.slice none 0 0)).below (below_alloc _ (.cells #[.int .i64 0, .int .i64 0] 48))
  have y0 : Flt ((w.alloc (.cells #[.int .i64 0, .int .u64 0, .int .u64 0, .int .u64 0, .int .u64 0, .int .i64 0, .int .i64 0, .slice none 0 0] 28)).alloc (.cells #[.int .i64 0, .int .i64 0] 48)) (w.heap.size + 1) 0 0 := heap_alloc2_new w _ _
  go_enter_defers Tryd.func17, Tryd.ntmps17
  go_wp2_with (go_at_call 32; refine (h22 _).mono ?_; rintro e w1 ⟨rfl, b1⟩)
  have z1 := z0.below b1
  have y1 := y0.below b1
  have hB1 : RowKit.Below w.heap.size w w1 := (below2 w _ _).trans (b1.mono (below2 w _ _).size)
  obtain ⟨c0, c1, f0, f1⟩ := y1.cells
  refine leaves_cons (f := 31) (args := #[.pointer (some ⟨w.heap.size + 1, 0, none⟩)]) (by simp) (by simp [go_sem]) ?_
  refine (catch_panicking (w.heap.size + 1) er q w1 c0 c1 f0 f1 y1.lt).mono ?_
  rintro e u' w'' ⟨rfl, rfl, o, rfl⟩
  have t2 : w1.grownBy ((w1.setCell ⟨w.heap.size + 1, 0, none⟩ (.int .i64 er)).setCell ⟨w.heap.size + 1, 1, none⟩ (.int .i64 q)) (some (w.heap.size + 1)) := touch_trans (touch_cell _ _ _ _) (touch_cell _ _ _ _)
  have z2 := (Box.keep z1 t2 (by omega)).below (below_alloc _ o)
  have y2 := (y1.set er q).below (below_alloc _ o)
  exact ⟨_, results2 Tryd.results17 _ _ w.heap.size (w.heap.size + 1) er q Tr.zero (.slice none 0 0) rfl rfl z2 y2, _, rfl, .leaf _ _ _ _ _ _, (below_over hB1 t2 (by omega)).alloc (below_over hB1 t2 (by omega)).size _⟩

set_option maxHeartbeats 1000000 in
set_option maxRecDepth 100000 in
theorem read_ok (s : ByteArray) (t : Tr) (h22 : WholeOk s t) : ReadIs s t 0 0 := by
  intro w
  have hmf : ∀ (fn : Fn) (first cap : Array Value) (w : World), (Instr.makeFunc fn first cap).run Tryd.prog w = .ok (.func fn first cap) w := fun _ _ _ _ => rfl
  have z0 := (box_new w Tr.zero (.slice none 0 0)).below (below_alloc _ (.cells #[.int .i64 0, .int .i64 0] 48))
  have y0 : Flt ((w.alloc (.cells #[.int .i64 0, .int .u64 0, .int .u64 0, .int .u64 0, .int .u64 0, .int .i64 0, .int .i64 0, .slice none 0 0] 28)).alloc (.cells #[.int .i64 0, .int .i64 0] 48)) (w.heap.size + 1) 0 0 := heap_alloc2_new w _ _
  go_enter_defers Tryd.func17, Tryd.ntmps17
  go_wp2_with (go_at_call 32; refine (h22 _).mono ?_; rintro e w1 ⟨v, rfl, i1, b1⟩; obtain ⟨va, vn, vc, rfl⟩ := i1.shape; have z1 := z0.below b1; have y1 := y0.below b1; have t1 := touch_set8 w1 w.heap.size t (.slice va vn vc); have y2 : Flt _ (w.heap.size + 1) 0 0 := (show Flt _ _ _ _ from (by unfold Flt; rw [t1.block _ y1.lt (fun e => by have := Option.some.inj e; omega)]; exact y1)); obtain ⟨⟨d0, d1, d2, d3, d4, d5, d6, d7⟩, f0, f1, f2, f3, f4, f5, f6, f7⟩ := b8 z1; obtain ⟨c0, c1, g0, g1⟩ := y2.cells)
  have hB1 : RowKit.Below w.heap.size w w1 := (below2 w _ _).trans (b1.mono (below2 w _ _).size)
  have hsz : w.heap.size + 1 + 1 ≤ w1.heap.size := by have := b1.size; simpa using this
  refine leaves_cons (f := 31) (args := #[.pointer (some ⟨w.heap.size + 1, 0, none⟩)]) (by simp) (by simp [go_sem]) ?_
  refine (catch_idle (w.heap.size + 1) _).mono ?_
  rintro e u' w'' ⟨rfl, rfl, o, rfl⟩
  have t2 := touch_trans (touch_cell ((((((((w1.setCell ⟨w.heap.size, 0, none⟩ (.int .i64 t.kind)).setCell ⟨w.heap.size, 1, none⟩ (.int .u64 t.set.a)).setCell ⟨w.heap.size, 2, none⟩ (.int .u64 t.set.b)).setCell ⟨w.heap.size, 3, none⟩ (.int .u64 t.set.c)).setCell ⟨w.heap.size, 4, none⟩ (.int .u64 t.set.d)).setCell ⟨w.heap.size, 5, none⟩ (.int .i64 t.min)).setCell ⟨w.heap.size, 6, none⟩ (.int .i64 t.max)).setCell ⟨w.heap.size, 7, none⟩ (.slice va vn vc)) (w.heap.size + 1) 0 (.int .i64 0)) (touch_cell _ (w.heap.size + 1) 1 (.int .i64 0))
  have z3 := (Box.keep (box_set z1 t (.slice va vn vc)) t2 (by omega)).below (below_alloc _ o)
  have y3 := (y2.set 0 0).below (below_alloc _ o)
  have hB2 := below_over hB1 t1 (Nat.le_refl _)
  have hB3 := below_over hB2 t2 (by omega)
  have i2 : Is w1 (fun b => w.heap.size + 1 < b) t (.slice va vn vc) := i1.weaken (fun b hb => by simp at hb; omega)
  have i3 := i2.carry t1.size (P' := fun b => w.heap.size + 1 < b) (fun _ hb _ => hb) (fun b hb hlt => t1.block b hlt (fun e => by have := Option.some.inj e; omega))
  have i4 := i3.carry t2.size (P' := fun b => w.heap.size ≤ b) (fun b hb _ => by omega) (fun b hb hlt => t2.block b hlt (fun e => by have := Option.some.inj e; omega))
  exact ⟨_, results2 Tryd.results17 _ _ w.heap.size (w.heap.size + 1) 0 0 t (.slice va vn vc) rfl rfl z3 y3, _, rfl, i4.later (below_alloc _ o), hB3.alloc hB3.size _⟩

/-- what the program reads of any text -/
theorem read_any (s : ByteArray) (hs : s.size ≤ 9223372036854775807) : ReadIs s (parse (codes s)).1 (parse (codes s)).2.1 (parse (codes s)).2.2 := by
  unfold parse
  rw [codes_length]
  by_cases hl : 512 < s.size
  · rw [if_pos hl]; exact read_bad s 2 0 (whole_long s hl hs)
  rw [if_neg hl]
  have hs2 : s.size ≤ 512 := by omega
  rw [← suf_zero]
  rcases reads s hs2 0 (Nat.zero_le _) with ⟨t, p, h1, h2, h3, h4, h28⟩ | ⟨e, q, h2, h3, h28⟩
  · rw [h3]
    simp only [suf_length]
    by_cases hp : p < s.size
    · have hne : suf s p ≠ [] := by rw [suf_in s p hp]; simp
      rw [if_pos hne, show s.size - (s.size - p) = p by omega]
      exact read_bad s 60 p (whole_rest s hs2 t p hp h28)
    · obtain rfl : p = s.size := by omega
      rw [if_neg (by rw [suf_out s s.size (Nat.le_refl _)]; simp)]
      by_cases hd : t.depth ≤ 30
      · rw [if_pos hd]; exact read_ok s t (whole_ok s hs2 t hd (by omega) h28)
      · rw [if_neg hd]; exact read_bad s 2 0 (whole_deep s hs2 t hd h28)
  · rw [h3]
    simp only [suf_length]
    rw [show s.size - (s.size - q) = q by omega]
    exact read_bad s e q (whole_wrong s hs2 e q h28)
end Go.Proofs.YtfclidcfhadohaaDoor.st

namespace Go.Proofs.YtfclidcfhadohaaDoor.st
open Go.Sort Go.ChangeShapes Go.WideShapes Go.ChangeAt Go.RowKit
set_option linter.unusedVariables false

def ParseIs (s : ByteArray) (t : Tr) (er q : Nat) : Prop := ∀ w, Calls Tryd.prog 8 #[.string s] w fun e w' => ∃ v, e = .returned (.tuple #[.agg #[.int .i64 t.kind, .int .u64 t.set.a, .int .u64 t.set.b, .int .u64 t.set.c, .int .u64 t.set.d, .int .i64 t.min, .int .i64 t.max, v], .int .i64 er, .int .i64 q]) ∧ Is w' (fun b => w.heap.size ≤ b) t v ∧ RowKit.Below w.heap.size w w'
theorem ret28c {fn : Func} {p r k : Tmp} (h : fn.results = #[.cell p 28, .tmp r, .tmp k]) {a : Act} {W : World} {R : Ending → World → Prop} (g : Nat) (t : Tr) (v : Value) (hp : a.tmps.getD p undef = .pointer (some ⟨g, 0, none⟩)) (hb : Box W g t v) (hd : a.defers = [])
    (hR : R (.returned (.tuple #[.agg #[.int .i64 t.kind, .int .u64 t.set.a, .int .u64 t.set.b, .int .u64 t.set.c, .int .u64 t.set.d, .int .i64 t.min, .int .i64 t.max, v], a.tmps.getD r undef, a.tmps.getD k undef])) W) : bodyPost Tryd.prog fn R .ret a W := by
  refine bodyPost_ret ?_ hd hR
  have h1 := run_loadVar_row (P := Tryd.prog) W g 28 28 _ (0, 0) _ hb Tryd.underlying28 rfl (by kernel_rfl)
  have hp' : a.tmps[p]?.getD undef = .pointer (some ⟨g, 0, none⟩) := by simpa using hp
  simp [results, h, hp', asAddr, h1]

theorem Box.drew {w : World} {g : Nat} {t : Tr} {v : Value} (h : Box w g t v) : Box w.drew g t v := h

set_option maxHeartbeats 1000000 in
set_option maxRecDepth 100000 in
theorem parse_of (s : ByteArray) (t : Tr) (er q : Nat) (h12 : ReadIs s t er q) : ParseIs s t er q := by
  intro w
  have z0 := box_new w Tr.zero (.slice none 0 0)
  go_enter Tryd.func8, Tryd.ntmps8
  go_wp2_with (go_at_call 17; refine (h12 _).mono ?_; rintro e w1 ⟨v, rfl, i1, b1⟩; obtain ⟨va, vn, vc, rfl⟩ := i1.shape)
  obtain ⟨W, hW⟩ : ∃ W, W = (w1.alloc (.cells #[.int .i64 t.kind, .int .u64 t.set.a, .int .u64 t.set.b, .int .u64 t.set.c, .int .u64 t.set.d, .int .i64 t.min, .int .i64 t.max, .slice va vn vc] 28)).alloc (.cells #[.int .i64 er, .int .i64 q] 48) := ⟨_, rfl⟩
  have z1 : Box W w.heap.size Tr.zero (.slice none 0 0) := by rw [hW]; exact (z0.below b1).below (below2 w1 _ _)
  have q1 : Box W w1.heap.size t (.slice va vn vc) := by rw [hW]; exact (box_new w1 t _).below (below_alloc _ _)
  have y1 : Flt W (w1.heap.size + 1) er q := by rw [hW]; exact heap_alloc2_new w1 _ _
  have hB1 : RowKit.Below w.heap.size w w1 := (below_alloc w _).trans (b1.mono (below_alloc w _).size)
  have hB : RowKit.Below w.heap.size w W := by rw [hW]; exact hB1.trans ((below2 w1 _ _).mono hB1.size)
  have hsz : w.heap.size + 1 ≤ w1.heap.size := by have := b1.size; simpa using this
  have i2 : Is W (fun b => w.heap.size < b) t (.slice va vn vc) := by rw [hW]; exact (i1.weaken (P' := fun b => w.heap.size < b) (fun b hb => by simp at hb; omega)).later (below2 w1 _ _)
  rw [← hW]
  clear hW
  generalize w1.heap.size = b5 at *
  obtain ⟨⟨c0, c1, c2, c3, c4, c5, c6, c7⟩, _⟩ := b8 q1
  obtain ⟨e0, e1, _, _⟩ := y1.cells
  obtain ⟨⟨d0, d1, d2, d3, d4, d5, d6, d7⟩, f0, f1, f2, f3, f4, f5, f6, f7⟩ := b8 z1
  go_region
  go_wp2_with (fail)
  refine ret28c Tryd.results8 w.heap.size t (.slice va vn vc) rfl (Box.drew (box_set z1 t (.slice va vn vc))) rfl ?_
  have T := touch_drew (touch_set8 W w.heap.size t (.slice va vn vc))
  exact ⟨_, rfl, i2.carry T.size (fun b hb _ => by omega) (fun b hb hlt => T.block b hlt (fun e => by have := Option.some.inj e; omega)), below_over hB T (Nat.le_refl _)⟩

theorem parse_any (s : ByteArray) (hs : s.size ≤ 9223372036854775807) : ParseIs s (parse (codes s)).1 (parse (codes s)).2.1 (parse (codes s)).2.2 := parse_of s _ _ _ (read_any s hs)
end Go.Proofs.YtfclidcfhadohaaDoor.st
