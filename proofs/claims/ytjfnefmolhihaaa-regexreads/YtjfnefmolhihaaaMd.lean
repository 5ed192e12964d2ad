/-
  Contracts over this program: an expression with all that lies within, the document's Parse, and Like.
-/
import Derived.Test.YtjfnefmolhihaaaMc
import Derived.Test.YtjfnefmolhihaaaMa
import Derived.Test.YtjfnefmolhihaaaDp
import Derived.Test.YtjfnefmolhihaaaRk
import Derived.Test.YtjfnefmolhihaaaRq
namespace Go.Proofs.Ytjfnefmolhihaaa.st
open Go.Sort Go.ChangeShapes Go.WideShapes Go.ChangeAt Go.RowKit
set_option linter.unusedVariables false

set_option maxHeartbeats 2000000 in
set_option maxRecDepth 100000 in
theorem item_bad (u : ByteArray) (i o a er q : Nat) (hq : q ≤ u.size) (h38 : BadP 1 38 u i o a er q) :
    ∀ g w, Pb w g u i o 0 a → Calls Try.prog 31 #[.pointer (some ⟨g, 0, none⟩)] w (OutP 1 (.bad er (suf u q)) u g o a i w) := by
  intro g w h
  have hg := h.lt
  have h0 := fun o => h.later (below_alloc w o)
  have z0 := box_new w Tr.zero (.slice none 0 0)
  unfold BadP at h38
  go_enter Try.func31, Try.ntmps31
  go_wp2_with (first | (go_at_call 38; refine (h38 _ _ (h0 _)).mono ?_; rintro e w1 ⟨T, v, j0, rfl, i1, h1, t1, y1, y2, y3, y4⟩; obtain ⟨va, vn, vc, rfl⟩ := i1.shape))
  have z1 := Box.keep z0 t1 (by omega)
  obtain ⟨N, hNe⟩ : ∃ N, N = w1.heap.size := ⟨_, rfl⟩
  have hN : w.heap.size < N := by rw [hNe]; exact z1.lt
  have hsz : w.heap.size + 1 ≤ w1.heap.size := z1.lt
  obtain ⟨X, hX⟩ : ∃ X, X = w1.alloc (.cells #[.int .i64 T.kind, .int .u64 T.set.a, .int .u64 T.set.b, .int .u64 T.set.c, .int .u64 T.set.d, .int .i64 T.min, .int .i64 T.max, .slice va vn vc] 28) := ⟨_, rfl⟩
  have ist0 : Ist w X u g j0 o er q N T va vn vc := by
    rw [hX, hNe]
    refine ⟨h1.later (below_alloc _ _), box_new w1 T _, z1.below (below_alloc _ _), ?_, touch_trans (touch_trans (touch_alloc (touch_refl _ _) _) t1) (touch_below _ (below_alloc _ _))⟩
    exact (i1.carry (Nat.le_refl _) (P' := fun b => w.heap.size < b ∧ b ≠ w1.heap.size) (fun b hb hlt => by simp at hb; exact ⟨by omega, by omega⟩) (fun _ _ _ => rfl)).later (below_alloc _ _)
  rw [← hX, ← hNe]
  clear hX hNe z1 h1 t1 z0 h0 h38 h i1 hsz
  have hne : ((er : Int) == 0) = false := by rw [beq_eq_false_iff_ne]; omega
  go_loopw [4, 5] (fun _ _ wr => Ist w wr u g j0 o er q N T va vn vc) (fun _ _ wr => 0)
  case atStart => exact ist0
  case round =>
    have ist := hrel
    have c3 := ist.pb.c3
    obtain ⟨⟨c0, c1, c2, c3_, c4, c5, c6, c7⟩, _⟩ := b8 ist.box
    obtain ⟨⟨d0, d1, d2, d3, d4, d5, d6, d7⟩, f0, f1, f2, f3, f4, f5, f6, f7⟩ := b8 ist.zero
    clear ist0
    go_wp2_with (fail)
    refine ret28 Try.results31 w.heap.size T _ rfl (box_set ist.zero T _) rfl ?_
    exact .inr ⟨er, q, T, j0, _, rfl, hq, rfl, ist.is.carry (touch_set8 _ _ T _).size (fun b hb _ => by omega) (fun b hb hlt => (touch_set8 _ _ T _).block b hlt (fun e => by have := Option.some.inj e; omega)), ist.pb.other (touch_set8 _ _ T _) (by omega), touch_over ist.t (touch_set8 _ _ T _) (Nat.le_refl _), y1, y2, y3, y4⟩

theorem pure_of {lo room p c : Nat} {r : R Tr} {u : ByteArray} (hlo : p ≤ lo) (hc : room ≤ c) (h : Pure lo room p r u) : (∃ t i', p ≤ i' ∧ i' ≤ u.size ∧ r = .ok t (suf u i') ∧ t.nodes ≤ 2 * (i' - p) + c) ∨ (∃ er q, q ≤ u.size ∧ r = .bad er (suf u q)) := by
  rcases h with ⟨t, p', h1, h2, h3, h4⟩ | ⟨e, q, h1, h2⟩
  · exact .inl ⟨t, p', by omega, h2, h3, by omega⟩
  · exact .inr ⟨e, q, h1, h2⟩
theorem tells_pure {f lo room : Nat} {u : ByteArray} {op : Nat} {rd : List Nat → R Tr} (h : Tells f lo room u op rd) (p : Nat) (hp : p ≤ u.size) : Pure (p + lo) room p (rd (suf u p)) u := by
  rcases h p hp with ⟨t, p', h1, h2, h3, h4, _⟩ | ⟨e, q, h1, h2, _⟩
  · exact .inl ⟨t, p', h1, h2, h3, h4⟩
  · exact .inr ⟨e, q, h1, h2⟩
theorem pure_nodes {lo room p : Nat} {r : R Tr} {u : ByteArray} (h : Pure lo room p r u) {T : Tr} {j' : Nat} (hj : j' ≤ u.size) (hr : r = .ok T (suf u j')) : T.nodes ≤ 2 * (j' - p) + room := by
  rcases h with ⟨t, p', h1, h2, h3, h4⟩ | ⟨e, q, h1, h2⟩
  · rw [hr] at h3
    injection h3 with k1 k2
    have := suf_inj u _ _ hj h2 k2
    subst this
    subst k1
    exact h4
  · rw [hr] at h2; cases h2

theorem alt_of (u : ByteArray) (hu : u.size ≤ 512) (a d o : Nat) (hod : o + d = 30) (hal : ∀ e, d = e + 1 → ∀ j, j ≤ u.size → TellP 13 3 u j (o + 1) a (altOf (group e) (suf u j))) : ∀ i, i ≤ u.size → TellP 13 3 u i o a (altOf (group d) (suf u i)) := by
  have hg := group_any u hu d o hod
  have hI : ∀ j, j ≤ u.size → TellP 31 1 u j o a (item (group d) (suf u j)) := by
    intro j hj
    refine tellP_of (pure_of (by omega) (by omega) (item_pure u hu o (group d) hg j hj)) ?_
    intro g w h
    unfold item
    rcases atom_tell u hu j o a d hj hod hal with ⟨T, j0, k1, k2, k3, k4, k5⟩ | ⟨er, q, k2, k3, k5⟩
    · rw [k3]
      exact item_out u hu j j0 o a T k1 k2 k4 k5 _ (by simp only [R.then, suf_length]) g w h
    · rw [k3]
      exact item_bad u j o a er q k2 k5 g w h
  have hC : ∀ j, j ≤ u.size → TellP 23 2 u j o a (cat (group d) (suf u j)) := fun j hj =>
    tellP_of (pure_of (by omega) (by omega) (tells_pure (cat_any u hu o (group d) hg) j hj))
      (cat_out u hu j o a (group d) hj (item_eats (group_both d).2) (fun j T j' h1 h2 h3 => by have := pure_nodes (item_pure u hu o (group d) hg j h1) h2 h3; omega) hI _ rfl)
  exact fun i hi => tellP_of (pure_of (by omega) (by omega) (alt_pure u hu o (group d) hg i hi))
    (alt_out u hu i o a (group d) hi (fun j T j' h1 h2 h3 => pure_nodes (tells_pure (cat_any u hu o (group d) hg) j h1) h2 h3) hC _ rfl)

theorem alt_tell (u : ByteArray) (hu : u.size ≤ 512) (a d : Nat) : ∀ o, o + d = 30 → ∀ i, i ≤ u.size → TellP 13 3 u i o a (altOf (group d) (suf u i)) := by
  induction d with
  | zero =>
    intro o hod
    exact alt_of u hu a 0 o hod (fun e he => by omega)
  | succ d ih =>
    intro o hod
    exact alt_of u hu a (d + 1) o hod (fun e he j hj => by
      obtain rfl : e = d := by omega
      exact ih (o + 1) (by omega) j hj)
end Go.Proofs.Ytjfnefmolhihaaa.st

namespace Go.Proofs.Ytjfnefmolhihaaa.st
open Go.Sort Go.ChangeShapes Go.WideShapes Go.ChangeAt Go.RowKit
set_option linter.unusedVariables false

def RParseIs (s : ByteArray) (t : Tr) (er q : Nat) : Prop := ∀ w, Calls Try.prog 7 #[.string s] w fun e w' => ∃ v, e = .returned (.tuple #[treeV t v, .int .i64 er, .int .i64 q]) ∧ Is w' (fun b => w.heap.size ≤ b) t v ∧ RowKit.Below w.heap.size w w'

structure Pst (w V : World) (s : ByteArray) (j b a : Nat) : Prop where
  pb : Pb V (w.heap.size + 1) s j 0 b a
  zero : Box V w.heap.size Tr.zero (.slice none 0 0)
  bel : RowKit.Below w.heap.size w V
theorem Pst.call {w V V' : World} {s : ByteArray} {j b a j' b' a' : Nat} (h : Pst w V s j b a) (pb : Pb V' (w.heap.size + 1) s j' 0 b' a') (t : V.grownBy V' (some (w.heap.size + 1))) : Pst w V' s j' b' a' :=
  ⟨pb, Box.keep h.zero t (by omega), below_over h.bel t (by omega)⟩
theorem Pst.later {w V V' : World} {s : ByteArray} {j b a : Nat} (h : Pst w V s j b a) (t : RowKit.Below V.heap.size V V') : Pst w V' s j b a := ⟨h.pb.later t, h.zero.below t, h.bel.trans (t.mono h.bel.size)⟩

set_option maxHeartbeats 1000000 in
set_option maxRecDepth 100000 in
theorem rparse_long (s : ByteArray) (hs : 512 < s.size) (hs2 : s.size ≤ 9223372036854775807) : RParseIs s Tr.zero 2 0 := by
  intro w
  have hl : decide (512 < s.size) = true := by simpa using hs
  have z0 := box_new w Tr.zero (.slice none 0 0)
  go_enter Try.func7, Try.ntmps7
  go_wp2_with (fail)
  refine ret28c Try.results7 w.heap.size Tr.zero (.slice none 0 0) rfl z0 rfl ?_
  exact ⟨_, rfl, .leaf _ _ _ _ _ _, below_alloc _ _⟩

set_option maxHeartbeats 2000000 in
set_option maxRecDepth 100000 in
theorem rparse_bad (s : ByteArray) (hs : s.size ≤ 512) (er q : Nat) (al : BadP 3 13 s 0 0 0 er q) : RParseIs s Tr.zero er q := by
  intro w
  have hl : decide (512 < s.size) = false := by simpa using hs
  have pst : Pst w ((w.alloc (.cells #[.int .i64 0, .int .u64 0, .int .u64 0, .int .u64 0, .int .u64 0, .int .i64 0, .int .i64 0, .slice none 0 0] 28)).alloc (.cells #[.string s, .int .i64 0, .int .i64 0, .int .i64 0, .int .i64 0] 44)) s 0 0 0 := ⟨heap_alloc2_new w _ _, (box_new w Tr.zero (.slice none 0 0)).below (below_alloc _ _), (below_alloc w _).trans ((below_alloc _ _).mono (below_alloc w _).size)⟩
  go_enter Try.func7, Try.ntmps7
  unfold BadP at al
  go_wp2_with (first | (go_at_call 13; (with_reducible refine (al _ _ pst.pb).mono ?_); rintro e w1 ⟨T, v, j, rfl, i1, h1, t1, z1, z2, z3, z4⟩; have hsz := pst.bel.size; have hlt0 := pst.zero.lt; obtain ⟨va, vn, vc, rfl⟩ := i1.shape; replace pst := (pst.call h1 t1).later (below_alloc w1 (.cells #[.int .i64 T.kind, .int .u64 T.set.a, .int .u64 T.set.b, .int .u64 T.set.c, .int .u64 T.set.d, .int .i64 T.min, .int .i64 T.max, .slice va vn vc] 28)); have bx := box_new w1 T (.slice va vn vc); replace i1 := i1.later (below_alloc w1 (.cells #[.int .i64 T.kind, .int .u64 T.set.a, .int .u64 T.set.b, .int .u64 T.set.c, .int .u64 T.set.d, .int .i64 T.min, .int .i64 T.max, .slice va vn vc] 28)); clear h1 t1; have c1 := pst.pb.c1; have c3 := pst.pb.c3; have c4 := pst.pb.c4; obtain ⟨⟨d0, d1, d2, d3, d4, d5, d6, d7⟩, f0, f1, f2, f3, f4, f5, f6, f7⟩ := b8 pst.zero; have e0 : ((er : Int) == 0) = false := by rw [beq_eq_false_iff_ne]; omega))
  go_region
  go_wp2_with (fail)
  refine ret28c Try.results7 w.heap.size Tr.zero (.slice none 0 0) rfl (Box.drew (box_set pst.zero Tr.zero (.slice none 0 0))) rfl ?_
  exact ⟨_, rfl, .leaf _ _ _ _ _ _, below_over pst.bel (touch_drew (touch_set8 _ w.heap.size Tr.zero (.slice none 0 0))) (Nat.le_refl _)⟩

set_option maxHeartbeats 2000000 in
set_option maxRecDepth 100000 in
theorem rparse_rest (s : ByteArray) (hs : s.size ≤ 512) (T : Tr) (j : Nat) (hj : j < s.size) (al : OkP 13 s 0 0 0 T j) : RParseIs s Tr.zero 60 j := by
  intro w
  have hl : decide (512 < s.size) = false := by simpa using hs
  have pst : Pst w ((w.alloc (.cells #[.int .i64 0, .int .u64 0, .int .u64 0, .int .u64 0, .int .u64 0, .int .i64 0, .int .i64 0, .slice none 0 0] 28)).alloc (.cells #[.string s, .int .i64 0, .int .i64 0, .int .i64 0, .int .i64 0] 44)) s 0 0 0 := ⟨heap_alloc2_new w _ _, (box_new w Tr.zero (.slice none 0 0)).below (below_alloc _ _), (below_alloc w _).trans ((below_alloc _ _).mono (below_alloc w _).size)⟩
  go_enter Try.func7, Try.ntmps7
  have s0 : Mv 14 [.int .i64 60, .int .i64 j] s j 0 0 0 (.tuple #[]) j 60 j := stop_first s j 0 0 60 j
  have hjl : decide (j < s.size) = true := by simpa using hj
  unfold OkP at al
  unfold Mv at s0
  go_wp2_with (first | (go_at_call 13; (with_reducible refine (al _ _ pst.pb).mono ?_); rintro e w1 ⟨v, rfl, i1, h1, t1⟩; have hsz := pst.bel.size; have hlt0 := pst.zero.lt; obtain ⟨va, vn, vc, rfl⟩ := i1.shape; replace pst := (pst.call h1 t1).later (below_alloc w1 (.cells #[.int .i64 T.kind, .int .u64 T.set.a, .int .u64 T.set.b, .int .u64 T.set.c, .int .u64 T.set.d, .int .i64 T.min, .int .i64 T.max, .slice va vn vc] 28)); have bx := box_new w1 T (.slice va vn vc); replace i1 := i1.later (below_alloc w1 (.cells #[.int .i64 T.kind, .int .u64 T.set.a, .int .u64 T.set.b, .int .u64 T.set.c, .int .u64 T.set.d, .int .i64 T.min, .int .i64 T.max, .slice va vn vc] 28)); clear h1 t1; have c1 := pst.pb.c1; have c3 := pst.pb.c3; have c4 := pst.pb.c4; obtain ⟨⟨d0, d1, d2, d3, d4, d5, d6, d7⟩, f0, f1, f2, f3, f4, f5, f6, f7⟩ := b8 pst.zero) | (go_at_call 14; (with_reducible refine (s0 _ _ pst.pb).mono ?_); rintro e w2 ⟨rfl, h2, t2⟩; replace pst := pst.call h2 t2; clear h2 t2; have c3 := pst.pb.c3; have c4 := pst.pb.c4; obtain ⟨⟨d0, d1, d2, d3, d4, d5, d6, d7⟩, f0, f1, f2, f3, f4, f5, f6, f7⟩ := b8 pst.zero))
  go_region
  go_wp2_with (fail)
  refine ret28c Try.results7 w.heap.size Tr.zero (.slice none 0 0) rfl (Box.drew (box_set pst.zero Tr.zero (.slice none 0 0))) rfl ?_
  exact ⟨_, rfl, .leaf _ _ _ _ _ _, below_over pst.bel (touch_drew (touch_set8 _ w.heap.size Tr.zero (.slice none 0 0))) (Nat.le_refl _)⟩

set_option maxHeartbeats 2000000 in
set_option maxRecDepth 100000 in
theorem rparse_deep (s : ByteArray) (hs : s.size ≤ 512) (T : Tr) (hd_ : 30 < T.depth) (al : OkP 13 s 0 0 0 T s.size) : RParseIs s Tr.zero 2 0 := by
  intro w
  have hl : decide (512 < s.size) = false := by simpa using hs
  have pst : Pst w ((w.alloc (.cells #[.int .i64 0, .int .u64 0, .int .u64 0, .int .u64 0, .int .u64 0, .int .i64 0, .int .i64 0, .slice none 0 0] 28)).alloc (.cells #[.string s, .int .i64 0, .int .i64 0, .int .i64 0, .int .i64 0] 44)) s 0 0 0 := ⟨heap_alloc2_new w _ _, (box_new w Tr.zero (.slice none 0 0)).below (below_alloc _ _), (below_alloc w _).trans ((below_alloc _ _).mono (below_alloc w _).size)⟩
  go_enter Try.func7, Try.ntmps7
  have dp : UpIs 15 T 31 31 := deep_any T.depth T 31 31 (Nat.le_refl _) (by decide) (by decide) (by omega)
  unfold OkP at al
  unfold UpIs at dp
  go_wp2_with (first | (go_at_call 13; (with_reducible refine (al _ _ pst.pb).mono ?_); rintro e w1 ⟨v, rfl, i1, h1, t1⟩; have hsz := pst.bel.size; have hlt0 := pst.zero.lt; obtain ⟨va, vn, vc, rfl⟩ := i1.shape; replace pst := (pst.call h1 t1).later (below_alloc w1 (.cells #[.int .i64 T.kind, .int .u64 T.set.a, .int .u64 T.set.b, .int .u64 T.set.c, .int .u64 T.set.d, .int .i64 T.min, .int .i64 T.max, .slice va vn vc] 28)); have bx := box_new w1 T (.slice va vn vc); replace i1 := i1.later (below_alloc w1 (.cells #[.int .i64 T.kind, .int .u64 T.set.a, .int .u64 T.set.b, .int .u64 T.set.c, .int .u64 T.set.d, .int .i64 T.min, .int .i64 T.max, .slice va vn vc] 28)); clear h1 t1; have c1 := pst.pb.c1; have c3 := pst.pb.c3; have c4 := pst.pb.c4; obtain ⟨⟨d0, d1, d2, d3, d4, d5, d6, d7⟩, f0, f1, f2, f3, f4, f5, f6, f7⟩ := b8 pst.zero; obtain ⟨⟨x0, x1, x2, x3, x4, x5, x6, x7⟩, _⟩ := b8 bx) | (go_at_call 15; refine (dp _ _ _ i1).mono ?_; rintro e w3 ⟨rfl, b3⟩; replace pst := pst.later b3; replace bx := bx.below b3; replace i1 := i1.later b3; obtain ⟨⟨x0, x1, x2, x3, x4, x5, x6, x7⟩, _⟩ := b8 bx; obtain ⟨⟨d0, d1, d2, d3, d4, d5, d6, d7⟩, f0, f1, f2, f3, f4, f5, f6, f7⟩ := b8 pst.zero))
  refine ret28c Try.results7 w.heap.size Tr.zero (.slice none 0 0) rfl (box_set pst.zero Tr.zero (.slice none 0 0)) rfl ?_
  exact ⟨_, rfl, .leaf _ _ _ _ _ _, below_over pst.bel (touch_set8 _ w.heap.size Tr.zero (.slice none 0 0)) (Nat.le_refl _)⟩

set_option maxHeartbeats 2000000 in
set_option maxRecDepth 100000 in
theorem rparse_ok (s : ByteArray) (hs : s.size ≤ 512) (T : Tr) (hd_ : T.depth ≤ 30) (al : OkP 13 s 0 0 0 T s.size) : RParseIs s T 0 0 := by
  intro w
  have hl : decide (512 < s.size) = false := by simpa using hs
  have pst : Pst w ((w.alloc (.cells #[.int .i64 0, .int .u64 0, .int .u64 0, .int .u64 0, .int .u64 0, .int .i64 0, .int .i64 0, .slice none 0 0] 28)).alloc (.cells #[.string s, .int .i64 0, .int .i64 0, .int .i64 0, .int .i64 0] 44)) s 0 0 0 := ⟨heap_alloc2_new w _ _, (box_new w Tr.zero (.slice none 0 0)).below (below_alloc _ _), (below_alloc w _).trans ((below_alloc _ _).mono (below_alloc w _).size)⟩
  go_enter Try.func7, Try.ntmps7
  obtain ⟨D, hD⟩ : ∃ D, D = T.depth := ⟨_, rfl⟩
  have dp : UpIs 15 T 31 D := deep_any T.depth T 31 D (Nat.le_refl _) (by decide) (by decide) (by omega)
  have hD30 : ¬ 30 < D := by omega
  clear hD hd_
  unfold OkP at al
  unfold UpIs at dp
  go_wp2_with (first | (go_at_call 13; (with_reducible refine (al _ _ pst.pb).mono ?_); rintro e w1 ⟨v, rfl, i1, h1, t1⟩; have hsz := pst.bel.size; have hlt0 := pst.zero.lt; obtain ⟨va, vn, vc, rfl⟩ := i1.shape; replace pst := (pst.call h1 t1).later (below_alloc w1 (.cells #[.int .i64 T.kind, .int .u64 T.set.a, .int .u64 T.set.b, .int .u64 T.set.c, .int .u64 T.set.d, .int .i64 T.min, .int .i64 T.max, .slice va vn vc] 28)); have bx := box_new w1 T (.slice va vn vc); replace i1 := i1.later (below_alloc w1 (.cells #[.int .i64 T.kind, .int .u64 T.set.a, .int .u64 T.set.b, .int .u64 T.set.c, .int .u64 T.set.d, .int .i64 T.min, .int .i64 T.max, .slice va vn vc] 28)); clear h1 t1; have c1 := pst.pb.c1; have c3 := pst.pb.c3; have c4 := pst.pb.c4; obtain ⟨⟨d0, d1, d2, d3, d4, d5, d6, d7⟩, f0, f1, f2, f3, f4, f5, f6, f7⟩ := b8 pst.zero; obtain ⟨⟨x0, x1, x2, x3, x4, x5, x6, x7⟩, _⟩ := b8 bx) | (go_at_call 15; refine (dp _ _ _ i1).mono ?_; rintro e w3 ⟨rfl, b3⟩; replace pst := pst.later b3; replace bx := bx.below b3; replace i1 := i1.later b3; obtain ⟨⟨x0, x1, x2, x3, x4, x5, x6, x7⟩, _⟩ := b8 bx; obtain ⟨⟨d0, d1, d2, d3, d4, d5, d6, d7⟩, f0, f1, f2, f3, f4, f5, f6, f7⟩ := b8 pst.zero))
  refine ret28c Try.results7 w.heap.size T (.slice va vn vc) rfl (box_set pst.zero T (.slice va vn vc)) rfl ?_
  have T8 := touch_set8 w3 w.heap.size T (.slice va vn vc)
  exact ⟨_, rfl, i1.carry T8.size (fun b hb _ => by simp at hb; omega) (fun b hb hlt => T8.block b hlt (fun e => by have := Option.some.inj e; simp at hb; omega)), below_over pst.bel T8 (Nat.le_refl _)⟩

theorem rparse_any (s : ByteArray) (hs : s.size ≤ 9223372036854775807) : RParseIs s (parse (codes s)).1 (parse (codes s)).2.1 (parse (codes s)).2.2 := by
  by_cases h : 512 < s.size
  · have e : parse (codes s) = (Tr.zero, 2, 0) := by unfold parse; rw [if_pos (by rw [codes_length]; exact h)]
    rw [e]
    exact rparse_long s h hs
  · have hs2 : s.size ≤ 512 := by omega
    have hlen : ¬ 512 < (codes s).length := by rw [codes_length]; exact h
    unfold parse
    rw [if_neg hlen]
    have hp := alt_tell s hs2 0 30 0 rfl 0 (Nat.zero_le _)
    rw [suf_zero] at hp
    unfold alt
    rcases hp with ⟨T, j, k1, k2, k3, k4, k5⟩ | ⟨er, q, k2, k3, k5⟩
    · rw [k3]
      by_cases hj : j < s.size
      · have hne : suf s j ≠ [] := by rw [suf_in s j hj]; simp
        simp only [hne, ne_eq, not_false_eq_true, if_true]
        have e : (codes s).length - (suf s j).length = j := by rw [codes_length, suf_length]; omega
        rw [e]
        exact rparse_rest s hs2 T j hj k5
      · have hje : j = s.size := by omega
        subst hje
        simp only [suf_out s s.size (Nat.le_refl _), ne_eq, not_true_eq_false, if_false]
        by_cases hd_ : T.depth ≤ 30
        · rw [if_pos hd_]
          exact rparse_ok s hs2 T hd_ k5
        · rw [if_neg hd_]
          exact rparse_deep s hs2 T (by omega) k5
    · rw [k3]
      have e : (codes s).length - (suf s q).length = q := by rw [codes_length, suf_length]; omega
      simp only [e]
      exact rparse_bad s hs2 er q k5
end Go.Proofs.Ytjfnefmolhihaaa.st

namespace Go.Proofs.Ytjfnefmolhihaaa.st
open Go.Sort Go.ChangeShapes Go.WideShapes Go.ChangeAt Go.RowKit
set_option linter.unusedVariables false

/-- a tree that lies in memory twice is like itself -/
def LikeIs (t : Tr) : Prop := ∀ va vb w P Q, Is w P t va → Is w Q t vb → Calls Try.prog 8 #[.agg #[.int .i64 t.kind, .int .u64 t.set.a, .int .u64 t.set.b, .int .u64 t.set.c, .int .u64 t.set.d, .int .i64 t.min, .int .i64 t.max, va], .agg #[.int .i64 t.kind, .int .u64 t.set.a, .int .u64 t.set.b, .int .u64 t.set.c, .int .u64 t.set.d, .int .i64 t.min, .int .i64 t.max, vb]] w fun e w' => e = .returned (.bool true) ∧ RowKit.Below w.heap.size w w'

theorem like_grow {t : Tr} (h : LikeIs t) {w : World} {P Q : Nat → Prop} {va vb : Value} (ha : Is w P t va) (hb : Is w Q t vb) : ∀ d os, Calls Try.prog 8 #[.agg #[.int .i64 t.kind, .int .u64 t.set.a, .int .u64 t.set.b, .int .u64 t.set.c, .int .u64 t.set.d, .int .i64 t.min, .int .i64 t.max, va], .agg #[.int .i64 t.kind, .int .u64 t.set.a, .int .u64 t.set.b, .int .u64 t.set.c, .int .u64 t.set.d, .int .i64 t.min, .int .i64 t.max, vb]] (grow (redrawn w d) os) fun e w'' => e = .returned (.bool true) ∧ ∃ p : Regrown, w'' = grow (redrawn w p.d) p.os :=
  fun d os => Calls.regrown_of (h va vb _ P Q (ha.later (below_regrown w d os)) (hb.later (below_regrown w d os)))

set_option maxHeartbeats 2000000 in
set_option maxRecDepth 100000 in
theorem like_any (d : Nat) : ∀ (t : Tr), t.depth ≤ d → LikeIs t := by
  induction d with
  | zero => intro t hd; have := t.depth_eq; omega
  | succ d ih =>
    intro t hd va vb w P Q ha hb
    have hDe := t.depth_eq
    have HK : Hid (∀ i, i < t.kids.length → (nthT t.kids i).depth ≤ d) := fun i hi => by have := depth_nth t.kids i hi; omega
    obtain ⟨oa, ca, ba, fa, vsa, rfl, hca, hka⟩ := ha.form
    obtain ⟨ob, cb, bb, fb, vsb, rfl, hcb, hkb⟩ := hb.form
    have heq : ∀ W, (Op.equalIn 9999 23 (.agg #[.int .u64 t.set.a, .int .u64 t.set.b, .int .u64 t.set.c, .int .u64 t.set.d]) (.agg #[.int .u64 t.set.a, .int .u64 t.set.b, .int .u64 t.set.c, .int .u64 t.set.d])).run Try.prog W = .ok true W := fun W => by rw [eq23]; simp
    have hll : t.kids.length ≤ 9223372036854775807 := by
      by_cases h0 : 0 < t.kids.length
      · have := (hka 0 h0).2.1; omega
      · omega
    have b0 : Box ((w.alloc (.cells #[.int .i64 t.kind, .int .u64 t.set.a, .int .u64 t.set.b, .int .u64 t.set.c, .int .u64 t.set.d, .int .i64 t.min, .int .i64 t.max, .slice oa t.kids.length ca] 28)).alloc (.cells #[.int .i64 t.kind, .int .u64 t.set.a, .int .u64 t.set.b, .int .u64 t.set.c, .int .u64 t.set.d, .int .i64 t.min, .int .i64 t.max, .slice ob t.kids.length cb] 28)) w.heap.size t (.slice oa t.kids.length ca) := (box_new w t _).below (below_alloc _ _)
    have b1 : Box ((w.alloc (.cells #[.int .i64 t.kind, .int .u64 t.set.a, .int .u64 t.set.b, .int .u64 t.set.c, .int .u64 t.set.d, .int .i64 t.min, .int .i64 t.max, .slice oa t.kids.length ca] 28)).alloc (.cells #[.int .i64 t.kind, .int .u64 t.set.a, .int .u64 t.set.b, .int .u64 t.set.c, .int .u64 t.set.d, .int .i64 t.min, .int .i64 t.max, .slice ob t.kids.length cb] 28)) (w.heap.size + 1) t (.slice ob t.kids.length cb) := heap_alloc2_new w _ _
    have hB0 := (below_alloc w (.cells #[.int .i64 t.kind, .int .u64 t.set.a, .int .u64 t.set.b, .int .u64 t.set.c, .int .u64 t.set.d, .int .i64 t.min, .int .i64 t.max, .slice oa t.kids.length ca] 28)).trans ((below_alloc _ (.cells #[.int .i64 t.kind, .int .u64 t.set.a, .int .u64 t.set.b, .int .u64 t.set.c, .int .u64 t.set.d, .int .i64 t.min, .int .i64 t.max, .slice ob t.kids.length cb] 28)).mono (below_alloc w _).size)
    clear hDe hd ha hb
    go_enter Try.func8, Try.ntmps8
    go_wp2_with (fail)
    go_loopw [44] (fun x wr => ∃ (i : Nat), x = .int .i64 i ∧ i ≤ t.kids.length ∧ Box wr w.heap.size t (.slice oa t.kids.length ca) ∧ Box wr (w.heap.size + 1) t (.slice ob t.kids.length cb) ∧ RowKit.Below w.heap.size w wr) (fun x _ => t.kids.length - (intOf x).toNat)
    case atStart => exact ⟨0, rfl, by omega, b0, b1, hB0⟩
    case round =>
      obtain ⟨i, rfl, hil, z0, z1, hB⟩ := hrel
      clear b0 b1 hB0
      by_cases hend : i < t.kids.length
      · obtain ⟨rfl, hcma, hba, _, hcella, hkida⟩ := hka i hend
        obtain ⟨rfl, hcmb, hbb, _, hcellb, hkidb⟩ := hkb i hend
        have hla := hcella.same (hB.block ba hba)
        have hlb := hcellb.same (hB.block bb hbb)
        have hka2 := hkida.later hB
        have hkb2 := hkidb.later hB
        obtain ⟨o2, n2, cap2, hv2⟩ := hkida.shape
        obtain ⟨o3, n3, cap3, hv3⟩ := hkidb.shape
        rw [hv2] at hla hka2
        rw [hv3] at hlb hkb2
        have hcall := like_grow (ih (nthT t.kids i) (HK.out i hend)) hka2 hkb2
        obtain ⟨p0, p1, p2, p3, p4, p5, p6, p7⟩ := hla
        obtain ⟨q0, q1, q2, q3, q4, q5, q6, q7⟩ := hlb
        have za := cell_regrown (b8 z0).1.2.2.2.2.2.2.2
        have zb := cell_regrown (b8 z1).1.2.2.2.2.2.2.2
        have r0 := cell_regrown p0
        have r1 := cell_regrown p1
        have r2 := cell_regrown p2
        have r3 := cell_regrown p3
        have r4 := cell_regrown p4
        have r5 := cell_regrown p5
        have r6 := cell_regrown p6
        have r7 := cell_regrown p7
        have s0 := cell_regrown q0
        have s1 := cell_regrown q1
        have s2 := cell_regrown q2
        have s3 := cell_regrown q3
        have s4 := cell_regrown q4
        have s5 := cell_regrown q5
        have s6 := cell_regrown q6
        have s7 := cell_regrown q7
        clear hcella hcellb hkida hkidb hka hkb hv2 hv3 hka2 hkb2 p0 p1 p2 p3 p4 p5 p6 p7 q0 q1 q2 q3 q4 q5 q6 q7
        generalize nthT t.kids i = x at *
        generalize t.kids.length = n at *
        go_wp2_with (fail)
        refine wp_region_quiet_below (by kernel_rfl) (by kernel_rfl) ?_
        repeat (go_big_quiet_step (with_reducible exact hcall _ _))
        refine wpQuiet_nil ?_
        intro _ hw'
        obtain ⟨⟨dq, osq⟩, hw''⟩ := hw'
        subst hw''
        have b9 := below_regrown wr dq osq
        generalize grow (redrawn wr dq) osq = w1 at *
        go_wp2_with (fail)
        go_roundw
        case rel => exact ⟨i + 1, by go_num, by omega, z0.below b9, z1.below b9, hB.trans (b9.mono hB.size)⟩
        case measure => simp [intOf]; omega
      · clear hka hkb
        go_wp2_with (fail)
        go_ret
        exact ⟨rfl, hB⟩
end Go.Proofs.Ytjfnefmolhihaaa.st
