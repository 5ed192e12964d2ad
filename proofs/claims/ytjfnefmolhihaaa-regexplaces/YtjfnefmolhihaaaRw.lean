/-
  Contracts over this program: a group, and what calls itself in it (regex.reader's group).
-/
import Derived.Test.YtjfnefmolhihaaaRv
namespace Go.Proofs.Ytjfnefmolhihaaa.st
open Go.Sort Go.ChangeShapes Go.WideShapes Go.ChangeAt Go.RowKit
set_option linter.unusedVariables false

theorem group_full (u : ByteArray) (hu : u.size ≤ 512) : Tells 62 1 0 u 30 (group 0) := by
  intro p hp
  refine .inr ⟨2, p, hp, rfl, ?_⟩
  intro g w h
  have r0 := fun o => h.later (below_alloc w o)
  have c1 := fun o => (r0 o).c1
  have c2 : ∀ o, (w.alloc o).cell? ⟨g, 2, none⟩ = some (.int .i64 30) := fun o => (r0 o).c2
  go_enter Try.func62, Try.ntmps62
  go_wp2_with (fail)
  exact ⟨rfl, rfl, touch_alloc (touch_refl _ _) _⟩

set_option maxHeartbeats 4000000 in
set_option maxRecDepth 100000 in
theorem group_step (u : ByteArray) (hu : u.size ≤ 512) (d op : Nat) (hop : op < 30) (ha : Tells 28 0 2 u (op + 1) (altOf (group d))) : Tells 62 1 0 u op (group (d + 1)) := by
  intro p hp
  have hu2 : u.size ≤ 9223372036854775807 := by omega
  have hne30 : ((op : Int) == 30) = false := by rw [beq_eq_false_iff_ne]; omega
  have hs1 : (op : Int) + 1 = ((op + 1 : Nat) : Int) := by omega
  obtain ⟨op1, hop1⟩ : ∃ x, x = op + 1 := ⟨_, rfl⟩
  rw [← hop1] at ha hs1
  have hs2 : (op1 : Int) - 1 = (op : Int) := by omega
  have hop2 : op1 ≤ 30 := by omega
  unfold group
  have h1 := oneOf_any ⟨#[40]⟩ u p hp hu2
  rw [show codes ⟨#[40]⟩ = [40] from rfl] at h1
  clear hop1
  rcases h1 with ⟨c, p1, k1, k2, k3, h68⟩ | ⟨e, q, k2, k3, h68⟩
  case inr =>
    refine .inr ⟨e, q, k2, by rw [k3]; rfl, ?_⟩
    clear k3
    intro g w h
    have r0 := fun o => h.later (below_alloc w o)
    have c2 := fun o => (r0 o).c2
    have f2 := fun o => (r0 o).fz 2
    have r1 : Rd ((w.alloc (.cells #[.int .i64 0, .int .u64 0, .int .u64 0, .int .u64 0, .int .u64 0, .int .i64 0, .int .i64 0, .slice none 0 0] 28)).setCell ⟨g, 2, none⟩ (.int .i64 op1)) g u p op1 := (r0 _).set2 op1
    unfold BadV at h68
    go_enter Try.func62, Try.ntmps62
    go_wp2_with (go_at_call 68; (with_reducible refine (h68 _ _ _ r1).mono ?_); rintro e w1 ⟨rfl, t1⟩)
    exact ⟨rfl, rfl, touch_trans (touch_trans (touch_alloc (touch_refl _ _) _) (touch_cell _ _ _ _)) t1⟩
  rw [k3]
  simp only [R.then]
  clear k3
  rcases ha p1 k2 with ⟨t, p2, m1, m2, m3, m4, h28⟩ | ⟨e, q, m2, m3, h28⟩
  case inr =>
    refine .inr ⟨e, q, m2, by rw [m3], ?_⟩
    clear m3
    intro g w h
    have r0 := fun o => h.later (below_alloc w o)
    have c2 := fun o => (r0 o).c2
    have f2 := fun o => (r0 o).fz 2
    have r1 : Rd ((w.alloc (.cells #[.int .i64 0, .int .u64 0, .int .u64 0, .int .u64 0, .int .u64 0, .int .i64 0, .int .i64 0, .slice none 0 0] 28)).setCell ⟨g, 2, none⟩ (.int .i64 op1)) g u p op1 := (r0 _).set2 op1
    unfold OkV at h68
    go_enter Try.func62, Try.ntmps62
    go_wp2_with (first | (go_at_call 68; (with_reducible refine (h68 _ _ _ r1).mono ?_); rintro e w1 ⟨rfl, r1', t1⟩) | (go_at_call 28; refine (h28 _ _ r1').mono ?_; rintro e w2 ⟨rfl, t2⟩))
    exact ⟨rfl, rfl, touch_trans (touch_trans (touch_trans (touch_alloc (touch_refl _ _) _) (touch_cell _ _ _ _)) t1) t2⟩
  rw [m3]
  simp only
  clear m3
  have h2 := oneOf_any ⟨#[41]⟩ u p2 m2 hu2
  rw [show codes ⟨#[41]⟩ = [41] from rfl] at h2
  rcases h2 with ⟨c', p3, n1, n2, n3, g68⟩ | ⟨e, q, n2, n3, g68⟩
  case inr =>
    refine .inr ⟨e, q, n2, by rw [n3], ?_⟩
    clear n3
    intro g w h
    have r0 := fun o => h.later (below_alloc w o)
    have c2 := fun o => (r0 o).c2
    have f2 := fun o => (r0 o).fz 2
    have r1 : Rd ((w.alloc (.cells #[.int .i64 0, .int .u64 0, .int .u64 0, .int .u64 0, .int .u64 0, .int .i64 0, .int .i64 0, .slice none 0 0] 28)).setCell ⟨g, 2, none⟩ (.int .i64 op1)) g u p op1 := (r0 _).set2 op1
    unfold OkV at h68
    unfold BadV at g68
    go_enter Try.func62, Try.ntmps62
    go_wp2_with (first | (go_at_call 68; (with_reducible refine (h68 _ _ _ r1).mono ?_); rintro e w1 ⟨rfl, r1', t1⟩) | (go_at_call 28; refine (h28 _ _ r1').mono ?_; rintro e w2 ⟨v, rfl, i2, r2, t2⟩; obtain ⟨va, vn, vc, rfl⟩ := i2.shape; have r2' := r2.later (below_alloc w2 (.cells #[.int .i64 t.kind, .int .u64 t.set.a, .int .u64 t.set.b, .int .u64 t.set.c, .int .u64 t.set.d, .int .i64 t.min, .int .i64 t.max, .slice va vn vc] 28))) | (go_at_call 68; (with_reducible refine (g68 _ _ _ r2').mono ?_); rintro e w3 ⟨rfl, t3⟩))
    exact ⟨rfl, rfl, touch_trans (touch_alloc (touch_trans (touch_trans (touch_trans (touch_alloc (touch_refl _ _) _) (touch_cell _ _ _ _)) t1) t2) _) t3⟩
  rw [n3]
  refine .inl ⟨t, p3, by omega, n2, rfl, by omega, ?_⟩
  clear n3
  intro g w h
  have r0 := fun o => h.later (below_alloc w o)
  have c2 := fun o => (r0 o).c2
  have f2 := fun o => (r0 o).fz 2
  have r1 : Rd ((w.alloc (.cells #[.int .i64 0, .int .u64 0, .int .u64 0, .int .u64 0, .int .u64 0, .int .i64 0, .int .i64 0, .slice none 0 0] 28)).setCell ⟨g, 2, none⟩ (.int .i64 op1)) g u p op1 := (r0 _).set2 op1
  have z0 := Box.keep (box_new w Tr.zero (.slice none 0 0)) (touch_cell _ g 2 (.int .i64 op1)) h.ne.symm
  unfold OkV at h68 g68
  go_enter Try.func62, Try.ntmps62
  go_wp2_with (first | (go_at_call 68; (with_reducible refine (h68 _ _ _ r1).mono ?_); rintro e w1 ⟨rfl, r1', t1⟩) | (go_at_call 28; refine (h28 _ _ r1').mono ?_; rintro e w2 ⟨v, rfl, i2, r2, t2⟩; obtain ⟨va, vn, vc, rfl⟩ := i2.shape; have r2' := r2.later (below_alloc w2 (.cells #[.int .i64 t.kind, .int .u64 t.set.a, .int .u64 t.set.b, .int .u64 t.set.c, .int .u64 t.set.d, .int .i64 t.min, .int .i64 t.max, .slice va vn vc] 28))) | (go_at_call 68; (with_reducible refine (g68 _ _ _ r2').mono ?_); rintro e w3 ⟨rfl, r3, t3⟩; have e2 := r3.c2; have e3 := r3.fz 2; have hr4 := r3.set2 op; have q3 := Box.keep (Box.keep (box_new w2 t (.slice va vn vc)) t3 (by have := r2.lt; omega)) (touch_cell w3 g 2 (.int .i64 op)) (by have := r2.lt; omega); have z3 := Box.keep (Box.keep ((Box.keep (Box.keep z0 t1 h.ne.symm) t2 h.ne.symm).below (below_alloc w2 _)) t3 h.ne.symm) (touch_cell w3 g 2 (.int .i64 op)) h.ne.symm; obtain ⟨⟨x0, x1, x2, x3, x4, x5, x6, x7⟩, _⟩ := b8 q3; obtain ⟨⟨d0, d1, d2, d3, d4, d5, d6, d7⟩, y0, y1, y2, y3, y4, y5, y6, y7⟩ := b8 z3))
  have hgw := h.lt
  refine ret28 Try.results62 w.heap.size t (.slice va vn vc) rfl (box_set z3 t _) rfl ?_
  have hz1 : w.heap.size + 1 ≤ w1.heap.size := by have := t1.size; simpa using this
  have hz2 : w1.heap.size ≤ w2.heap.size := t2.size
  refine ⟨_, rfl, ?_, hr4.other (touch_set8 _ _ t _) (by omega), touch_over (touch_trans (touch_trans (touch_alloc (touch_trans (touch_trans (touch_trans (touch_alloc (touch_refl _ _) _) (touch_cell _ _ _ _)) t1) t2) _) t3) (touch_cell _ _ _ _)) (touch_set8 _ _ t _) (Nat.le_refl _)⟩
  have j2 := i2.later (below_alloc w2 (.cells #[.int .i64 t.kind, .int .u64 t.set.a, .int .u64 t.set.b, .int .u64 t.set.c, .int .u64 t.set.d, .int .i64 t.min, .int .i64 t.max, .slice va vn vc] 28))
  have j3 : Is w3 (fun b => w1.heap.size ≤ b) t (.slice va vn vc) := j2.carry t3.size (fun _ hb _ => hb) (fun b hb hlt => t3.block b hlt (fun e => by have := Option.some.inj e; omega))
  have j4 := j3.carry (touch_cell w3 g 2 (.int .i64 op)).size (P' := fun b => w1.heap.size ≤ b) (fun _ hb _ => hb) (fun b hb hlt => (touch_cell w3 g 2 (.int .i64 op)).block b hlt (fun e => by have := Option.some.inj e; omega))
  exact j4.carry (touch_set8 _ _ t _).size (fun b hb _ => by omega) (fun b hb hlt => (touch_set8 _ _ t _).block b hlt (fun e => by have := Option.some.inj e; omega))

theorem group_any (u : ByteArray) (hu : u.size ≤ 512) (d : Nat) : ∀ op, op + d = 30 → Tells 62 1 0 u op (group d) := by
  induction d with
  | zero =>
    intro op h
    obtain rfl : op = 30 := by omega
    exact group_full u hu
  | succ d ih =>
    intro op h
    exact group_step u hu d op (by omega) (alt_any u hu (op + 1) (group d) (ih (op + 1) (by omega)))

theorem reads (u : ByteArray) (hu : u.size ≤ 512) : Tells 28 0 2 u 0 (alt 30) := alt_any u hu 0 (group 30) (group_any u hu 30 0 rfl)
end Go.Proofs.Ytjfnefmolhihaaa.st
