/-
  Contracts over this program: a backslash and a kind, parts of a class, a class, one byte of a set (regex.reader's kind, part, class, single).
-/
import Derived.Test.YtfclidcfhadohaaDoorRe
namespace Go.Proofs.YtfclidcfhadohaaDoor.st
open Go.Sort Go.ChangeShapes Go.WideShapes Go.ChangeAt Go.RowKit
set_option linter.unusedVariables false

/-- a call of the reader that answers a set -/
def OkQ (f : Nat) (u : ByteArray) (p : Nat) (q : Q4) (p' : Nat) : Prop := ∀ g op w, Rd w g u p op → Calls Tryd.prog f #[.pointer (some ⟨g, 0, none⟩)] w fun e w' => e = .returned (.agg #[.int .u64 q.a, .int .u64 q.b, .int .u64 q.c, .int .u64 q.d]) ∧ Rd w' g u p' op ∧ w.grownBy w' (some g)
/-- a kind that stands there, or none -/
def KindIs (u : ByteArray) (p : Nat) (q : Q4) (r : Bool) (p' : Nat) : Prop := ∀ g op w, Rd w g u p op → Calls Tryd.prog 92 #[.pointer (some ⟨g, 0, none⟩)] w fun e w' => e = .returned (.tuple #[.agg #[.int .u64 q.a, .int .u64 q.b, .int .u64 q.c, .int .u64 q.d], .bool r]) ∧ Rd w' g u p' op ∧ w.grownBy w' (some g)

theorem Rd.ne {w : World} {g p op : Nat} {u : ByteArray} (h : Rd w g u p op) : g ≠ w.heap.size := by have := h.lt; omega
theorem Blk.keep {w w' : World} {b g : Nat} {q : Q4} (h : sp.Blk w b q) (t : w.grownBy w' (some g)) (hne : b ≠ g) : sp.Blk w' b q := sp.Blk.other h t hne

theorem rd_next {W W' : World} {g p op : Nat} {u : ByteArray} (h : W.cell? ⟨g, 0, none⟩ = some (.string u) ∧ W.cell? ⟨g, 1, none⟩ = some (.int .i64 p) ∧ Rd W g u p op) (b : Below W.heap.size W W') :
    W'.cell? ⟨g, 0, none⟩ = some (.string u) ∧ W'.cell? ⟨g, 1, none⟩ = some (.int .i64 p) ∧ Rd W' g u p op := ⟨(h.2.2.later b).c0, (h.2.2.later b).c1, h.2.2.later b⟩

/-- what was seen, whatever memory was made meanwhile -/
theorem sees_grow {u : ByteArray} {p : Nat} {s : ByteArray} {r : Bool} (h : SeesIs u p s r) {w : World} {g op : Nat} (hr : Rd w g u p op) : ∀ d os, Calls Tryd.prog 74 #[.pointer (some ⟨g, 0, none⟩), .string s] (grow (redrawn w d) os) fun e w'' => e = .returned (.bool r) ∧ ∃ p : Regrown, w'' = grow (redrawn w p.d) p.os :=
  fun d os => Calls.regrown_of (h g op _ (hr.later (below_regrown w d os)))

set_option maxHeartbeats 1000000 in
set_option maxRecDepth 100000 in
theorem kind_no (u : ByteArray) (p : Nat) (hp : p ≤ u.size) (hu : u.size ≤ 9223372036854775807) (hs : sees [92] (suf u p) = false) : KindIs u p none4 false p := by
  intro g op w h
  have h42 := sees_any u p ⟨#[92]⟩ hp hu false hs.symm
  obtain ⟨w0, hw0⟩ : ∃ w0, w0 = w.alloc (.cells #[.int .u64 0, .int .u64 0, .int .u64 0, .int .u64 0] 25) := ⟨_, rfl⟩
  have hB : Below w.heap.size w w0 := by rw [hw0]; exact below_alloc _ _
  have r0 : Rd w0 g u p op := h.later hB
  have hz : sp.Blk w0 w.heap.size none4 := by rw [hw0]; exact sp.blk_new w none4
  have g42 := sees_grow h42 r0
  clear hs
  go_enter Tryd.func92, Tryd.ntmps92
  go_wp2_with (fail)
  rw [← hw0]
  clear hw0
  refine wp_region_quiet_below (by kernel_rfl) (by kernel_rfl) ?_
  repeat (go_big_quiet_step (with_reducible exact g42 _ _))
  refine wpQuiet_nil ?_
  intro _ hw'
  obtain ⟨⟨dq, osq⟩, hw''⟩ := hw'
  subst hw''
  have b1 := below_regrown w0 dq osq
  generalize grow (redrawn w0 dq) osq = w1 at *
  have k := hz.later b1
  obtain ⟨c0, c1, c2, c3, f0, f1, f2, f3⟩ := sp8 k
  clear g42
  go_wp2_with (fail)
  refine ret25b Tryd.results92 w.heap.size none4 rfl (sp.set4 k none4) rfl ?_
  exact ⟨rfl, (r0.later b1).other (touch_set4 _ _ none4) h.ne, touch_over (touch_below _ (hB.trans (b1.mono hB.size))) (touch_set4 _ _ none4) (Nat.le_refl _)⟩

set_option maxHeartbeats 1000000 in
set_option maxRecDepth 100000 in
theorem kind_end (u : ByteArray) (p : Nat) (hp : p ≤ u.size) (hu : u.size ≤ 9223372036854775807) (hs : sees [92] (suf u p) = true) (hend : p + 1 = u.size) : KindIs u p none4 false p := by
  intro g op w h
  have h42 := sees_any u p ⟨#[92]⟩ hp hu true hs.symm
  obtain ⟨w0, hw0⟩ : ∃ w0, w0 = w.alloc (.cells #[.int .u64 0, .int .u64 0, .int .u64 0, .int .u64 0] 25) := ⟨_, rfl⟩
  have hB : Below w.heap.size w w0 := by rw [hw0]; exact below_alloc _ _
  have r0 : Rd w0 g u p op := h.later hB
  have hz : sp.Blk w0 w.heap.size none4 := by rw [hw0]; exact sp.blk_new w none4
  have g42 := sees_grow h42 r0
  have k0 := cell_regrown r0.c0
  have k1 := cell_regrown r0.c1
  have hp1 : p + 1 ≤ 9223372036854775807 := by omega
  have heq : ((p : Int) + 1 == (u.size : Int)) = true := by rw [beq_iff_eq]; omega
  clear hs hend
  go_enter Tryd.func92, Tryd.ntmps92
  go_wp2_with (fail)
  rw [← hw0]
  clear hw0
  refine wp_region_quiet_below (by kernel_rfl) (by kernel_rfl) ?_
  repeat (go_big_quiet_step (with_reducible exact g42 _ _))
  refine wpQuiet_nil ?_
  intro _ hw'
  obtain ⟨⟨dq, osq⟩, hw''⟩ := hw'
  subst hw''
  have b1 := below_regrown w0 dq osq
  generalize grow (redrawn w0 dq) osq = w1 at *
  have k := hz.later b1
  obtain ⟨c0, c1, c2, c3, f0, f1, f2, f3⟩ := sp8 k
  clear g42
  go_wp2_with (fail)
  refine ret25b Tryd.results92 w.heap.size none4 rfl (sp.set4 k none4) rfl ?_
  exact ⟨rfl, (r0.later b1).other (touch_set4 _ _ none4) h.ne, touch_over (touch_below _ (hB.trans (b1.mono hB.size))) (touch_set4 _ _ none4) (Nat.le_refl _)⟩

set_option maxHeartbeats 2000000 in
set_option maxRecDepth 100000 in
theorem kind_yes (u : ByteArray) (p : Nat) (hu : u.size ≤ 9223372036854775807) (hs : sees [92] (suf u p) = true) (p1 : Nat) (ep : p1 = p + 1) (hend : p1 < u.size) (q : Q4) (hk : KofIs u[p1].toNat q true) : KindIs u p q true (p + 2) := by
  intro g op w h
  have h42 := sees_any u p ⟨#[92]⟩ (by omega) hu true hs.symm
  obtain ⟨w0, hw0⟩ : ∃ w0, w0 = w.alloc (.cells #[.int .u64 0, .int .u64 0, .int .u64 0, .int .u64 0] 25) := ⟨_, rfl⟩
  have hB : Below w.heap.size w w0 := by rw [hw0]; exact below_alloc _ _
  have r0 : Rd w0 g u p op := h.later hB
  have hz : sp.Blk w0 w.heap.size none4 := by rw [hw0]; exact sp.blk_new w none4
  have g42 := sees_grow h42 r0
  have k0 := cell_regrown r0.c0
  have k1 := cell_regrown r0.c1
  have hp1 : p + 2 ≤ 9223372036854775807 := by omega
  have hs1 : (p : Int) + 1 = (p1 : Int) := by omega
  have hw1 : IntKind.i64.wrap (p1 : Int) = (p1 : Int) := IntWalk.i64_in _ ⟨by omega, by omega⟩
  have heq : ((p1 : Int) == (u.size : Int)) = false := by rw [beq_eq_false_iff_ne]; omega
  clear hs ep
  go_enter Tryd.func92, Tryd.ntmps92
  go_wp2_with (fail)
  rw [← hw0]
  clear hw0
  refine wp_region_quiet_below (by kernel_rfl) (by kernel_rfl) ?_
  repeat (go_big_quiet_step (with_reducible exact g42 _ _))
  refine wpQuiet_nil ?_
  intro _ hw'
  obtain ⟨⟨dq, osq⟩, hw''⟩ := hw'
  subst hw''
  have b1 := below_regrown w0 dq osq
  generalize grow (redrawn w0 dq) osq = w1 at *
  have k := hz.later b1
  have r1 := r0.later b1
  clear g42 k0 k1
  go_wp2_with (fail)
  have e0 := r1.c0
  have e1 := r1.c1
  have e2 : ∀ o, (w1.alloc o).cell? ⟨g, 0, none⟩ = some (.string u) := fun o => (r1.later (below_alloc w1 o)).c0
  have e3 : ∀ o, (w1.alloc o).cell? ⟨g, 1, none⟩ = some (.int .i64 p) := fun o => (r1.later (below_alloc w1 o)).c1
  go_region_with (go_at_call 98; refine (hk _).mono ?_; rintro e w2 ⟨rfl, b2⟩; first | (have y : sp.Blk w2 w1.heap.size none4 := sp.Blk.later (w := (w1.alloc (.cells #[.int .u64 0, .int .u64 0, .int .u64 0, .int .u64 0] 25)).drew) (sp.blk_new w1 none4) b2; obtain ⟨y0, y1, y2, y3, v0, v1, v2, v3⟩ := sp8 y) | skip)
  all_goals first
    | (obtain ⟨W, hW⟩ : ∃ W, W = w2.alloc (.cells #[.int .u64 q.a, .int .u64 q.b, .int .u64 q.c, .int .u64 q.d] 25) := ⟨_, rfl⟩
       have RW : Rd W g u p op := by rw [hW]; exact (Rd.later (w := w1.drew) r1 b2).later (below_alloc _ _)
       have KW : sp.Blk W w.heap.size none4 := by rw [hW]; exact (sp.Blk.later (w := w1.drew) k b2).later (below_alloc _ _)
       have QW : sp.Blk W w2.heap.size q := by rw [hW]; exact sp.blk_new w2 q
       have TW : w.grownBy W (some g) := by rw [hW]; exact touch_below _ (hB.trans ((Below.trans b1.drew (b2.mono b1.drew.size) |>.trans ((below_alloc _ _).mono (Nat.le_trans b1.drew.size b2.size))).mono hB.size))
       have hq : w2.heap.size ≠ g := by have := RW.lt; have := r1.lt; have := b2.size; simp at this; omega
       rw [← hW]
       clear hW
       generalize w2.heap.size = b4 at *)
    | (obtain ⟨W, hW⟩ : ∃ W, W = (((w2.setCell ⟨w1.heap.size, 0, none⟩ (.int .u64 q.a)).setCell ⟨w1.heap.size, 1, none⟩ (.int .u64 q.b)).setCell ⟨w1.heap.size, 2, none⟩ (.int .u64 q.c)).setCell ⟨w1.heap.size, 3, none⟩ (.int .u64 q.d) := ⟨_, rfl⟩
       have h1 : w1.heap.size ≠ g := by have := r1.lt; omega
       have h2 : w1.heap.size ≠ w.heap.size := by have := k.lt; omega
       have b2' := (below_alloc w1 (.cells #[.int .u64 0, .int .u64 0, .int .u64 0, .int .u64 0] 25)).drew.trans (b2.mono (below_alloc w1 (.cells #[.int .u64 0, .int .u64 0, .int .u64 0, .int .u64 0] 25)).drew.size)
       have RW : Rd W g u p op := by rw [hW]; exact (r1.later b2').other (touch_set4 _ _ _) h1.symm
       have KW : sp.Blk W w.heap.size none4 := by rw [hW]; exact Blk.keep (k.later b2') (touch_set4 _ _ _) h2.symm
       have QW : sp.Blk W w1.heap.size q := by rw [hW]; exact sp.set4 y q
       have TW : w.grownBy W (some g) := by rw [hW]; exact touch_over (touch_below _ (hB.trans ((b1.trans (b2'.mono b1.size)).mono hB.size))) (touch_set4 _ _ _) (by have := k.lt; omega)
       have hq : w1.heap.size ≠ g := h1
       rw [← hW]
       clear hW y y0 y1 y2 y3 v0 v1 v2 v3
       generalize w1.heap.size = b4 at *)
  all_goals
    have hkg : w.heap.size ≠ g := h.ne.symm
    have z1 := RW.c1
    have z2 := RW.fz 1
    have KW2 := Blk.keep KW (touch_cell W g 1 (.int .i64 ((p : Int) + 2))) hkg
    have QW2 := Blk.keep QW (touch_cell W g 1 (.int .i64 ((p : Int) + 2))) hq
    obtain ⟨c0, c1, c2, c3, f0, f1, f2, f3⟩ := sp8 KW2
    obtain ⟨d0, d1, d2, d3, _, _, _, _⟩ := sp8 QW2
    clear e0 e1 e2 e3 b2 hw1 heq
    go_wp2_with (fail)
    refine ret25b Tryd.results92 w.heap.size q rfl (sp.set4 KW2 q) rfl ?_
    exact ⟨rfl, (RW.set1 (p + 2)).other (touch_set4 _ _ q) h.ne, touch_over (touch_trans TW (touch_cell _ _ _ _)) (touch_set4 _ _ q) (Nat.le_refl _)⟩
end Go.Proofs.YtfclidcfhadohaaDoor.st
