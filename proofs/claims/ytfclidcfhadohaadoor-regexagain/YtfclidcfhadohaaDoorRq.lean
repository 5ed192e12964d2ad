/-
  Contracts over this program: an atom, an item (regex.reader's atom, item), whatever a group does.
-/
import Derived.Test.YtfclidcfhadohaaDoorRm
import Derived.Test.YtfclidcfhadohaaDoorRo
import Derived.Test.YtfclidcfhadohaaDoorRp
namespace Go.Proofs.YtfclidcfhadohaaDoor.st
open Go.Sort Go.ChangeShapes Go.WideShapes Go.ChangeAt Go.RowKit
set_option linter.unusedVariables false

/-- a call of the reader that answers a tree -/
def OkT (f : Nat) (u : ByteArray) (p op : Nat) (t : Tr) (p' : Nat) : Prop := ∀ g w, Rd w g u p op → Calls Tryd.prog f #[.pointer (some ⟨g, 0, none⟩)] w fun e w' =>
  ∃ v, e = .returned (.agg #[.int .i64 t.kind, .int .u64 t.set.a, .int .u64 t.set.b, .int .u64 t.set.c, .int .u64 t.set.d, .int .i64 t.min, .int .i64 t.max, v]) ∧ Is w' (fun b => w.heap.size ≤ b) t v ∧ Rd w' g u p' op ∧ w.grownBy w' (some g)
def BadT (f : Nat) (u : ByteArray) (p op er q : Nat) : Prop := ∀ g w, Rd w g u p op → Calls Tryd.prog f #[.pointer (some ⟨g, 0, none⟩)] w fun e w' => e = .panicked [{ v := .iface 48 (.agg #[.int .i64 er, .int .i64 q]), recovered := false }] ∧ w.grownBy w' (some g)
def OutT (res : R Tr) (u : ByteArray) (g op : Nat) (w : World) (e : Ending) (w' : World) : Prop :=
  (∃ t p' v, res = .ok t (suf u p') ∧ p' ≤ u.size ∧ e = .returned (.agg #[.int .i64 t.kind, .int .u64 t.set.a, .int .u64 t.set.b, .int .u64 t.set.c, .int .u64 t.set.d, .int .i64 t.min, .int .i64 t.max, v]) ∧ Is w' (fun b => w.heap.size ≤ b) t v ∧ Rd w' g u p' op ∧ w.grownBy w' (some g)) ∨
  (∃ er q, res = .bad er (suf u q) ∧ q ≤ u.size ∧ e = .panicked [{ v := .iface 48 (.agg #[.int .i64 er, .int .i64 q]), recovered := false }] ∧ w.grownBy w' (some g))
/-- what is read, as pure reading tells: a tree of few nodes, or an error -/
def Pure (lo room p : Nat) (r : R Tr) (u : ByteArray) : Prop := (∃ t p', lo ≤ p' ∧ p' ≤ u.size ∧ r = .ok t (suf u p') ∧ t.nodes ≤ 2 * (p' - p) + room) ∨ (∃ e q, q ≤ u.size ∧ r = .bad e (suf u q))
/-- the program reads as pure reading does -/
def Tells (f : Nat) (lo room : Nat) (u : ByteArray) (op : Nat) (rd : List Nat → R Tr) : Prop := ∀ p, p ≤ u.size →
  (∃ t p', p + lo ≤ p' ∧ p' ≤ u.size ∧ rd (suf u p) = .ok t (suf u p') ∧ t.nodes ≤ 2 * (p' - p) + room ∧ OkT f u p op t p') ∨ (∃ e q, q ≤ u.size ∧ rd (suf u p) = .bad e (suf u q) ∧ BadT f u p op e q)

theorem tells_of {f lo room : Nat} {u : ByteArray} {op : Nat} {rd : List Nat → R Tr} (hp : ∀ p, p ≤ u.size → Pure (p + lo) room p (rd (suf u p)) u) (hw : ∀ p, p ≤ u.size → ∀ g w, Rd w g u p op → Calls Tryd.prog f #[.pointer (some ⟨g, 0, none⟩)] w (OutT (rd (suf u p)) u g op w)) : Tells f lo room u op rd := by
  intro p hpu
  rcases hp p hpu with ⟨t, p', h1, h2, h3, h4⟩ | ⟨e, q, h2, h3⟩
  · refine .inl ⟨t, p', h1, h2, h3, h4, fun g w h => (hw p hpu g w h).mono ?_⟩
    rintro e w' (⟨t2, p2, v, x1, x2, x3, x4, x5, x6⟩ | ⟨er, q, x1, _⟩)
    · rw [h3] at x1
      obtain ⟨y1, y2⟩ := r_ok x1
      rw [suf_inj u p' p2 h2 x2 y2, y1]
      exact ⟨v, x3, x4, x5, x6⟩
    · rw [h3] at x1; cases x1
  · refine .inr ⟨e, q, h2, h3, fun g w h => (hw p hpu g w h).mono ?_⟩
    rintro e' w' (⟨t2, p2, v, x1, _⟩ | ⟨er, q2, x1, x2, x3, x4⟩)
    · rw [h3] at x1; cases x1
    · rw [h3] at x1
      obtain ⟨y1, y2⟩ := r_bad x1
      rw [suf_inj u q q2 h2 x2 y2, y1]
      exact ⟨x3, x4⟩

theorem Box.keep {w w' : World} {g k : Nat} {t : Tr} {v : Value} (h : Box w g t v) (b : w.grownBy w' (some k)) (hne : g ≠ k) : Box w' g t v := Box.grown h b hne
theorem b8 {w : World} {g : Nat} {t : Tr} {v : Value} (h : Box w g t v) : (w.cell? ⟨g, 0, none⟩ = some (.int .i64 t.kind) ∧ w.cell? ⟨g, 1, none⟩ = some (.int .u64 t.set.a) ∧ w.cell? ⟨g, 2, none⟩ = some (.int .u64 t.set.b) ∧ w.cell? ⟨g, 3, none⟩ = some (.int .u64 t.set.c) ∧
    w.cell? ⟨g, 4, none⟩ = some (.int .u64 t.set.d) ∧ w.cell? ⟨g, 5, none⟩ = some (.int .i64 t.min) ∧ w.cell? ⟨g, 6, none⟩ = some (.int .i64 t.max) ∧ w.cell? ⟨g, 7, none⟩ = some v) ∧
    (w.frozen? ⟨g, 0, none⟩ = false ∧ w.frozen? ⟨g, 1, none⟩ = false ∧ w.frozen? ⟨g, 2, none⟩ = false ∧ w.frozen? ⟨g, 3, none⟩ = false ∧ w.frozen? ⟨g, 4, none⟩ = false ∧ w.frozen? ⟨g, 5, none⟩ = false ∧ w.frozen? ⟨g, 6, none⟩ = false ∧ w.frozen? ⟨g, 7, none⟩ = false) :=
  ⟨h.cells, Lib.frozen_of_heap h 0, Lib.frozen_of_heap h 1, Lib.frozen_of_heap h 2, Lib.frozen_of_heap h 3, Lib.frozen_of_heap h 4, Lib.frozen_of_heap h 5, Lib.frozen_of_heap h 6, Lib.frozen_of_heap h 7⟩

set_option maxHeartbeats 2000000 in
set_option maxRecDepth 100000 in
theorem atom_any (u : ByteArray) (hu : u.size ≤ 512) (op : Nat) (grp : List Nat → R Tr) (hg : Tells 86 1 0 u op grp) : Tells 82 1 0 u op (atom grp) := by
  intro p hp
  have hu2 : u.size ≤ 9223372036854775807 := by omega
  unfold atom
  have h42 := sees_any u p ⟨#[40]⟩ hp hu2 _ rfl
  rw [show codes ⟨#[40]⟩ = [40] from rfl] at h42
  cases hs : sees [40] (suf u p) with
  | true =>
    rw [hs] at h42
    simp only [if_true]
    clear hs
    rcases hg p hp with ⟨t, p', h1, h2, h3, h4, h62⟩ | ⟨e, q, h2, h3, h62⟩
    · refine .inl ⟨t, p', h1, h2, h3, h4, ?_⟩
      clear h3
      intro g w h
      have r0 := fun o => h.later (below_alloc w o)
      have z0 := box_new w Tr.zero (.slice none 0 0)
      go_enter Tryd.func82, Tryd.ntmps82
      go_wp2_with (first | (go_at_call 74; refine (h42 _ _ _ (r0 _)).mono ?_; rintro e w1 ⟨rfl, b1⟩; have r1 := (r0 _).later b1) | (go_at_call 86; refine (h62 _ _ r1).mono ?_; rintro e w2 ⟨v, rfl, i2, r2, t2⟩; obtain ⟨va, vn, vc, rfl⟩ := i2.shape; have z2 := Box.keep (z0.below b1) t2 h.ne.symm; obtain ⟨⟨c0, c1, c2, c3, c4, c5, c6, c7⟩, f0, f1, f2, f3, f4, f5, f6, f7⟩ := b8 z2))
      refine ret28 Tryd.results82 w.heap.size t (.slice va vn vc) rfl (box_set z2 t _) rfl ?_
      refine ⟨_, rfl, ?_, r2.other (touch_set8 _ _ t _) h.ne, touch_over (touch_trans (touch_trans (touch_alloc (touch_refl _ _) _) (touch_below _ b1)) t2) (touch_set8 _ _ t _) (Nat.le_refl _)⟩
      exact i2.carry (touch_set8 _ _ t _).size (fun b hb _ => by have := b1.size; simp at this; omega) (fun b hb hlt => (touch_set8 _ _ t _).block b hlt (fun e => by have := Option.some.inj e; have := b1.size; simp at this; omega))
    · refine .inr ⟨e, q, h2, h3, ?_⟩
      clear h3
      intro g w h
      have r0 := fun o => h.later (below_alloc w o)
      go_enter Tryd.func82, Tryd.ntmps82
      go_wp2_with (first | (go_at_call 74; refine (h42 _ _ _ (r0 _)).mono ?_; rintro e w1 ⟨rfl, b1⟩; have r1 := (r0 _).later b1) | (go_at_call 86; refine (h62 _ _ r1).mono ?_; rintro e w2 ⟨rfl, t2⟩))
      exact ⟨rfl, rfl, touch_trans (touch_trans (touch_alloc (touch_refl _ _) _) (touch_below _ b1)) t2⟩
  | false =>
    rw [hs] at h42
    simp only [Bool.false_eq_true, if_false]
    clear hs
    rcases single_any u p hp hu2 with ⟨q, p', h1, h2, h3, hf, h63⟩ | ⟨e, q, h2, h3, h63⟩
    · refine .inl ⟨.node 1 q 0 0 [], p', h1, h2, by rw [h3]; rfl, by simp only [Tr.nodes, nodesOf]; omega, ?_⟩
      clear h3
      intro g w h
      have r0 := fun o => h.later (below_alloc w o)
      have z0 := box_new w Tr.zero (.slice none 0 0)
      go_enter Tryd.func82, Tryd.ntmps82
      go_wp2_with (first | (go_at_call 74; refine (h42 _ _ _ (r0 _)).mono ?_; rintro e w1 ⟨rfl, b1⟩; have r1 := (r0 _).later b1) | (go_at_call 87; refine (h63 _ _ _ r1).mono ?_; rintro e w2 ⟨rfl, r2, t2⟩; have z2 := Box.keep (z0.below b1) t2 h.ne.symm; obtain ⟨⟨c0, c1, c2, c3, c4, c5, c6, c7⟩, f0, f1, f2, f3, f4, f5, f6, f7⟩ := b8 z2))
      refine ret28 Tryd.results82 w.heap.size (.node 1 q 0 0 []) (.slice none 0 0) rfl (box_set z2 (.node 1 q 0 0 []) _) rfl ?_
      exact ⟨_, rfl, .leaf _ _ _ _ _ _, r2.other (touch_set8 _ _ (.node 1 q 0 0 []) _) h.ne, touch_over (touch_trans (touch_trans (touch_alloc (touch_refl _ _) _) (touch_below _ b1)) t2) (touch_set8 _ _ (.node 1 q 0 0 []) _) (Nat.le_refl _)⟩
    · refine .inr ⟨e, q, h2, by rw [h3]; rfl, ?_⟩
      clear h3
      intro g w h
      have r0 := fun o => h.later (below_alloc w o)
      go_enter Tryd.func82, Tryd.ntmps82
      go_wp2_with (first | (go_at_call 74; refine (h42 _ _ _ (r0 _)).mono ?_; rintro e w1 ⟨rfl, b1⟩; have r1 := (r0 _).later b1) | (go_at_call 87; refine (h63 _ _ _ r1).mono ?_; rintro e w2 ⟨rfl, t2⟩))
      exact ⟨rfl, rfl, touch_trans (touch_trans (touch_alloc (touch_refl _ _) _) (touch_below _ b1)) t2⟩
end Go.Proofs.YtfclidcfhadohaaDoor.st
