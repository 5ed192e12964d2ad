/-
  Contracts over this program: the reader's steps by a byte (regex.reader's wrong, step, oneOf, noneOf, skips).
-/
import Derived.Test.YtfclidcfhadohaaDoorRd
namespace Go.Proofs.YtfclidcfhadohaaDoor.st
open Go.ChangeShapes Go.WideShapes Go.ChangeAt Go.RowKit
set_option linter.unusedVariables false

theorem sees_any (u : ByteArray) (p : Nat) (s : ByteArray) (hp : p ≤ u.size) (hu : u.size ≤ 9223372036854775807) (r : Bool) (hr : r = sees (codes s) (suf u p)) : SeesIs u p s r := by
  by_cases hin : p < u.size
  · exact sees_in u p s hu hin r hr
  · rw [suf_out u p (by omega)] at hr
    rw [hr]
    exact sees_out u p s hu hp hin

/-- a call of the reader that answers, and goes on to a place -/
def OkV (f : Nat) (x : List Value) (u : ByteArray) (p : Nat) (v : Value) (p' : Nat) : Prop := ∀ g op w, Rd w g u p op → Calls Tryd.prog f (List.toArray (.pointer (some ⟨g, 0, none⟩) :: x)) w fun e w' => e = .returned v ∧ Rd w' g u p' op ∧ w.grownBy w' (some g)
/-- a call of the reader that gives up -/
def BadV (f : Nat) (x : List Value) (u : ByteArray) (p er q : Nat) : Prop := ∀ g op w, Rd w g u p op → Calls Tryd.prog f (List.toArray (.pointer (some ⟨g, 0, none⟩) :: x)) w fun e w' => e = .panicked [{ v := .iface 48 (.agg #[.int .i64 er, .int .i64 q]), recovered := false }] ∧ w.grownBy w' (some g)
/-- what is read, held against what is to be read -/
def Spec {α : Type} (lo : Nat) (r : R α) (u : ByteArray) (ok : α → Nat → Prop) (bad : Nat → Nat → Prop) : Prop :=
  (∃ a p', lo ≤ p' ∧ p' ≤ u.size ∧ r = .ok a (suf u p') ∧ ok a p') ∨ (∃ e q, q ≤ u.size ∧ r = .bad e (suf u q) ∧ bad e q)

theorem touch_drewN {w w1 : World} {row : Option Nat} (h : w.grownBy w1 row) (n : Nat) : w.grownBy (w1.drewN n) row := ⟨h.os, h.tape, h.output, h.size, h.block⟩
def WrongIs (at_ : Nat) : Prop := ∀ g w, Calls Tryd.prog 49 #[.pointer (some ⟨g, 0, none⟩), .int .i64 at_] w fun e w' => e = .panicked [{ v := .iface 48 (.agg #[.int .i64 60, .int .i64 at_]), recovered := false }] ∧ w' = w
theorem wrong_any (at_ : Nat) : WrongIs at_ := by
  intro g w
  go_enter Tryd.func49, Tryd.ntmps49
  go_wp2
  exact ⟨rfl, rfl, rfl⟩

set_option maxHeartbeats 1000000 in
set_option maxRecDepth 100000 in
theorem step_ok (u : ByteArray) (p : Nat) (hu : u.size ≤ 9223372036854775807) (hin : p < u.size) : OkV 88 [] u p (.int .u8 u[p].toNat) (p + 1) := by
  intro g op w h
  have c0 := h.c0
  have c1 := h.c1
  have f1 := h.fz 1
  have hne : ((p : Int) == (u.size : Int)) = false := by rw [beq_eq_false_iff_ne]; omega
  have hp1 : p + 1 ≤ 9223372036854775807 := by omega
  have h2 : ∀ n, Rd ((w.drewN n).setCell ⟨g, 1, none⟩ (.int .i64 ((p : Int) + 1))) g u (p + 1) op := fun n => Rd.set1 (w := w.drewN n) h (p + 1)
  have e0 := fun n => (h2 n).c0
  have e1 : ∀ n, ((w.drewN n).setCell ⟨g, 1, none⟩ (.int .i64 ((p : Int) + 1))).cell? ⟨g, 1, none⟩ = some (.int .i64 ((p : Int) + 1)) := fun n => (h2 n).c1
  go_enter Tryd.func88, Tryd.ntmps88
  go_wp2_with (fail)
  go_quiet (fail)
  go_wp2_with (fail)
  go_quiet (fail)
  go_wp2_with (fail)
  go_ret
  exact ⟨rfl, h2 _, touch_drewN (touch_trans (touch_drewN (touch_refl _ _) _) (touch_cell _ _ _ _)) _⟩

set_option maxHeartbeats 1000000 in
set_option maxRecDepth 100000 in
theorem step_bad (u : ByteArray) (hu : u.size ≤ 9223372036854775807) : BadV 88 [] u u.size 60 u.size := by
  intro g op w h
  have c0 := h.c0
  have c1 := h.c1
  have h29 := wrong_any u.size
  go_enter Tryd.func88, Tryd.ntmps88
  go_wp2_with (fail)
  go_quiet (fail)
  go_wp2_with (go_at_call 49; refine (h29 _ _).mono ?_; rintro e w1 ⟨rfl, rfl⟩)
  exact ⟨rfl, rfl, touch_drewN (touch_refl _ _) _⟩

theorem step_any (u : ByteArray) (p : Nat) (hp : p ≤ u.size) (hu : u.size ≤ 9223372036854775807) :
    Spec (p + 1) (step (suf u p)) u (fun c p' => OkV 88 [] u p (.int .u8 c) p') (fun e q => BadV 88 [] u p e q) := by
  by_cases hin : p < u.size
  · exact .inl ⟨u[p].toNat, p + 1, Nat.le_refl _, hin, by rw [suf_in u p hin]; rfl, step_ok u p hu hin⟩
  · obtain rfl : p = u.size := by omega
    exact .inr ⟨60, u.size, Nat.le_refl _, by rw [suf_out u u.size (Nat.le_refl _)]; rfl, step_bad u hu⟩

theorem oneOf_any (s : ByteArray) (u : ByteArray) (p : Nat) (hp : p ≤ u.size) (hu : u.size ≤ 9223372036854775807) :
    Spec (p + 1) (oneOf (codes s) (suf u p)) u (fun c p' => OkV 90 [.string s] u p (.int .u8 c) p') (fun e q => BadV 90 [.string s] u p e q) := by
  have h42 := sees_any u p s hp hu _ rfl
  unfold oneOf
  cases hs : sees (codes s) (suf u p) with
  | false =>
    rw [hs] at h42
    refine .inr ⟨60, p, hp, rfl, ?_⟩
    intro g op w h
    have h29 := wrong_any p
    clear hs
    go_enter Tryd.func90, Tryd.ntmps90
    go_wp2_with (first | (go_at_call 74; refine (h42 _ _ _ h).mono ?_; rintro e w1 ⟨rfl, b1⟩; have r1 := h.later b1; have c1 := r1.c1) | (go_at_call 49; refine (h29 _ _).mono ?_; rintro e w2 ⟨rfl, rfl⟩))
    exact ⟨rfl, rfl, touch_below _ b1⟩
  | true =>
    rw [hs] at h42
    have hin : p < u.size := by
      by_cases hin : p < u.size
      · exact hin
      · rw [suf_out u p (by omega)] at hs; simp [sees] at hs
    refine .inl ⟨u[p].toNat, p + 1, Nat.le_refl _, hin, by rw [suf_in u p hin]; rfl, ?_⟩
    intro g op w h
    have h64 := step_ok u p hu hin
    generalize (u[p].toNat : Int) = z at *
    clear hs
    go_enter Tryd.func90, Tryd.ntmps90
    go_wp2_with (first | (go_at_call 74; refine (h42 _ _ _ h).mono ?_; rintro e w1 ⟨rfl, b1⟩; have r1 := h.later b1) | (go_at_call 88; refine (h64 _ _ _ r1).mono ?_; rintro e w2 ⟨rfl, r2, t2⟩))
    go_ret
    exact ⟨rfl, r2, touch_trans (touch_below _ b1) t2⟩

theorem noneOf_any (s : ByteArray) (u : ByteArray) (p : Nat) (hp : p ≤ u.size) (hu : u.size ≤ 9223372036854775807) :
    Spec (p + 1) (noneOf (codes s) (suf u p)) u (fun c p' => OkV 101 [.string s] u p (.int .u8 c) p') (fun e q => BadV 101 [.string s] u p e q) := by
  have h42 := sees_any u p s hp hu _ rfl
  unfold noneOf
  cases hs : sees (codes s) (suf u p) with
  | true =>
    rw [hs] at h42
    refine .inr ⟨60, p, hp, rfl, ?_⟩
    intro g op w h
    have h29 := wrong_any p
    clear hs
    go_enter Tryd.func101, Tryd.ntmps101
    go_wp2_with (first | (go_at_call 74; refine (h42 _ _ _ h).mono ?_; rintro e w1 ⟨rfl, b1⟩; have r1 := h.later b1; have c1 := r1.c1) | (go_at_call 49; refine (h29 _ _).mono ?_; rintro e w2 ⟨rfl, rfl⟩))
    exact ⟨rfl, rfl, touch_below _ b1⟩
  | false =>
    rw [hs] at h42
    clear hs
    rcases step_any u p hp hu with ⟨c, p', h1, h2, h3, h64⟩ | ⟨e, q, h2, h3, h64⟩
    · refine .inl ⟨c, p', h1, h2, h3, ?_⟩
      clear h3
      intro g op w h
      go_enter Tryd.func101, Tryd.ntmps101
      go_wp2_with (first | (go_at_call 74; refine (h42 _ _ _ h).mono ?_; rintro e w1 ⟨rfl, b1⟩; have r1 := h.later b1) | (go_at_call 88; refine (h64 _ _ _ r1).mono ?_; rintro e w2 ⟨rfl, r2, t2⟩))
      go_ret
      exact ⟨rfl, r2, touch_trans (touch_below _ b1) t2⟩
    · refine .inr ⟨e, q, h2, h3, ?_⟩
      clear h3
      intro g op w h
      go_enter Tryd.func101, Tryd.ntmps101
      go_wp2_with (first | (go_at_call 74; refine (h42 _ _ _ h).mono ?_; rintro e w1 ⟨rfl, b1⟩; have r1 := h.later b1) | (go_at_call 88; refine (h64 _ _ _ r1).mono ?_; rintro e w2 ⟨rfl, t2⟩))
      exact ⟨rfl, rfl, touch_trans (touch_below _ b1) t2⟩

theorem skips_no (s : ByteArray) (u : ByteArray) (p : Nat) (hp : p ≤ u.size) (hu : u.size ≤ 9223372036854775807) (hs : sees (codes s) (suf u p) = false) : OkV 65 [.string s] u p (.bool false) p := by
  have h42 := sees_any u p s hp hu _ rfl
  rw [hs] at h42
  clear hs
  intro g op w h
  go_enter Tryd.func65, Tryd.ntmps65
  go_wp2_with (go_at_call 74; refine (h42 _ _ _ h).mono ?_; rintro e w1 ⟨rfl, b1⟩)
  go_ret
  exact ⟨rfl, h.later b1, touch_below _ b1⟩
theorem sees_lt {s : List Nat} {u : ByteArray} {p : Nat} (hs : sees s (suf u p) = true) : p < u.size := by
  by_cases hin : p < u.size
  · exact hin
  · rw [suf_out u p (by omega)] at hs; simp [sees] at hs
theorem skips_yes (s : ByteArray) (u : ByteArray) (p : Nat) (hu : u.size ≤ 9223372036854775807) (hs : sees (codes s) (suf u p) = true) : OkV 65 [.string s] u p (.bool true) (p + 1) := by
  have hin := sees_lt hs
  have h42 := sees_any u p s (by omega) hu _ rfl
  rw [hs] at h42
  clear hs
  have hp1 : p + 1 ≤ 9223372036854775807 := by omega
  intro g op w h
  go_enter Tryd.func65, Tryd.ntmps65
  go_wp2_with (go_at_call 74; refine (h42 _ _ _ h).mono ?_; rintro e w1 ⟨rfl, b1⟩; have r1 := h.later b1; have c1 := r1.c1; have f1 := r1.fz 1)
  go_ret
  exact ⟨rfl, r1.set1 (p + 1), touch_trans (touch_below _ b1) (touch_cell _ _ _ _)⟩
end Go.Proofs.YtfclidcfhadohaaDoor.st
