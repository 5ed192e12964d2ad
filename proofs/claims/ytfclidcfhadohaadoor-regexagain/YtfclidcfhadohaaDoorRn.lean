/-
  Contracts over this program: how many times (regex.reader's num, bounds, times).
-/
import Derived.Test.YtfclidcfhadohaaDoorRc
import Derived.Test.YtfclidcfhadohaaDoorRt
namespace Go.Proofs.YtfclidcfhadohaaDoor.st
open Go.ChangeShapes Go.WideShapes Go.ChangeAt Go.RowKit
set_option linter.unusedVariables false

theorem digits_range : ∀ c ∈ digits, 48 ≤ c ∧ c ≤ 57 := by decide
theorem sees_head {s : List Nat} {u : ByteArray} {p : Nat} (hin : p < u.size) (hs : sees s (suf u p) = true) : u[p].toNat ∈ s := by
  rw [suf_in u p hin] at hs
  simpa [sees] using hs

set_option maxHeartbeats 2000000 in
set_option maxRecDepth 100000 in
theorem num_any (least : Nat) (hl : least ≤ 1000) (u : ByteArray) (p : Nat) (hp : p ≤ u.size) (hu : u.size ≤ 9223372036854775807) :
    Spec (p + 1) (num least (suf u p)) u (fun n p' => n ≤ 20 ∧ OkV 95 [.int .i64 least] u p (.int .i64 n) p') (fun e q => BadV 95 [.int .i64 least] u p e q) := by
  have h1 := oneOf_any ⟨#[48, 49, 50, 51, 52, 53, 54, 55, 56, 57]⟩ u p hp hu
  rw [show codes ⟨#[48, 49, 50, 51, 52, 53, 54, 55, 56, 57]⟩ = digits from rfl] at h1
  unfold num
  rcases h1 with ⟨c, p1, k1, k2, k3, h68⟩ | ⟨e, q, k2, k3, h68⟩
  case inr =>
    refine .inr ⟨e, q, k2, by rw [k3]; rfl, ?_⟩
    clear k3
    intro g op w h
    have c1 := h.c1
    go_enter Tryd.func95, Tryd.ntmps95
    go_wp2_with (go_at_call 90; refine (h68 _ _ _ h).mono ?_; rintro e w1 ⟨rfl, t1⟩)
    exact ⟨rfl, rfl, t1⟩
  have hc := digits_range c (oneOf_mem k3)
  obtain ⟨x, hx⟩ : ∃ x, c = 48 + x := ⟨c - 48, by omega⟩
  have hx9 : x ≤ 9 := by omega
  subst hx
  rw [k3]
  simp only [R.then]
  clear k3 hc
  have h42 := sees_any u p1 ⟨#[48, 49, 50, 51, 52, 53, 54, 55, 56, 57]⟩ k2 hu _ rfl
  rw [show codes ⟨#[48, 49, 50, 51, 52, 53, 54, 55, 56, 57]⟩ = digits from rfl] at h42
  have h29 := wrong_any p
  have e1 : 48 + x - 48 = x := by omega
  cases hs : sees digits (suf u p1) with
  | false =>
    rw [hs] at h42
    simp only [Bool.false_eq_true, if_false, e1]
    clear hs
    by_cases hbad : x < least ∨ 20 < x
    · rw [if_pos hbad]
      refine .inr ⟨60, p, hp, rfl, ?_⟩
      have hlt : x < least := by omega
      clear hbad
      intro g op w h
      have c1 := h.c1
      go_enter Tryd.func95, Tryd.ntmps95
      go_wp2_with (first | (go_at_call 90; refine (h68 _ _ _ h).mono ?_; rintro e w1 ⟨rfl, r1, t1⟩) | (go_at_call 74; refine (h42 _ _ _ r1).mono ?_; rintro e w2 ⟨rfl, b2⟩) | (go_at_call 49; refine (h29 _ _).mono ?_; rintro e w3 ⟨rfl, rfl⟩))
      exact ⟨rfl, rfl, touch_trans t1 (touch_below _ b2)⟩
    · rw [if_neg hbad]
      refine .inl ⟨x, p1, k1, k2, rfl, by omega, ?_⟩
      have hge : ¬ x < least := by omega
      have hle : ¬ 20 < x := by omega
      clear hbad
      intro g op w h
      have c1 := h.c1
      go_enter Tryd.func95, Tryd.ntmps95
      go_wp2_with (first | (go_at_call 90; refine (h68 _ _ _ h).mono ?_; rintro e w1 ⟨rfl, r1, t1⟩) | (go_at_call 74; refine (h42 _ _ _ r1).mono ?_; rintro e w2 ⟨rfl, b2⟩))
      go_ret
      exact ⟨by go_num, r1.later b2, touch_trans t1 (touch_below _ b2)⟩
  | true =>
    rw [hs] at h42
    have hin := sees_lt hs
    have hd := digits_range _ (sees_head hin hs)
    have h64 := step_ok u p1 hu hin
    simp only [if_true, e1]
    rw [suf_tail u p1 hin, suf_in u p1 hin, List.headD_cons]
    clear hs
    obtain ⟨y, hy⟩ : ∃ y, u[p1].toNat = 48 + y := ⟨u[p1].toNat - 48, by omega⟩
    rw [hy] at h64 hd ⊢
    have hy9 : y ≤ 9 := by omega
    have e2 : 48 + y - 48 = y := by omega
    rw [e2]
    clear hd hy
    by_cases hbad : 10 * x + y < least ∨ 20 < 10 * x + y
    · rw [if_pos hbad]
      refine .inr ⟨60, p, hp, rfl, ?_⟩
      intro g op w h
      have c1 := h.c1
      by_cases hlt : 10 * x + y < least
      · clear hbad
        go_enter Tryd.func95, Tryd.ntmps95
        go_wp2_with (first | (go_at_call 90; refine (h68 _ _ _ h).mono ?_; rintro e w1 ⟨rfl, r1, t1⟩) | (go_at_call 74; refine (h42 _ _ _ r1).mono ?_; rintro e w2 ⟨rfl, b2⟩; have r2 := r1.later b2) | (go_at_call 88; refine (h64 _ _ _ r2).mono ?_; rintro e w3 ⟨rfl, r3, t3⟩) | (go_at_call 49; refine (h29 _ _).mono ?_; rintro e w4 ⟨rfl, rfl⟩))
        exact ⟨rfl, rfl, touch_trans (touch_trans t1 (touch_below _ b2)) t3⟩
      · have hgt : 20 < 10 * x + y := by omega
        clear hbad
        go_enter Tryd.func95, Tryd.ntmps95
        go_wp2_with (first | (go_at_call 90; refine (h68 _ _ _ h).mono ?_; rintro e w1 ⟨rfl, r1, t1⟩) | (go_at_call 74; refine (h42 _ _ _ r1).mono ?_; rintro e w2 ⟨rfl, b2⟩; have r2 := r1.later b2) | (go_at_call 88; refine (h64 _ _ _ r2).mono ?_; rintro e w3 ⟨rfl, r3, t3⟩) | (go_at_call 49; refine (h29 _ _).mono ?_; rintro e w4 ⟨rfl, rfl⟩))
        exact ⟨rfl, rfl, touch_trans (touch_trans t1 (touch_below _ b2)) t3⟩
    · rw [if_neg hbad]
      refine .inl ⟨10 * x + y, p1 + 1, by omega, hin, rfl, by omega, ?_⟩
      have hge : ¬ 10 * x + y < least := by omega
      have hle : ¬ 20 < 10 * x + y := by omega
      clear hbad
      intro g op w h
      have c1 := h.c1
      go_enter Tryd.func95, Tryd.ntmps95
      go_wp2_with (first | (go_at_call 90; refine (h68 _ _ _ h).mono ?_; rintro e w1 ⟨rfl, r1, t1⟩) | (go_at_call 74; refine (h42 _ _ _ r1).mono ?_; rintro e w2 ⟨rfl, b2⟩; have r2 := r1.later b2) | (go_at_call 88; refine (h64 _ _ _ r2).mono ?_; rintro e w3 ⟨rfl, r3, t3⟩))
      go_ret
      exact ⟨by go_num, r3, touch_trans (touch_trans t1 (touch_below _ b2)) t3⟩
end Go.Proofs.YtfclidcfhadohaaDoor.st
