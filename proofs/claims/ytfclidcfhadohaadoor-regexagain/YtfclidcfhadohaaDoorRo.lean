/-
  Contracts over this program: how many times, with both bounds (regex.reader's bounds, times).
-/
import Derived.Test.YtfclidcfhadohaaDoorRn
namespace Go.Proofs.YtfclidcfhadohaaDoor.st
open Go.ChangeShapes Go.WideShapes Go.ChangeAt Go.RowKit
set_option linter.unusedVariables false

set_option maxHeartbeats 4000000 in
set_option maxRecDepth 100000 in
theorem bounds_any (u : ByteArray) (p : Nat) (hp : p ≤ u.size) (hu : u.size ≤ 9223372036854775807) :
    Spec (p + 1) (bounds (suf u p)) u (fun x p' => OkV 89 [] u p (.tuple #[.int .i64 x.1, .int .i64 x.2]) p') (fun e q => BadV 89 [] u p e q) := by
  unfold bounds
  have hn := num_any 0 (by decide) u p hp hu
  have close : ∀ p1, p1 ≤ u.size → Spec (p1 + 1) (oneOf [125] (suf u p1)) u (fun c p' => OkV 90 [.string ⟨#[125]⟩] u p1 (.int .u8 c) p') (fun e q => BadV 90 [.string ⟨#[125]⟩] u p1 e q) := fun p1 h1 => oneOf_any ⟨#[125]⟩ u p1 h1 hu
  rcases hn with ⟨a, p1, k1, k2, k3, ha, h74⟩ | ⟨e, q, k2, k3, h74⟩
  case inr =>
    refine .inr ⟨e, q, k2, by rw [k3]; rfl, ?_⟩
    clear k3
    intro g op w h
    go_enter Tryd.func89, Tryd.ntmps89
    go_wp2_with (go_at_call 95; refine (h74 _ _ _ h).mono ?_; rintro e w1 ⟨rfl, t1⟩)
    exact ⟨rfl, rfl, t1⟩
  rw [k3]
  simp only [R.then]
  clear k3
  replace h74 : ∀ g op w, Rd w g u p op → Calls Tryd.prog 95 #[.pointer (some ⟨g, 0, none⟩), .int .i64 0] w fun e w' => e = .returned (.int .i64 a) ∧ Rd w' g u p1 op ∧ w.grownBy w' (some g) := h74
  cases hs : sees [44] (suf u p1) with
  | false =>
    have h36 := skips_no ⟨#[44]⟩ u p1 k2 hu hs
    simp only [Bool.false_eq_true, if_false]
    clear hs
    rcases close p1 k2 with ⟨c, p2, m1, m2, m3, h68⟩ | ⟨e, q, m2, m3, h68⟩
    · refine .inl ⟨_, p2, by omega, m2, by rw [m3], ?_⟩
      clear m3 close
      intro g op w h
      go_enter Tryd.func89, Tryd.ntmps89
      go_wp2_with (first | (go_at_call 95; (with_reducible refine (h74 _ _ _ h).mono ?_); rintro e w1 ⟨rfl, r1, t1⟩) | (go_at_call 65; refine (h36 _ _ _ r1).mono ?_; rintro e w2 ⟨rfl, r2, t2⟩) | (go_at_call 90; refine (h68 _ _ _ r2).mono ?_; rintro e w3 ⟨rfl, r3, t3⟩))
      refine bodyPost_ret (results_tmp2 rfl _ _ _) rfl ?_
      exact ⟨rfl, r3, touch_trans (touch_trans t1 t2) t3⟩
    · refine .inr ⟨e, q, m2, by rw [m3], ?_⟩
      clear m3 close
      intro g op w h
      go_enter Tryd.func89, Tryd.ntmps89
      go_wp2_with (first | (go_at_call 95; (with_reducible refine (h74 _ _ _ h).mono ?_); rintro e w1 ⟨rfl, r1, t1⟩) | (go_at_call 65; refine (h36 _ _ _ r1).mono ?_; rintro e w2 ⟨rfl, r2, t2⟩) | (go_at_call 90; refine (h68 _ _ _ r2).mono ?_; rintro e w3 ⟨rfl, t3⟩))
      exact ⟨rfl, rfl, touch_trans (touch_trans t1 t2) t3⟩
  | true =>
    have hin := sees_lt hs
    have h36 := skips_yes ⟨#[44]⟩ u p1 hu hs
    simp only [if_true]
    rw [suf_tail u p1 hin]
    clear hs
    have h42 := sees_any u (p1 + 1) ⟨#[48, 49, 50, 51, 52, 53, 54, 55, 56, 57]⟩ hin hu _ rfl
    rw [show codes ⟨#[48, 49, 50, 51, 52, 53, 54, 55, 56, 57]⟩ = digits from rfl] at h42
    cases hs : sees digits (suf u (p1 + 1)) with
    | false =>
      rw [hs] at h42
      simp only [Bool.false_eq_true, if_false]
      clear hs
      rcases close (p1 + 1) hin with ⟨c, p2, m1, m2, m3, h68⟩ | ⟨e, q, m2, m3, h68⟩
      · refine .inl ⟨_, p2, by omega, m2, by rw [m3], ?_⟩
        clear m3 close
        intro g op w h
        go_enter Tryd.func89, Tryd.ntmps89
        go_wp2_with (first | (go_at_call 95; (with_reducible refine (h74 _ _ _ h).mono ?_); rintro e w1 ⟨rfl, r1, t1⟩) | (go_at_call 65; refine (h36 _ _ _ r1).mono ?_; rintro e w2 ⟨rfl, r2, t2⟩) | (go_at_call 74; refine (h42 _ _ _ r2).mono ?_; rintro e w3 ⟨rfl, b3⟩; have r3 := r2.later b3) | (go_at_call 90; refine (h68 _ _ _ r3).mono ?_; rintro e w4 ⟨rfl, r4, t4⟩))
        refine bodyPost_ret (results_tmp2 rfl _ _ _) rfl ?_
        exact ⟨rfl, r4, touch_trans (touch_trans (touch_trans t1 t2) (touch_below _ b3)) t4⟩
      · refine .inr ⟨e, q, m2, by rw [m3], ?_⟩
        clear m3 close
        intro g op w h
        go_enter Tryd.func89, Tryd.ntmps89
        go_wp2_with (first | (go_at_call 95; (with_reducible refine (h74 _ _ _ h).mono ?_); rintro e w1 ⟨rfl, r1, t1⟩) | (go_at_call 65; refine (h36 _ _ _ r1).mono ?_; rintro e w2 ⟨rfl, r2, t2⟩) | (go_at_call 74; refine (h42 _ _ _ r2).mono ?_; rintro e w3 ⟨rfl, b3⟩; have r3 := r2.later b3) | (go_at_call 90; refine (h68 _ _ _ r3).mono ?_; rintro e w4 ⟨rfl, t4⟩))
        exact ⟨rfl, rfl, touch_trans (touch_trans (touch_trans t1 t2) (touch_below _ b3)) t4⟩
    | true =>
      rw [hs] at h42
      simp only [if_true]
      clear hs
      rcases num_any a (by omega) u (p1 + 1) hin hu with ⟨b, p2, m1, m2, m3, hb, g74⟩ | ⟨e, q, m2, m3, g74⟩
      case inr =>
        refine .inr ⟨e, q, m2, by rw [m3], ?_⟩
        clear m3 close
        unfold BadV at g74
        intro g op w h
        go_enter Tryd.func89, Tryd.ntmps89
        go_wp2_with (first | (go_at_call 95; (with_reducible refine (h74 _ _ _ h).mono ?_); rintro e w1 ⟨rfl, r1, t1⟩) | (go_at_call 65; refine (h36 _ _ _ r1).mono ?_; rintro e w2 ⟨rfl, r2, t2⟩) | (go_at_call 74; refine (h42 _ _ _ r2).mono ?_; rintro e w3 ⟨rfl, b3⟩; have r3 := r2.later b3) | (go_at_call 95; (with_reducible refine (g74 _ _ _ r3).mono ?_); rintro e w4 ⟨rfl, t4⟩))
        exact ⟨rfl, rfl, touch_trans (touch_trans (touch_trans t1 t2) (touch_below _ b3)) t4⟩
      rw [m3]
      simp only
      clear m3
      unfold OkV at g74
      rcases close p2 m2 with ⟨c, p3, n1, n2, n3, h68⟩ | ⟨e, q, n2, n3, h68⟩
      · refine .inl ⟨_, p3, by omega, n2, by rw [n3], ?_⟩
        clear n3 close
        intro g op w h
        go_enter Tryd.func89, Tryd.ntmps89
        go_wp2_with (first | (go_at_call 95; (with_reducible refine (h74 _ _ _ h).mono ?_); rintro e w1 ⟨rfl, r1, t1⟩) | (go_at_call 65; refine (h36 _ _ _ r1).mono ?_; rintro e w2 ⟨rfl, r2, t2⟩) | (go_at_call 74; refine (h42 _ _ _ r2).mono ?_; rintro e w3 ⟨rfl, b3⟩; have r3 := r2.later b3) | (go_at_call 95; (with_reducible refine (g74 _ _ _ r3).mono ?_); rintro e w4 ⟨rfl, r4, t4⟩) | (go_at_call 90; refine (h68 _ _ _ r4).mono ?_; rintro e w5 ⟨rfl, r5, t5⟩))
        refine bodyPost_ret (results_tmp2 rfl _ _ _) rfl ?_
        exact ⟨rfl, r5, touch_trans (touch_trans (touch_trans (touch_trans t1 t2) (touch_below _ b3)) t4) t5⟩
      · refine .inr ⟨e, q, n2, by rw [n3], ?_⟩
        clear n3 close
        intro g op w h
        go_enter Tryd.func89, Tryd.ntmps89
        go_wp2_with (first | (go_at_call 95; (with_reducible refine (h74 _ _ _ h).mono ?_); rintro e w1 ⟨rfl, r1, t1⟩) | (go_at_call 65; refine (h36 _ _ _ r1).mono ?_; rintro e w2 ⟨rfl, r2, t2⟩) | (go_at_call 74; refine (h42 _ _ _ r2).mono ?_; rintro e w3 ⟨rfl, b3⟩; have r3 := r2.later b3) | (go_at_call 95; (with_reducible refine (g74 _ _ _ r3).mono ?_); rintro e w4 ⟨rfl, r4, t4⟩) | (go_at_call 90; refine (h68 _ _ _ r4).mono ?_; rintro e w5 ⟨rfl, t5⟩))
        exact ⟨rfl, rfl, touch_trans (touch_trans (touch_trans (touch_trans t1 t2) (touch_below _ b3)) t4) t5⟩

set_option maxHeartbeats 2000000 in
set_option maxRecDepth 100000 in
theorem times_is (u : ByteArray) (p : Nat) (hu : u.size ≤ 9223372036854775807) (hin : p < u.size) :
    Spec (p + 1) (times (suf u p)) u (fun x p' => OkV 83 [] u p (.tuple #[.int .i64 x.1, .int .i64 x.2]) p') (fun e q => BadV 83 [] u p e q) := by
  unfold times
  have h64 := step_ok u p hu hin
  have hlt := u[p].toNat_lt
  rw [suf_in u p hin]
  simp only [step, R.then]
  generalize u[p].toNat = c at *
  by_cases e1 : c = 42
  · subst e1
    refine .inl ⟨(0, -1), p + 1, Nat.le_refl _, hin, rfl, ?_⟩
    intro g op w h
    go_enter Tryd.func83, Tryd.ntmps83
    go_wp2_with (go_at_call 88; refine (h64 _ _ _ h).mono ?_; rintro e w1 ⟨rfl, r1, t1⟩)
    refine bodyPost_ret (results_tmp2 rfl _ _ _) rfl ?_
    exact ⟨rfl, r1, t1⟩
  rw [if_neg e1]
  by_cases e2 : c = 43
  · subst e2
    refine .inl ⟨(1, -1), p + 1, Nat.le_refl _, hin, rfl, ?_⟩
    intro g op w h
    go_enter Tryd.func83, Tryd.ntmps83
    go_wp2_with (go_at_call 88; refine (h64 _ _ _ h).mono ?_; rintro e w1 ⟨rfl, r1, t1⟩)
    refine bodyPost_ret (results_tmp2 rfl _ _ _) rfl ?_
    exact ⟨rfl, r1, t1⟩
  rw [if_neg e2]
  by_cases e3 : c = 63
  · subst e3
    refine .inl ⟨(0, 1), p + 1, Nat.le_refl _, hin, rfl, ?_⟩
    intro g op w h
    go_enter Tryd.func83, Tryd.ntmps83
    go_wp2_with (go_at_call 88; refine (h64 _ _ _ h).mono ?_; rintro e w1 ⟨rfl, r1, t1⟩)
    refine bodyPost_ret (results_tmp2 rfl _ _ _) rfl ?_
    exact ⟨rfl, r1, t1⟩
  rw [if_neg e3]
  have n1 : ((c : Int) == 42) = false := by rw [beq_eq_false_iff_ne]; omega
  have n2 : ((c : Int) == 43) = false := by rw [beq_eq_false_iff_ne]; omega
  have n3 : ((c : Int) == 63) = false := by rw [beq_eq_false_iff_ne]; omega
  clear e1 e2 e3
  rcases bounds_any u (p + 1) hin hu with ⟨x, p2, m1, m2, m3, h65⟩ | ⟨e, q, m2, m3, h65⟩
  · refine .inl ⟨x, p2, by omega, m2, m3, ?_⟩
    clear m3
    intro g op w h
    go_enter Tryd.func83, Tryd.ntmps83
    go_wp2_with (first | (go_at_call 88; refine (h64 _ _ _ h).mono ?_; rintro e w1 ⟨rfl, r1, t1⟩) | (go_at_call 89; refine (h65 _ _ _ r1).mono ?_; rintro e w2 ⟨rfl, r2, t2⟩))
    refine bodyPost_ret (results_tmp2 rfl _ _ _) rfl ?_
    exact ⟨rfl, r2, touch_trans t1 t2⟩
  · refine .inr ⟨e, q, m2, m3, ?_⟩
    clear m3
    intro g op w h
    go_enter Tryd.func83, Tryd.ntmps83
    go_wp2_with (first | (go_at_call 88; refine (h64 _ _ _ h).mono ?_; rintro e w1 ⟨rfl, r1, t1⟩) | (go_at_call 89; refine (h65 _ _ _ r1).mono ?_; rintro e w2 ⟨rfl, t2⟩))
    exact ⟨rfl, rfl, touch_trans t1 t2⟩
end Go.Proofs.YtfclidcfhadohaaDoor.st
