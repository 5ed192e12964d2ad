/-
  Contracts over this program: one byte behind a backslash, a point of a class (regex.reader's hex, one, point).
-/
import Derived.Test.YtfclidcfhadohaaDoorRb
namespace Go.Proofs.YtfclidcfhadohaaDoor.st
open Go.ChangeShapes Go.WideShapes Go.ChangeAt Go.RowKit
set_option linter.unusedVariables false

theorem oneOf_mem {s l l' : List Nat} {c : Nat} (h : oneOf s l = .ok c l') : c ∈ s := by
  unfold oneOf at h
  by_cases hs : sees s l = true
  · rw [if_pos hs] at h
    match l, hs, h with
    | a :: l, hs, h =>
      simp only [step, R.ok.injEq] at h
      obtain ⟨rfl, _⟩ := h
      simpa [sees] using hs
  · rw [if_neg hs] at h; cases h
theorem hexes_range : ∀ c ∈ hexes, (48 ≤ c ∧ c ≤ 57) ∨ (97 ≤ c ∧ c ≤ 102) ∨ (65 ≤ c ∧ c ≤ 70) := by decide
theorem escapes_small : ∀ c ∈ escapes, c < 256 := by decide
theorem hexv_lt {c : Nat} (h : c ∈ hexes) : hexv c < 16 := by
  have := hexes_range c h
  unfold hexv
  split
  · omega
  · split <;> omega

theorem hex_any (u : ByteArray) (p : Nat) (hp : p ≤ u.size) (hu : u.size ≤ 9223372036854775807) :
    Spec (p + 1) (hex (suf u p)) u (fun c p' => c < 16 ∧ OkV 102 [] u p (.int .u8 c) p') (fun e q => BadV 102 [] u p e q) := by
  have h := oneOf_any ⟨#[48, 49, 50, 51, 52, 53, 54, 55, 56, 57, 97, 98, 99, 100, 101, 102, 65, 66, 67, 68, 69, 70]⟩ u p hp hu
  rw [show codes ⟨#[48, 49, 50, 51, 52, 53, 54, 55, 56, 57, 97, 98, 99, 100, 101, 102, 65, 66, 67, 68, 69, 70]⟩ = hexes from rfl] at h
  unfold hex
  rcases h with ⟨c, p', h1, h2, h3, h68⟩ | ⟨e, q, h2, h3, h68⟩
  · have hm := oneOf_mem h3
    have hr := hexes_range c hm
    refine .inl ⟨hexv c, p', h1, h2, by rw [h3]; rfl, hexv_lt hm, ?_⟩
    intro g op w h
    clear h3 hm
    by_cases ha : 97 ≤ c
    · obtain ⟨d, hd⟩ : ∃ d, c = 97 + d := ⟨c - 97, by omega⟩
      have HX : Hid (hexv c = d + 10) := by show _ = _; unfold hexv; rw [if_pos ha]; omega
      go_enter Tryd.func102, Tryd.ntmps102
      go_wp2_with (go_at_call 90; refine (h68 _ _ _ h).mono ?_; rintro e w1 ⟨rfl, r1, t1⟩)
      go_ret
      exact ⟨by rw [HX.out]; go_num, r1, t1⟩
    · by_cases hb : 65 ≤ c
      · have HX : Hid (hexv c = c - 55) := by show _ = _; unfold hexv; rw [if_neg ha, if_pos hb]
        go_enter Tryd.func102, Tryd.ntmps102
        go_wp2_with (go_at_call 90; refine (h68 _ _ _ h).mono ?_; rintro e w1 ⟨rfl, r1, t1⟩)
        go_ret
        exact ⟨by rw [HX.out]; go_num, r1, t1⟩
      · have HX : Hid (hexv c = c - 48) := by show _ = _; unfold hexv; rw [if_neg ha, if_neg hb]
        go_enter Tryd.func102, Tryd.ntmps102
        go_wp2_with (go_at_call 90; refine (h68 _ _ _ h).mono ?_; rintro e w1 ⟨rfl, r1, t1⟩)
        go_ret
        exact ⟨by rw [HX.out]; go_num, r1, t1⟩
  · refine .inr ⟨e, q, h2, by rw [h3]; rfl, ?_⟩
    clear h3
    intro g op w h
    go_enter Tryd.func102, Tryd.ntmps102
    go_wp2_with (go_at_call 90; refine (h68 _ _ _ h).mono ?_; rintro e w1 ⟨rfl, t1⟩)
    exact ⟨rfl, rfl, t1⟩

theorem nib_or : ∀ a : Nat, a < 16 → ∀ b : Nat, b < 16 → bits .or .u8 ((a : Int) * 16) (b : Int) = 16 * (a : Int) + (b : Int) := by decide +kernel
set_option maxHeartbeats 1000000 in
set_option maxRecDepth 100000 in
theorem one_is (u : ByteArray) (p : Nat) (hp : p ≤ u.size) (hu : u.size ≤ 9223372036854775807) :
    Spec (p + 1) (one (suf u p)) u (fun c p' => c < 256 ∧ OkV 100 [] u p (.int .u8 c) p') (fun e q => BadV 100 [] u p e q) := by
  have h := oneOf_any ⟨#[92, 40, 41, 91, 93, 123, 125, 46, 42, 43, 63, 124, 94, 36, 45, 47, 110, 116, 114, 120]⟩ u p hp hu
  rw [show codes ⟨#[92, 40, 41, 91, 93, 123, 125, 46, 42, 43, 63, 124, 94, 36, 45, 47, 110, 116, 114, 120]⟩ = escapes from rfl] at h
  unfold one
  rcases h with ⟨c, p', h1, h2, h3, h68⟩ | ⟨e, q, h2, h3, h68⟩
  · have hm := escapes_small c (oneOf_mem h3)
    rw [h3]
    simp only [R.then]
    clear h3
    by_cases hc1 : c = 110
    · subst hc1
      refine .inl ⟨10, p', h1, h2, rfl, by decide, ?_⟩
      intro g op w h
      go_enter Tryd.func100, Tryd.ntmps100
      go_wp2_with (go_at_call 90; refine (h68 _ _ _ h).mono ?_; rintro e w1 ⟨rfl, r1, t1⟩)
      go_ret
      exact ⟨rfl, r1, t1⟩
    rw [if_neg hc1]
    by_cases hc2 : c = 116
    · subst hc2
      refine .inl ⟨9, p', h1, h2, rfl, by decide, ?_⟩
      intro g op w h
      go_enter Tryd.func100, Tryd.ntmps100
      go_wp2_with (go_at_call 90; refine (h68 _ _ _ h).mono ?_; rintro e w1 ⟨rfl, r1, t1⟩)
      go_ret
      exact ⟨rfl, r1, t1⟩
    rw [if_neg hc2]
    by_cases hc3 : c = 114
    · subst hc3
      refine .inl ⟨13, p', h1, h2, rfl, by decide, ?_⟩
      intro g op w h
      go_enter Tryd.func100, Tryd.ntmps100
      go_wp2_with (go_at_call 90; refine (h68 _ _ _ h).mono ?_; rintro e w1 ⟨rfl, r1, t1⟩)
      go_ret
      exact ⟨rfl, r1, t1⟩
    rw [if_neg hc3]
    by_cases hc4 : c = 120
    · subst hc4
      rw [if_pos rfl]
      rcases hex_any u p' h2 hu with ⟨a, p2, k1, k2, k3, ha, h84⟩ | ⟨e, q, k2, k3, h84⟩
      · rw [k3]
        simp only
        clear k3
        rcases hex_any u p2 k2 hu with ⟨b, p3, m1, m2, m3, hb, g84⟩ | ⟨e, q, m2, m3, g84⟩
        · rw [m3]
          refine .inl ⟨16 * a + b, p3, by omega, m2, rfl, by omega, ?_⟩
          clear m3
          have hor := nib_or a ha b hb
          intro g op w h
          go_enter Tryd.func100, Tryd.ntmps100
          go_wp2_with (first | (go_at_call 90; refine (h68 _ _ _ h).mono ?_; rintro e w1 ⟨rfl, r1, t1⟩) | (go_at_call 102; refine (h84 _ _ _ r1).mono ?_; rintro e w2 ⟨rfl, r2, t2⟩) | (go_at_call 102; refine (g84 _ _ _ r2).mono ?_; rintro e w3 ⟨rfl, r3, t3⟩))
          go_ret
          exact ⟨by simp, r3, touch_trans (touch_trans t1 t2) t3⟩
        · rw [m3]
          refine .inr ⟨e, q, m2, rfl, ?_⟩
          clear m3
          intro g op w h
          go_enter Tryd.func100, Tryd.ntmps100
          go_wp2_with (first | (go_at_call 90; refine (h68 _ _ _ h).mono ?_; rintro e w1 ⟨rfl, r1, t1⟩) | (go_at_call 102; refine (h84 _ _ _ r1).mono ?_; rintro e w2 ⟨rfl, r2, t2⟩) | (go_at_call 102; refine (g84 _ _ _ r2).mono ?_; rintro e w3 ⟨rfl, t3⟩))
          exact ⟨rfl, rfl, touch_trans (touch_trans t1 t2) t3⟩
      · rw [k3]
        refine .inr ⟨e, q, k2, rfl, ?_⟩
        clear k3
        intro g op w h
        go_enter Tryd.func100, Tryd.ntmps100
        go_wp2_with (first | (go_at_call 90; refine (h68 _ _ _ h).mono ?_; rintro e w1 ⟨rfl, r1, t1⟩) | (go_at_call 102; refine (h84 _ _ _ r1).mono ?_; rintro e w2 ⟨rfl, t2⟩))
        exact ⟨rfl, rfl, touch_trans t1 t2⟩
    rw [if_neg hc4]
    refine .inl ⟨c, p', h1, h2, rfl, hm, ?_⟩
    intro g op w h
    have n1 : ((c : Int) == 110) = false := by rw [beq_eq_false_iff_ne]; omega
    have n2 : ((c : Int) == 116) = false := by rw [beq_eq_false_iff_ne]; omega
    have n3 : ((c : Int) == 114) = false := by rw [beq_eq_false_iff_ne]; omega
    have n4 : ((c : Int) == 120) = false := by rw [beq_eq_false_iff_ne]; omega
    clear hc1 hc2 hc3 hc4
    go_enter Tryd.func100, Tryd.ntmps100
    go_wp2_with (go_at_call 90; refine (h68 _ _ _ h).mono ?_; rintro e w1 ⟨rfl, r1, t1⟩)
    go_ret
    exact ⟨rfl, r1, t1⟩
  · refine .inr ⟨e, q, h2, by rw [h3]; rfl, ?_⟩
    clear h3
    intro g op w h
    go_enter Tryd.func100, Tryd.ntmps100
    go_wp2_with (go_at_call 90; refine (h68 _ _ _ h).mono ?_; rintro e w1 ⟨rfl, t1⟩)
    exact ⟨rfl, rfl, t1⟩

theorem noneOf_lt {s : List Nat} {u : ByteArray} {p c : Nat} {l : List Nat} (h : noneOf s (suf u p) = .ok c l) : c < 256 := by
  unfold noneOf at h
  by_cases hs : sees s (suf u p) = true
  · rw [if_pos hs] at h; cases h
  · rw [if_neg hs] at h
    by_cases hin : p < u.size
    · rw [suf_in u p hin] at h
      simp only [step, R.ok.injEq] at h
      rw [← h.1]
      exact u[p].toNat_lt
    · rw [suf_out u p (by omega)] at h
      cases h

theorem point_any (s : ByteArray) (u : ByteArray) (p : Nat) (hp : p ≤ u.size) (hu : u.size ≤ 9223372036854775807) :
    Spec (p + 1) (point (codes s) (suf u p)) u (fun c p' => c < 256 ∧ OkV 94 [.string s] u p (.int .u8 c) p') (fun e q => BadV 94 [.string s] u p e q) := by
  unfold point
  cases hs : sees [92] (suf u p) with
  | true =>
    have h36 := skips_yes ⟨#[92]⟩ u p hu hs
    have hin := sees_lt hs
    rw [suf_tail u p hin]
    simp only [if_true]
    rcases one_is u (p + 1) hin hu with ⟨a, p2, k1, k2, k3, ha, h81⟩ | ⟨e, q, k2, k3, h81⟩
    · refine .inl ⟨a, p2, by omega, k2, k3, ha, ?_⟩
      clear k3 hs
      intro g op w h
      go_enter Tryd.func94, Tryd.ntmps94
      go_wp2_with (first | (go_at_call 65; refine (h36 _ _ _ h).mono ?_; rintro e w1 ⟨rfl, r1, t1⟩) | (go_at_call 100; refine (h81 _ _ _ r1).mono ?_; rintro e w2 ⟨rfl, r2, t2⟩))
      go_ret
      exact ⟨rfl, r2, touch_trans t1 t2⟩
    · refine .inr ⟨e, q, k2, k3, ?_⟩
      clear k3 hs
      intro g op w h
      go_enter Tryd.func94, Tryd.ntmps94
      go_wp2_with (first | (go_at_call 65; refine (h36 _ _ _ h).mono ?_; rintro e w1 ⟨rfl, r1, t1⟩) | (go_at_call 100; refine (h81 _ _ _ r1).mono ?_; rintro e w2 ⟨rfl, t2⟩))
      exact ⟨rfl, rfl, touch_trans t1 t2⟩
  | false =>
    have h36 := skips_no ⟨#[92]⟩ u p hp hu hs
    simp only [Bool.false_eq_true, if_false]
    rcases noneOf_any s u p hp hu with ⟨a, p2, k1, k2, k3, h82⟩ | ⟨e, q, k2, k3, h82⟩
    · refine .inl ⟨a, p2, k1, k2, k3, noneOf_lt k3, ?_⟩
      clear k3 hs
      intro g op w h
      go_enter Tryd.func94, Tryd.ntmps94
      go_wp2_with (first | (go_at_call 65; refine (h36 _ _ _ h).mono ?_; rintro e w1 ⟨rfl, r1, t1⟩) | (go_at_call 101; refine (h82 _ _ _ r1).mono ?_; rintro e w2 ⟨rfl, r2, t2⟩))
      go_ret
      exact ⟨rfl, r2, touch_trans t1 t2⟩
    · refine .inr ⟨e, q, k2, k3, ?_⟩
      clear k3 hs
      intro g op w h
      go_enter Tryd.func94, Tryd.ntmps94
      go_wp2_with (first | (go_at_call 65; refine (h36 _ _ _ h).mono ?_; rintro e w1 ⟨rfl, r1, t1⟩) | (go_at_call 101; refine (h82 _ _ _ r1).mono ?_; rintro e w2 ⟨rfl, t2⟩))
      exact ⟨rfl, rfl, touch_trans t1 t2⟩
end Go.Proofs.YtfclidcfhadohaaDoor.st
