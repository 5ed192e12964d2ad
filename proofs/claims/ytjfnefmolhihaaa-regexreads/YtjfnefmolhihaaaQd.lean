/-
  Contracts over this program: a byte behind a backslash, and a point of a class, as the document's reader reads them (fretsawref06's P: one, point; num as a whole).
-/
import Derived.Test.YtjfnefmolhihaaaQc
import Derived.Test.YtjfnefmolhihaaaLc
namespace Go.Proofs.Ytjfnefmolhihaaa.st
open Go.Sort Go.ChangeShapes Go.WideShapes Go.ChangeAt Go.RowKit
set_option linter.unusedVariables false

theorem oneOf_hit {s : List Nat} {u : ByteArray} {i : Nat} (hin : i < u.size) (hs : sees s (suf u i) = true) : oneOf s (suf u i) = .ok u[i].toNat (suf u (i + 1)) := by
  unfold oneOf
  rw [if_pos hs, suf_in u i hin]
  rfl
theorem oneOf_miss {s l : List Nat} (hs : sees s l = false) : oneOf s l = .bad 60 l := by
  unfold oneOf
  rw [hs]
  rfl
theorem num_all (least : Nat) (hl : least ≤ 1000) (u : ByteArray) (i o a : Nat) (hu : u.size ≤ 1000) (hi : i ≤ u.size) :
    Tl 39 [.int .i64 least] (fun n : Nat => .int .i64 n) (· ≤ 20) (· ≤ 99) u i o a (num least (suf u i)) := by
  rw [num_eq]
  cases hs : sees digits (suf u i) with
  | false => exact .inr ⟨60, i, i, 0, by decide, hi, ⟨by omega, hi⟩, by rw [oneOf_miss hs]; rfl, by decide, num_none u i o a hu hi _ hs⟩
  | true =>
    have hin := sees_lt hs
    have hc := digits_range _ (sees_head hin hs)
    obtain ⟨x, hx⟩ : ∃ x, u[i].toNat = 48 + x := ⟨u[i].toNat - 48, by omega⟩
    have hx9 : x ≤ 9 := by omega
    have n0 := now_in u i o a hu hin
    rw [oneOf_hit hin hs]
    simp only [R.then]
    rw [hx] at n0 ⊢
    have n0' : Mv 30 [] u i o 0 a (.int .i64 (48 + (x : Int))) i 0 a := n0
    cases hs1 : sees digits (suf u (i + 1)) with
    | false =>
      have e1 : nval (48 + x) (suf u (i + 1)) = x := by unfold nval; rw [hs1]; simp
      have e2 : nrest (suf u (i + 1)) = suf u (i + 1) := by unfold nrest; rw [hs1]; simp
      rw [e1, e2]
      have n1 := now_any u (i + 1) o a hu hin _ rfl
      have hz : ¬ (48 ≤ hd (suf u (i + 1)) ∧ hd (suf u (i + 1)) ≤ 57) := by rw [hd_digit] at hs1; exact of_decide_eq_false hs1
      by_cases hb : x < least ∨ 20 < x
      · rw [if_pos hb]
        exact .inr ⟨60, i, i + 1, x, by decide, hi, ⟨by omega, hin⟩, rfl, by show x ≤ 99; omega, num1_less u i (i + 1) (i + 2) o a least x (by omega) rfl rfl hx9 hl n0' _ n1 hz (by omega)⟩
      · rw [if_neg hb]
        exact .inl ⟨x, i + 1, by omega, hin, rfl, by show x ≤ 20; omega, num1_ok u i (i + 1) (i + 2) o a least x (by omega) rfl rfl hx9 hl n0' _ n1 hz (by omega)⟩
    | true =>
      have hin1 := sees_lt hs1
      have hc1 := digits_range _ (sees_head hin1 hs1)
      obtain ⟨y, hy⟩ : ∃ y, u[i + 1].toNat = 48 + y := ⟨u[i + 1].toNat - 48, by omega⟩
      have hy9 : y ≤ 9 := by omega
      have n1 := now_in u (i + 1) o a hu hin1
      rw [hy] at n1
      have n1' : Mv 30 [] u (i + 1) o 0 a (.int .i64 (48 + (y : Int))) (i + 1) 0 a := n1
      have e1 : nval (48 + x) (suf u (i + 1)) = 10 * x + y := by unfold nval; rw [hs1, suf_in u (i + 1) hin1, List.headD_cons, hy]; simp
      have e2 : nrest (suf u (i + 1)) = suf u (i + 2) := by unfold nrest; rw [hs1, if_pos rfl, suf_tail u (i + 1) hin1]
      rw [e1, e2]
      by_cases hb : 10 * x + y < least ∨ 20 < 10 * x + y
      · rw [if_pos hb]
        refine .inr ⟨60, i, i + 2, 10 * x + y, by decide, hi, ⟨by omega, hin1⟩, rfl, by show 10 * x + y ≤ 99; omega, ?_⟩
        by_cases h20 : 20 < 10 * x + y
        · exact num2_big u i (i + 1) (i + 2) o a least x y hy9 (by omega) rfl rfl hx9 hl n0' n1' h20
        · exact num2_less u i (i + 1) (i + 2) o a least x y hy9 (by omega) rfl rfl hx9 hl n0' n1' (by omega)
      · rw [if_neg hb]
        exact .inl ⟨10 * x + y, i + 2, by omega, hin1, rfl, by show 10 * x + y ≤ 20; omega, num2_ok u i (i + 1) (i + 2) o a least x y hy9 (by omega) rfl rfl hx9 hl n0' n1' (by omega)⟩

theorem one_n (u : ByteArray) (i j o a : Nat) (hi : i ≤ 1000) (hj : j = i + 1) (n0 : Mv 30 [] u i o 0 a (.int .i64 110) i 0 a) : Mv 49 [] u i o 0 a (.int .u8 10) j 0 a := by
  intro g w h
  have HJ : Hid (j = i + 1) := hj
  clear hj
  unfold Mv at n0
  have T := touch_refl w (some g)
  go_enter Try.func49, Try.ntmps49
  go_wp2_with (first | (go_at_call 30; refine (n0 _ _ (by assumption)).mono ?_; rintro e w1 ⟨rfl, h1, t1⟩; (first | replace T := touch_trans T t1 | replace T := touch_step T t1); have c1 := h1.c1; have f1 := h1.fz 1; have s1 : Pb (w1.setCell ⟨g, 1, none⟩ (.int .i64 ((i : Int) + 1))) g u j o 0 a := by rw [HJ.out]; exact h1.set1 (i + 1)))
  go_ret
  exact ⟨by first | rfl | go_num, by assumption, by first | exact T | exact touch_trans T (touch_cell _ _ _ _)⟩

theorem one_t (u : ByteArray) (i j o a : Nat) (hi : i ≤ 1000) (hj : j = i + 1) (n0 : Mv 30 [] u i o 0 a (.int .i64 116) i 0 a) : Mv 49 [] u i o 0 a (.int .u8 9) j 0 a := by
  intro g w h
  have HJ : Hid (j = i + 1) := hj
  clear hj
  unfold Mv at n0
  have T := touch_refl w (some g)
  go_enter Try.func49, Try.ntmps49
  go_wp2_with (first | (go_at_call 30; refine (n0 _ _ (by assumption)).mono ?_; rintro e w1 ⟨rfl, h1, t1⟩; (first | replace T := touch_trans T t1 | replace T := touch_step T t1); have c1 := h1.c1; have f1 := h1.fz 1; have s1 : Pb (w1.setCell ⟨g, 1, none⟩ (.int .i64 ((i : Int) + 1))) g u j o 0 a := by rw [HJ.out]; exact h1.set1 (i + 1)))
  go_ret
  exact ⟨by first | rfl | go_num, by assumption, by first | exact T | exact touch_trans T (touch_cell _ _ _ _)⟩

theorem one_r (u : ByteArray) (i j o a : Nat) (hi : i ≤ 1000) (hj : j = i + 1) (n0 : Mv 30 [] u i o 0 a (.int .i64 114) i 0 a) : Mv 49 [] u i o 0 a (.int .u8 13) j 0 a := by
  intro g w h
  have HJ : Hid (j = i + 1) := hj
  clear hj
  unfold Mv at n0
  have T := touch_refl w (some g)
  go_enter Try.func49, Try.ntmps49
  go_wp2_with (first | (go_at_call 30; refine (n0 _ _ (by assumption)).mono ?_; rintro e w1 ⟨rfl, h1, t1⟩; (first | replace T := touch_trans T t1 | replace T := touch_step T t1); have c1 := h1.c1; have f1 := h1.fz 1; have s1 : Pb (w1.setCell ⟨g, 1, none⟩ (.int .i64 ((i : Int) + 1))) g u j o 0 a := by rw [HJ.out]; exact h1.set1 (i + 1)))
  go_ret
  exact ⟨by first | rfl | go_num, by assumption, by first | exact T | exact touch_trans T (touch_cell _ _ _ _)⟩

theorem one_sign (u : ByteArray) (i j o a c : Nat) (hc : c < 256) (hi : i ≤ 1000) (hj : j = i + 1) (n0 : Mv 30 [] u i o 0 a (.int .i64 c) i 0 a) (hn110 : (c : Int) ≠ 110) (hn116 : (c : Int) ≠ 116) (hn114 : (c : Int) ≠ 114) (hn120 : (c : Int) ≠ 120) (sg : SignIs c true) : Mv 49 [] u i o 0 a (.int .u8 c) j 0 a := by
  intro g w h
  have HJ : Hid (j = i + 1) := hj
  have f110 : ((c : Int) == 110) = false := by rw [beq_eq_false_iff_ne]; exact hn110
  have f116 : ((c : Int) == 116) = false := by rw [beq_eq_false_iff_ne]; exact hn116
  have f114 : ((c : Int) == 114) = false := by rw [beq_eq_false_iff_ne]; exact hn114
  have f120 : ((c : Int) == 120) = false := by rw [beq_eq_false_iff_ne]; exact hn120
  clear hn110 hn116 hn114 hn120
  clear hj
  unfold Mv at n0
  unfold SignIs at sg
  have T := touch_refl w (some g)
  go_enter Try.func49, Try.ntmps49
  go_wp2_with (first | (go_at_call 30; refine (n0 _ _ (by assumption)).mono ?_; rintro e w1 ⟨rfl, h1, t1⟩; (first | replace T := touch_trans T t1 | replace T := touch_step T t1)) | (go_at_call 50; (with_reducible refine (sg _).mono ?_); rintro e w6 ⟨rfl, b6⟩; have h1 := (by assumption : Pb _ g u i o _ _).later b6; have c1 := h1.c1; have f1 := h1.fz 1; (replace T := touch_trans T (touch_below _ b6)); have s1 : Pb (w6.setCell ⟨g, 1, none⟩ (.int .i64 ((i : Int) + 1))) g u j o 0 a := by rw [HJ.out]; exact h1.set1 (i + 1)))
  go_ret
  exact ⟨by first | rfl | go_num, by assumption, by first | exact T | exact touch_trans T (touch_cell _ _ _ _)⟩

theorem one_45 (u : ByteArray) (i j o a : Nat) (hi : i ≤ 1000) (hj : j = i + 1) (n0 : Mv 30 [] u i o 0 a (.int .i64 45) i 0 a) (sg : SignIs 45 false) : Mv 49 [] u i o 0 a (.int .u8 45) j 0 a := by
  intro g w h
  have HJ : Hid (j = i + 1) := hj
  clear hj
  unfold Mv at n0
  unfold SignIs at sg
  have T := touch_refl w (some g)
  go_enter Try.func49, Try.ntmps49
  go_wp2_with (first | (go_at_call 30; refine (n0 _ _ (by assumption)).mono ?_; rintro e w1 ⟨rfl, h1, t1⟩; (first | replace T := touch_trans T t1 | replace T := touch_step T t1)) | (go_at_call 50; (with_reducible refine (sg _).mono ?_); rintro e w6 ⟨rfl, b6⟩; have h1 := (by assumption : Pb _ g u i o _ _).later b6; have c1 := h1.c1; have f1 := h1.fz 1; (replace T := touch_trans T (touch_below _ b6)); have s1 : Pb (w6.setCell ⟨g, 1, none⟩ (.int .i64 ((i : Int) + 1))) g u j o 0 a := by rw [HJ.out]; exact h1.set1 (i + 1)))
  go_ret
  exact ⟨by first | rfl | go_num, by assumption, by first | exact T | exact touch_trans T (touch_cell _ _ _ _)⟩

theorem one_47 (u : ByteArray) (i j o a : Nat) (hi : i ≤ 1000) (hj : j = i + 1) (n0 : Mv 30 [] u i o 0 a (.int .i64 47) i 0 a) (sg : SignIs 47 false) : Mv 49 [] u i o 0 a (.int .u8 47) j 0 a := by
  intro g w h
  have HJ : Hid (j = i + 1) := hj
  clear hj
  unfold Mv at n0
  unfold SignIs at sg
  have T := touch_refl w (some g)
  go_enter Try.func49, Try.ntmps49
  go_wp2_with (first | (go_at_call 30; refine (n0 _ _ (by assumption)).mono ?_; rintro e w1 ⟨rfl, h1, t1⟩; (first | replace T := touch_trans T t1 | replace T := touch_step T t1)) | (go_at_call 50; (with_reducible refine (sg _).mono ?_); rintro e w6 ⟨rfl, b6⟩; have h1 := (by assumption : Pb _ g u i o _ _).later b6; have c1 := h1.c1; have f1 := h1.fz 1; (replace T := touch_trans T (touch_below _ b6)); have s1 : Pb (w6.setCell ⟨g, 1, none⟩ (.int .i64 ((i : Int) + 1))) g u j o 0 a := by rw [HJ.out]; exact h1.set1 (i + 1)))
  go_ret
  exact ⟨by first | rfl | go_num, by assumption, by first | exact T | exact touch_trans T (touch_cell _ _ _ _)⟩

theorem one_no (u : ByteArray) (i o a : Nat) (z : Int) (hi : i ≤ 1000) (n0 : Mv 30 [] u i o 0 a (.int .i64 z) i 0 a) (hn110 : (z : Int) ≠ 110) (hn116 : (z : Int) ≠ 116) (hn114 : (z : Int) ≠ 114) (hn120 : (z : Int) ≠ 120) (hn45 : z ≠ 45) (hn47 : z ≠ 47) (sg : SignIs z false) : Mv 49 [] u i o 0 a (.int .u8 0) i 60 i := by
  intro g w h
  have f110 : ((z : Int) == 110) = false := by rw [beq_eq_false_iff_ne]; exact hn110
  have f116 : ((z : Int) == 116) = false := by rw [beq_eq_false_iff_ne]; exact hn116
  have f114 : ((z : Int) == 114) = false := by rw [beq_eq_false_iff_ne]; exact hn114
  have f120 : ((z : Int) == 120) = false := by rw [beq_eq_false_iff_ne]; exact hn120
  have f45 : (z != 45) = true := by rw [bne_iff_ne]; exact hn45
  have f47 : (z != 47) = true := by rw [bne_iff_ne]; exact hn47
  clear hn110 hn116 hn114 hn120

  have s0 := stop_first u i o a 60 i
  unfold Mv at n0 s0
  unfold SignIs at sg
  have T := touch_refl w (some g)
  go_enter Try.func49, Try.ntmps49
  go_wp2_with (first | (go_at_call 30; refine (n0 _ _ (by assumption)).mono ?_; rintro e w1 ⟨rfl, h1, t1⟩; (first | replace T := touch_trans T t1 | replace T := touch_step T t1)) | (go_at_call 50; (with_reducible refine (sg _).mono ?_); rintro e w6 ⟨rfl, b6⟩; have h1 := (by assumption : Pb _ g u i o _ _).later b6; have c1 := h1.c1; have f1 := h1.fz 1; (replace T := touch_trans T (touch_below _ b6))) | (go_at_call 14; refine (s0 _ _ (by assumption)).mono ?_; rintro e w1 ⟨rfl, h1, t1⟩; (first | replace T := touch_trans T t1 | replace T := touch_step T t1)))
  go_ret
  exact ⟨by first | rfl | go_num, by assumption, by first | exact T | exact touch_trans T (touch_cell _ _ _ _)⟩

theorem one_dead (u : ByteArray) (i o b a : Nat) (hb : b ≠ 0) : Mv 49 [] u i o b a (.int .u8 0) i b a := by
  intro g w h
  have n0 := now_dead u i o b a hb
  have sg := sign_any (-1) false (by decide)
  have s0 := stop_dead u i o b a (.int .i64 60) (.int .i64 i) hb
  unfold Mv at n0 s0
  unfold SignIs at sg
  have T := touch_refl w (some g)
  go_enter Try.func49, Try.ntmps49
  go_wp2_with (first | (go_at_call 30; refine (n0 _ _ (by assumption)).mono ?_; rintro e w1 ⟨rfl, h1, t1⟩; (first | replace T := touch_trans T t1 | replace T := touch_step T t1)) | (go_at_call 50; (with_reducible refine (sg _).mono ?_); rintro e w6 ⟨rfl, b6⟩; have h1 := (by assumption : Pb _ g u i o _ _).later b6; have c1 := h1.c1; have f1 := h1.fz 1; (replace T := touch_trans T (touch_below _ b6))) | (go_at_call 14; refine (s0 _ _ (by assumption)).mono ?_; rintro e w1 ⟨rfl, h1, t1⟩; (first | replace T := touch_trans T t1 | replace T := touch_step T t1)))
  go_ret
  exact ⟨by first | rfl | go_num, by assumption, by first | exact T | exact touch_trans T (touch_cell _ _ _ _)⟩

set_option maxHeartbeats 1000000 in
theorem one_x0 (u : ByteArray) (i j k m o a x1 x2 : Nat) (z1 z2 : Int) (hx1 : x1 ≤ 15) (hx2 : x2 ≤ 15) (hi : i ≤ 1000) (hj : j = i + 1) (hk : k = j + 1) (hm : m = k + 1) (n0 : Mv 30 [] u i o 0 a (.int .i64 120) i 0 a) (n1 : Mv 30 [] u j o 0 a (.int .i64 z1) j 0 a) (x0 : HexIs z1 (-1)) : Mv 49 [] u i o 0 a (.int .u8 0) j 60 j := by
  intro g w h
  have HJ : Hid (j = i + 1) := hj
  have HK : Hid (k = j + 1) := hk
  have HM : Hid (m = k + 1) := hm
  have hj1 : j ≤ 1001 := by omega
  have hk1 : k ≤ 1002 := by omega
  clear hj hk hm
  have s0 := stop_first u j o a 60 j
  unfold Mv at s0
  unfold Mv at n0 n1
  unfold HexIs at x0
  have T := touch_refl w (some g)
  go_enter Try.func49, Try.ntmps49
  go_wp2_with (first | (go_at_call 30; refine (n0 _ _ (by assumption)).mono ?_; rintro e w1 ⟨rfl, h1, t1⟩; (first | replace T := touch_trans T t1 | replace T := touch_step T t1); have c1 := h1.c1; have f1 := h1.fz 1; have s1 : Pb (w1.setCell ⟨g, 1, none⟩ (.int .i64 ((i : Int) + 1))) g u j o 0 a := by rw [HJ.out]; exact h1.set1 (i + 1)))
  go_loopw [4, 5] (fun v x wr => w.grownBy wr (some g) ∧ ((v = .int .i64 0 ∧ x = .int .i64 0 ∧ Pb wr g u j o 0 a))) (fun _ x _ => 2 - (intOf x).toNat)
  case atStart => exact ⟨touch_trans T (touch_cell _ _ _ _), by first | exact ⟨rfl, rfl, by assumption⟩ | exact .inl ⟨rfl, rfl, by assumption⟩⟩
  case round =>
    clear T
    obtain ⟨T, ⟨rfl, rfl, hP⟩⟩ := hrel
    · go_wp2_with (first | (go_at_call 30; refine (n1 _ _ (by assumption)).mono ?_; rintro e w1 ⟨rfl, h1, t1⟩; (first | replace T := touch_trans T t1 | replace T := touch_step T t1); have c1 := h1.c1; have f1 := h1.fz 1; have s1 : Pb (w1.setCell ⟨g, 1, none⟩ (.int .i64 ((j : Int) + 1))) g u k o 0 a := by rw [HK.out]; exact h1.set1 (j + 1)) | (go_at_call 60; (with_reducible refine (x0 _).mono ?_); rintro e w5 ⟨rfl, hw5⟩; obtain rfl := hw5.symm) | (go_at_call 14; refine (s0 _ _ (by assumption)).mono ?_; rintro e w1 ⟨rfl, h1, t1⟩; (first | replace T := touch_trans T t1 | replace T := touch_step T t1)))
      go_ret
      exact ⟨by first | rfl | go_num, by assumption, by first | exact T | exact touch_trans T (touch_cell _ _ _ _)⟩

set_option maxHeartbeats 1000000 in
theorem one_x1 (u : ByteArray) (i j k m o a x1 x2 : Nat) (z1 z2 : Int) (hx1 : x1 ≤ 15) (hx2 : x2 ≤ 15) (hi : i ≤ 1000) (hj : j = i + 1) (hk : k = j + 1) (hm : m = k + 1) (n0 : Mv 30 [] u i o 0 a (.int .i64 120) i 0 a) (n1 : Mv 30 [] u j o 0 a (.int .i64 z1) j 0 a) (y1 : HexIs z1 x1) (n2 : Mv 30 [] u k o 0 a (.int .i64 z2) k 0 a) (x0 : HexIs z2 (-1)) : Mv 49 [] u i o 0 a (.int .u8 0) k 60 k := by
  intro g w h
  have HJ : Hid (j = i + 1) := hj
  have HK : Hid (k = j + 1) := hk
  have HM : Hid (m = k + 1) := hm
  have hj1 : j ≤ 1001 := by omega
  have hk1 : k ≤ 1002 := by omega
  clear hj hk hm
  have s0 := stop_first u k o a 60 k
  unfold Mv at s0
  unfold Mv at n0 n1 n2
  unfold HexIs at y1 x0
  have T := touch_refl w (some g)
  go_enter Try.func49, Try.ntmps49
  go_wp2_with (first | (go_at_call 30; refine (n0 _ _ (by assumption)).mono ?_; rintro e w1 ⟨rfl, h1, t1⟩; (first | replace T := touch_trans T t1 | replace T := touch_step T t1); have c1 := h1.c1; have f1 := h1.fz 1; have s1 : Pb (w1.setCell ⟨g, 1, none⟩ (.int .i64 ((i : Int) + 1))) g u j o 0 a := by rw [HJ.out]; exact h1.set1 (i + 1)))
  go_loopw [4, 5] (fun v x wr => w.grownBy wr (some g) ∧ ((v = .int .i64 0 ∧ x = .int .i64 0 ∧ Pb wr g u j o 0 a) ∨ (v = .int .i64 x1 ∧ x = .int .i64 1 ∧ Pb wr g u k o 0 a))) (fun _ x _ => 2 - (intOf x).toNat)
  case atStart => exact ⟨touch_trans T (touch_cell _ _ _ _), by first | exact ⟨rfl, rfl, by assumption⟩ | exact .inl ⟨rfl, rfl, by assumption⟩⟩
  case round =>
    clear T
    obtain ⟨T, ⟨rfl, rfl, hP⟩ | ⟨rfl, rfl, hP⟩⟩ := hrel
    · go_wp2_with (first | (go_at_call 30; refine (n1 _ _ (by assumption)).mono ?_; rintro e w1 ⟨rfl, h1, t1⟩; (first | replace T := touch_trans T t1 | replace T := touch_step T t1); have c1 := h1.c1; have f1 := h1.fz 1; have s1 : Pb (w1.setCell ⟨g, 1, none⟩ (.int .i64 ((j : Int) + 1))) g u k o 0 a := by rw [HK.out]; exact h1.set1 (j + 1)) | (go_at_call 30; refine (n2 _ _ (by assumption)).mono ?_; rintro e w1 ⟨rfl, h1, t1⟩; (first | replace T := touch_trans T t1 | replace T := touch_step T t1); have c1 := h1.c1; have f1 := h1.fz 1; have s1 : Pb (w1.setCell ⟨g, 1, none⟩ (.int .i64 ((k : Int) + 1))) g u m o 0 a := by rw [HM.out]; exact h1.set1 (k + 1)) | (go_at_call 60; (with_reducible refine (y1 _).mono ?_); rintro e w5 ⟨rfl, hw5⟩; obtain rfl := hw5.symm) | (go_at_call 60; (with_reducible refine (x0 _).mono ?_); rintro e w5 ⟨rfl, hw5⟩; obtain rfl := hw5.symm) | (go_at_call 14; refine (s0 _ _ (by assumption)).mono ?_; rintro e w1 ⟨rfl, h1, t1⟩; (first | replace T := touch_trans T t1 | replace T := touch_step T t1)))
      go_roundw
      case rel => exact ⟨touch_trans T (touch_cell _ _ _ _), .inr ⟨by first | rfl | go_num, rfl, by assumption⟩⟩
      case measure => simp [intOf]
    · go_wp2_with (first | (go_at_call 30; refine (n1 _ _ (by assumption)).mono ?_; rintro e w1 ⟨rfl, h1, t1⟩; (first | replace T := touch_trans T t1 | replace T := touch_step T t1); have c1 := h1.c1; have f1 := h1.fz 1; have s1 : Pb (w1.setCell ⟨g, 1, none⟩ (.int .i64 ((j : Int) + 1))) g u k o 0 a := by rw [HK.out]; exact h1.set1 (j + 1)) | (go_at_call 30; refine (n2 _ _ (by assumption)).mono ?_; rintro e w1 ⟨rfl, h1, t1⟩; (first | replace T := touch_trans T t1 | replace T := touch_step T t1); have c1 := h1.c1; have f1 := h1.fz 1; have s1 : Pb (w1.setCell ⟨g, 1, none⟩ (.int .i64 ((k : Int) + 1))) g u m o 0 a := by rw [HM.out]; exact h1.set1 (k + 1)) | (go_at_call 60; (with_reducible refine (y1 _).mono ?_); rintro e w5 ⟨rfl, hw5⟩; obtain rfl := hw5.symm) | (go_at_call 60; (with_reducible refine (x0 _).mono ?_); rintro e w5 ⟨rfl, hw5⟩; obtain rfl := hw5.symm) | (go_at_call 14; refine (s0 _ _ (by assumption)).mono ?_; rintro e w1 ⟨rfl, h1, t1⟩; (first | replace T := touch_trans T t1 | replace T := touch_step T t1)))
      go_ret
      exact ⟨by first | rfl | go_num, by assumption, by first | exact T | exact touch_trans T (touch_cell _ _ _ _)⟩

set_option maxHeartbeats 1000000 in
theorem one_x2 (u : ByteArray) (i j k m o a x1 x2 : Nat) (z1 z2 : Int) (hx1 : x1 ≤ 15) (hx2 : x2 ≤ 15) (hi : i ≤ 1000) (hj : j = i + 1) (hk : k = j + 1) (hm : m = k + 1) (n0 : Mv 30 [] u i o 0 a (.int .i64 120) i 0 a) (n1 : Mv 30 [] u j o 0 a (.int .i64 z1) j 0 a) (y1 : HexIs z1 x1) (n2 : Mv 30 [] u k o 0 a (.int .i64 z2) k 0 a) (y2 : HexIs z2 x2) : Mv 49 [] u i o 0 a (.int .u8 ((x1 : Int) * 16 + (x2 : Int))) m 0 a := by
  intro g w h
  have HJ : Hid (j = i + 1) := hj
  have HK : Hid (k = j + 1) := hk
  have HM : Hid (m = k + 1) := hm
  have hj1 : j ≤ 1001 := by omega
  have hk1 : k ≤ 1002 := by omega
  clear hj hk hm
  unfold Mv at n0 n1 n2
  unfold HexIs at y1 y2
  have T := touch_refl w (some g)
  go_enter Try.func49, Try.ntmps49
  go_wp2_with (first | (go_at_call 30; refine (n0 _ _ (by assumption)).mono ?_; rintro e w1 ⟨rfl, h1, t1⟩; (first | replace T := touch_trans T t1 | replace T := touch_step T t1); have c1 := h1.c1; have f1 := h1.fz 1; have s1 : Pb (w1.setCell ⟨g, 1, none⟩ (.int .i64 ((i : Int) + 1))) g u j o 0 a := by rw [HJ.out]; exact h1.set1 (i + 1)))
  go_loopw [4, 5] (fun v x wr => w.grownBy wr (some g) ∧ ((v = .int .i64 0 ∧ x = .int .i64 0 ∧ Pb wr g u j o 0 a) ∨ (v = .int .i64 x1 ∧ x = .int .i64 1 ∧ Pb wr g u k o 0 a) ∨ (v = .int .i64 ((x1 : Int) * 16 + (x2 : Int)) ∧ x = .int .i64 2 ∧ Pb wr g u m o 0 a))) (fun _ x _ => 2 - (intOf x).toNat)
  case atStart => exact ⟨touch_trans T (touch_cell _ _ _ _), by first | exact ⟨rfl, rfl, by assumption⟩ | exact .inl ⟨rfl, rfl, by assumption⟩⟩
  case round =>
    clear T
    obtain ⟨T, ⟨rfl, rfl, hP⟩ | ⟨rfl, rfl, hP⟩ | ⟨rfl, rfl, hP⟩⟩ := hrel
    · go_wp2_with (first | (go_at_call 30; refine (n1 _ _ (by assumption)).mono ?_; rintro e w1 ⟨rfl, h1, t1⟩; (first | replace T := touch_trans T t1 | replace T := touch_step T t1); have c1 := h1.c1; have f1 := h1.fz 1; have s1 : Pb (w1.setCell ⟨g, 1, none⟩ (.int .i64 ((j : Int) + 1))) g u k o 0 a := by rw [HK.out]; exact h1.set1 (j + 1)) | (go_at_call 30; refine (n2 _ _ (by assumption)).mono ?_; rintro e w1 ⟨rfl, h1, t1⟩; (first | replace T := touch_trans T t1 | replace T := touch_step T t1); have c1 := h1.c1; have f1 := h1.fz 1; have s1 : Pb (w1.setCell ⟨g, 1, none⟩ (.int .i64 ((k : Int) + 1))) g u m o 0 a := by rw [HM.out]; exact h1.set1 (k + 1)) | (go_at_call 60; (with_reducible refine (y1 _).mono ?_); rintro e w5 ⟨rfl, hw5⟩; obtain rfl := hw5.symm) | (go_at_call 60; (with_reducible refine (y2 _).mono ?_); rintro e w5 ⟨rfl, hw5⟩; obtain rfl := hw5.symm))
      go_roundw
      case rel => exact ⟨touch_trans T (touch_cell _ _ _ _), .inr (.inl ⟨by first | rfl | go_num, rfl, by assumption⟩)⟩
      case measure => simp [intOf]
    · go_wp2_with (first | (go_at_call 30; refine (n1 _ _ (by assumption)).mono ?_; rintro e w1 ⟨rfl, h1, t1⟩; (first | replace T := touch_trans T t1 | replace T := touch_step T t1); have c1 := h1.c1; have f1 := h1.fz 1; have s1 : Pb (w1.setCell ⟨g, 1, none⟩ (.int .i64 ((j : Int) + 1))) g u k o 0 a := by rw [HK.out]; exact h1.set1 (j + 1)) | (go_at_call 30; refine (n2 _ _ (by assumption)).mono ?_; rintro e w1 ⟨rfl, h1, t1⟩; (first | replace T := touch_trans T t1 | replace T := touch_step T t1); have c1 := h1.c1; have f1 := h1.fz 1; have s1 : Pb (w1.setCell ⟨g, 1, none⟩ (.int .i64 ((k : Int) + 1))) g u m o 0 a := by rw [HM.out]; exact h1.set1 (k + 1)) | (go_at_call 60; (with_reducible refine (y1 _).mono ?_); rintro e w5 ⟨rfl, hw5⟩; obtain rfl := hw5.symm) | (go_at_call 60; (with_reducible refine (y2 _).mono ?_); rintro e w5 ⟨rfl, hw5⟩; obtain rfl := hw5.symm))
      go_roundw
      case rel => exact ⟨touch_trans T (touch_cell _ _ _ _), .inr (.inr ⟨by first | rfl | go_num, rfl, by assumption⟩)⟩
      case measure => simp [intOf]
    · go_wp2_with (first | (go_at_call 30; refine (n1 _ _ (by assumption)).mono ?_; rintro e w1 ⟨rfl, h1, t1⟩; (first | replace T := touch_trans T t1 | replace T := touch_step T t1); have c1 := h1.c1; have f1 := h1.fz 1; have s1 : Pb (w1.setCell ⟨g, 1, none⟩ (.int .i64 ((j : Int) + 1))) g u k o 0 a := by rw [HK.out]; exact h1.set1 (j + 1)) | (go_at_call 30; refine (n2 _ _ (by assumption)).mono ?_; rintro e w1 ⟨rfl, h1, t1⟩; (first | replace T := touch_trans T t1 | replace T := touch_step T t1); have c1 := h1.c1; have f1 := h1.fz 1; have s1 : Pb (w1.setCell ⟨g, 1, none⟩ (.int .i64 ((k : Int) + 1))) g u m o 0 a := by rw [HM.out]; exact h1.set1 (k + 1)) | (go_at_call 60; (with_reducible refine (y1 _).mono ?_); rintro e w5 ⟨rfl, hw5⟩; obtain rfl := hw5.symm) | (go_at_call 60; (with_reducible refine (y2 _).mono ?_); rintro e w5 ⟨rfl, hw5⟩; obtain rfl := hw5.symm))
      go_ret
      exact ⟨by first | rfl | go_num, by assumption, by first | exact T | exact touch_trans T (touch_cell _ _ _ _)⟩
end Go.Proofs.Ytjfnefmolhihaaa.st
