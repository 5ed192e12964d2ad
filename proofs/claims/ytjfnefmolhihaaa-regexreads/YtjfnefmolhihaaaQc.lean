/-
  Contracts over this program: numbers and bytes that the document's reader reads (fretsawref06's P: num, one, point).
-/
import Derived.Test.YtjfnefmolhihaaaQb
import Derived.Test.YtjfnefmolhihaaaRn
namespace Go.Proofs.Ytjfnefmolhihaaa.st
open Go.Sort Go.ChangeShapes Go.WideShapes Go.ChangeAt Go.RowKit
set_option linter.unusedVariables false

theorem touch_step {w w1 w2 : World} {g k : Nat} {x : Value} (T : w.grownBy w1 (some g)) (t : (w1.setCell ⟨g, k, none⟩ x).grownBy w2 (some g)) : w.grownBy w2 (some g) := touch_trans (touch_trans T (touch_cell _ _ _ _)) t

/-- what the document's reader reads, held against what is to be read -/
def Tl {α : Type} (f : Nat) (x : List Value) (val : α → Value) (good junk : α → Prop) (u : ByteArray) (i o a : Nat) (r : R α) : Prop :=
  (∃ z i', i ≤ i' ∧ i' ≤ u.size ∧ r = .ok z (suf u i') ∧ good z ∧ Mv f x u i o 0 a (val z) i' 0 a) ∨
  (∃ e q i' z, e ≠ 0 ∧ q ≤ u.size ∧ (i ≤ i' ∧ i' ≤ u.size) ∧ r = .bad e (suf u q) ∧ junk z ∧ Mv f x u i o 0 a (val z) i' e q)

theorem hd_digit (l : List Nat) : sees digits l = decide (48 ≤ hd l ∧ hd l ≤ 57) := by
  cases l with
  | nil => simp [sees, hd]
  | cons c l =>
    have e : hd (c :: l) = (c : Int) := rfl
    rw [e, show sees digits (c :: l) = decide (c ∈ digits) from rfl, decide_eq_decide]
    constructor
    · intro h; have := digits_range c h; omega
    · intro h
      have h1 : 48 ≤ c := by omega
      have h2 : c ≤ 57 := by omega
      have : c = 48 ∨ c = 49 ∨ c = 50 ∨ c = 51 ∨ c = 52 ∨ c = 53 ∨ c = 54 ∨ c = 55 ∨ c = 56 ∨ c = 57 := by omega
      rcases this with rfl | rfl | rfl | rfl | rfl | rfl | rfl | rfl | rfl | rfl <;> decide

theorem num_dead (u : ByteArray) (i o b a : Nat) (hb : b ≠ 0) (v : Value) : Mv 39 [v] u i o b a (.int .i64 0) i b a := by
  intro g w h
  have c3 := h.c3
  have hne : ((b : Int) == 0) = false := by rw [beq_eq_false_iff_ne]; omega
  go_enter Try.func39, Try.ntmps39
  go_wp2
  go_ret
  exact ⟨rfl, h, touch_refl _ _⟩
theorem num_none (u : ByteArray) (i o a : Nat) (hu : u.size ≤ 1000) (hi : i ≤ u.size) (v : Value) (hs : sees digits (suf u i) = false) : Mv 39 [v] u i o 0 a (.int .i64 0) i 60 i := by
  intro g w h
  have n0 := now_any u i o a hu hi _ rfl
  have d0 := digit_any _ false (by rw [← hs, hd_digit (suf u i)])
  have s0 := stop_first u i o a 60 i
  generalize hd (suf u i) = z at *
  have c3 := h.c3
  have c1 := h.c1
  have T := touch_refl w (some g)
  clear hs
  unfold Mv at n0 s0
  unfold DigIs at d0
  go_enter Try.func39, Try.ntmps39
  go_wp2_with (first | (go_at_call 30; refine (n0 _ _ (by assumption)).mono ?_; rintro e w1 ⟨rfl, h1, t1⟩; (first | replace T := touch_trans T t1 | replace T := touch_step T t1)) | (go_at_call 51; (with_reducible refine (d0 _).mono ?_); rintro e w5 ⟨rfl, hw5⟩; obtain rfl := hw5.symm) | (go_at_call 14; refine (s0 _ _ (by assumption)).mono ?_; rintro e w1 ⟨rfl, h1, t1⟩; (first | replace T := touch_trans T t1 | replace T := touch_step T t1)))
  go_ret
  exact ⟨rfl, by assumption, T⟩

set_option maxHeartbeats 1000000 in
theorem num1_ok (u : ByteArray) (i j k o a least x : Nat) (hi : i ≤ 1000) (hj : j = i + 1) (hk : k = j + 1) (hx : x ≤ 9) (hle : least ≤ 1000)
    (n0 : Mv 30 [] u i o 0 a (.int .i64 (48 + (x : Int))) i 0 a) (z : Int) (n1 : Mv 30 [] u j o 0 a (.int .i64 z) j 0 a) (hz : ¬ (48 ≤ z ∧ z ≤ 57)) (hr : x ≤ 20 ∧ least ≤ x) : Mv 39 [.int .i64 least] u i o 0 a (.int .i64 (x : Nat)) j 0 a := by
  intro g w h
  have HJ : Hid (j = i + 1) := hj
  have HK : Hid (k = j + 1) := hk
  have hj1 : j ≤ 1001 := by omega
  clear hj hk
  have d0 := digit_any (48 + (x : Int)) true (by rw [decide_eq_true]; omega)
  have d1 := digit_any z false (by rw [decide_eq_false hz])
  clear hz
  have s0 := stop_first u j o a 60 i
  have r1 : ¬ 20 < x := by omega
  have r2 : ¬ x < least := by omega
  clear hr
  have c3 := h.c3
  have c1 := h.c1
  have T := touch_refl w (some g)
  unfold Mv at n0 n1 s0
  unfold DigIs at d0 d1
  go_enter Try.func39, Try.ntmps39
  go_wp2_with (first | (go_at_call 30; refine (n0 _ _ (by assumption)).mono ?_; rintro e w1 ⟨rfl, h1, t1⟩; (first | replace T := touch_trans T t1 | replace T := touch_step T t1); have c1 := h1.c1; have f1 := h1.fz 1; have s1 : Pb (w1.setCell ⟨g, 1, none⟩ (.int .i64 ((i : Int) + 1))) g u j o 0 a := by rw [HJ.out]; exact h1.set1 (i + 1)) | (go_at_call 30; refine (n1 _ _ (by assumption)).mono ?_; rintro e w1 ⟨rfl, h1, t1⟩; (first | replace T := touch_trans T t1 | replace T := touch_step T t1); have c1 := h1.c1; have f1 := h1.fz 1; have s1 : Pb (w1.setCell ⟨g, 1, none⟩ (.int .i64 ((j : Int) + 1))) g u k o 0 a := by rw [HK.out]; exact h1.set1 (j + 1)) | (go_at_call 51; (with_reducible refine (d0 _).mono ?_); rintro e w5 ⟨rfl, hw5⟩; obtain rfl := hw5.symm) | (go_at_call 51; (with_reducible refine (d1 _).mono ?_); rintro e w5 ⟨rfl, hw5⟩; obtain rfl := hw5.symm) | (go_at_call 14; refine (s0 _ _ (by assumption)).mono ?_; rintro e w1 ⟨rfl, h1, t1⟩; (first | replace T := touch_trans T t1 | replace T := touch_step T t1)))
  go_ret
  exact ⟨by go_num, by assumption, by first | exact T | exact touch_trans T (touch_cell _ _ _ _)⟩

set_option maxHeartbeats 1000000 in
theorem num1_less (u : ByteArray) (i j k o a least x : Nat) (hi : i ≤ 1000) (hj : j = i + 1) (hk : k = j + 1) (hx : x ≤ 9) (hle : least ≤ 1000)
    (n0 : Mv 30 [] u i o 0 a (.int .i64 (48 + (x : Int))) i 0 a) (z : Int) (n1 : Mv 30 [] u j o 0 a (.int .i64 z) j 0 a) (hz : ¬ (48 ≤ z ∧ z ≤ 57)) (hr : x ≤ 20 ∧ x < least) : Mv 39 [.int .i64 least] u i o 0 a (.int .i64 (x : Nat)) j 60 i := by
  intro g w h
  have HJ : Hid (j = i + 1) := hj
  have HK : Hid (k = j + 1) := hk
  have hj1 : j ≤ 1001 := by omega
  clear hj hk
  have d0 := digit_any (48 + (x : Int)) true (by rw [decide_eq_true]; omega)
  have d1 := digit_any z false (by rw [decide_eq_false hz])
  clear hz
  have s0 := stop_first u j o a 60 i
  have r1 : ¬ 20 < x := by omega
  have r2 : x < least := hr.2
  clear hr
  have c3 := h.c3
  have c1 := h.c1
  have T := touch_refl w (some g)
  unfold Mv at n0 n1 s0
  unfold DigIs at d0 d1
  go_enter Try.func39, Try.ntmps39
  go_wp2_with (first | (go_at_call 30; refine (n0 _ _ (by assumption)).mono ?_; rintro e w1 ⟨rfl, h1, t1⟩; (first | replace T := touch_trans T t1 | replace T := touch_step T t1); have c1 := h1.c1; have f1 := h1.fz 1; have s1 : Pb (w1.setCell ⟨g, 1, none⟩ (.int .i64 ((i : Int) + 1))) g u j o 0 a := by rw [HJ.out]; exact h1.set1 (i + 1)) | (go_at_call 30; refine (n1 _ _ (by assumption)).mono ?_; rintro e w1 ⟨rfl, h1, t1⟩; (first | replace T := touch_trans T t1 | replace T := touch_step T t1); have c1 := h1.c1; have f1 := h1.fz 1; have s1 : Pb (w1.setCell ⟨g, 1, none⟩ (.int .i64 ((j : Int) + 1))) g u k o 0 a := by rw [HK.out]; exact h1.set1 (j + 1)) | (go_at_call 51; (with_reducible refine (d0 _).mono ?_); rintro e w5 ⟨rfl, hw5⟩; obtain rfl := hw5.symm) | (go_at_call 51; (with_reducible refine (d1 _).mono ?_); rintro e w5 ⟨rfl, hw5⟩; obtain rfl := hw5.symm) | (go_at_call 14; refine (s0 _ _ (by assumption)).mono ?_; rintro e w1 ⟨rfl, h1, t1⟩; (first | replace T := touch_trans T t1 | replace T := touch_step T t1)))
  go_ret
  exact ⟨by go_num, by assumption, by first | exact T | exact touch_trans T (touch_cell _ _ _ _)⟩

set_option maxHeartbeats 1000000 in
theorem num2_ok (u : ByteArray) (i j k o a least x : Nat) (y : Nat) (hy : y ≤ 9) (hi : i ≤ 1000) (hj : j = i + 1) (hk : k = j + 1) (hx : x ≤ 9) (hle : least ≤ 1000)
    (n0 : Mv 30 [] u i o 0 a (.int .i64 (48 + (x : Int))) i 0 a) (n1 : Mv 30 [] u j o 0 a (.int .i64 (48 + (y : Int))) j 0 a) (hr : (10 * x + y) ≤ 20 ∧ least ≤ (10 * x + y)) : Mv 39 [.int .i64 least] u i o 0 a (.int .i64 ((10 * x + y) : Nat)) k 0 a := by
  intro g w h
  have HJ : Hid (j = i + 1) := hj
  have HK : Hid (k = j + 1) := hk
  have hj1 : j ≤ 1001 := by omega
  clear hj hk
  have d0 := digit_any (48 + (x : Int)) true (by rw [decide_eq_true]; omega)
  have d1 := digit_any (48 + (y : Int)) true (by rw [decide_eq_true]; omega)
  have s0 := stop_first u k o a 60 i
  have r1 : ¬ 20 < (10 * x + y) := by omega
  have r2 : ¬ (10 * x + y) < least := by omega
  clear hr
  have c3 := h.c3
  have c1 := h.c1
  have T := touch_refl w (some g)
  unfold Mv at n0 n1 s0
  unfold DigIs at d0 d1
  go_enter Try.func39, Try.ntmps39
  go_wp2_with (first | (go_at_call 30; refine (n0 _ _ (by assumption)).mono ?_; rintro e w1 ⟨rfl, h1, t1⟩; (first | replace T := touch_trans T t1 | replace T := touch_step T t1); have c1 := h1.c1; have f1 := h1.fz 1; have s1 : Pb (w1.setCell ⟨g, 1, none⟩ (.int .i64 ((i : Int) + 1))) g u j o 0 a := by rw [HJ.out]; exact h1.set1 (i + 1)) | (go_at_call 30; refine (n1 _ _ (by assumption)).mono ?_; rintro e w1 ⟨rfl, h1, t1⟩; (first | replace T := touch_trans T t1 | replace T := touch_step T t1); have c1 := h1.c1; have f1 := h1.fz 1; have s1 : Pb (w1.setCell ⟨g, 1, none⟩ (.int .i64 ((j : Int) + 1))) g u k o 0 a := by rw [HK.out]; exact h1.set1 (j + 1)) | (go_at_call 51; (with_reducible refine (d0 _).mono ?_); rintro e w5 ⟨rfl, hw5⟩; obtain rfl := hw5.symm) | (go_at_call 51; (with_reducible refine (d1 _).mono ?_); rintro e w5 ⟨rfl, hw5⟩; obtain rfl := hw5.symm) | (go_at_call 14; refine (s0 _ _ (by assumption)).mono ?_; rintro e w1 ⟨rfl, h1, t1⟩; (first | replace T := touch_trans T t1 | replace T := touch_step T t1)))
  go_ret
  exact ⟨by go_num, by assumption, by first | exact T | exact touch_trans T (touch_cell _ _ _ _)⟩

set_option maxHeartbeats 1000000 in
theorem num2_big (u : ByteArray) (i j k o a least x : Nat) (y : Nat) (hy : y ≤ 9) (hi : i ≤ 1000) (hj : j = i + 1) (hk : k = j + 1) (hx : x ≤ 9) (hle : least ≤ 1000)
    (n0 : Mv 30 [] u i o 0 a (.int .i64 (48 + (x : Int))) i 0 a) (n1 : Mv 30 [] u j o 0 a (.int .i64 (48 + (y : Int))) j 0 a) (hr : 20 < (10 * x + y)) : Mv 39 [.int .i64 least] u i o 0 a (.int .i64 ((10 * x + y) : Nat)) k 60 i := by
  intro g w h
  have HJ : Hid (j = i + 1) := hj
  have HK : Hid (k = j + 1) := hk
  have hj1 : j ≤ 1001 := by omega
  clear hj hk
  have d0 := digit_any (48 + (x : Int)) true (by rw [decide_eq_true]; omega)
  have d1 := digit_any (48 + (y : Int)) true (by rw [decide_eq_true]; omega)
  have s0 := stop_first u k o a 60 i
  have r1 := hr
  clear hr
  have c3 := h.c3
  have c1 := h.c1
  have T := touch_refl w (some g)
  unfold Mv at n0 n1 s0
  unfold DigIs at d0 d1
  go_enter Try.func39, Try.ntmps39
  go_wp2_with (first | (go_at_call 30; refine (n0 _ _ (by assumption)).mono ?_; rintro e w1 ⟨rfl, h1, t1⟩; (first | replace T := touch_trans T t1 | replace T := touch_step T t1); have c1 := h1.c1; have f1 := h1.fz 1; have s1 : Pb (w1.setCell ⟨g, 1, none⟩ (.int .i64 ((i : Int) + 1))) g u j o 0 a := by rw [HJ.out]; exact h1.set1 (i + 1)) | (go_at_call 30; refine (n1 _ _ (by assumption)).mono ?_; rintro e w1 ⟨rfl, h1, t1⟩; (first | replace T := touch_trans T t1 | replace T := touch_step T t1); have c1 := h1.c1; have f1 := h1.fz 1; have s1 : Pb (w1.setCell ⟨g, 1, none⟩ (.int .i64 ((j : Int) + 1))) g u k o 0 a := by rw [HK.out]; exact h1.set1 (j + 1)) | (go_at_call 51; (with_reducible refine (d0 _).mono ?_); rintro e w5 ⟨rfl, hw5⟩; obtain rfl := hw5.symm) | (go_at_call 51; (with_reducible refine (d1 _).mono ?_); rintro e w5 ⟨rfl, hw5⟩; obtain rfl := hw5.symm) | (go_at_call 14; refine (s0 _ _ (by assumption)).mono ?_; rintro e w1 ⟨rfl, h1, t1⟩; (first | replace T := touch_trans T t1 | replace T := touch_step T t1)))
  go_ret
  exact ⟨by go_num, by assumption, by first | exact T | exact touch_trans T (touch_cell _ _ _ _)⟩

set_option maxHeartbeats 1000000 in
theorem num2_less (u : ByteArray) (i j k o a least x : Nat) (y : Nat) (hy : y ≤ 9) (hi : i ≤ 1000) (hj : j = i + 1) (hk : k = j + 1) (hx : x ≤ 9) (hle : least ≤ 1000)
    (n0 : Mv 30 [] u i o 0 a (.int .i64 (48 + (x : Int))) i 0 a) (n1 : Mv 30 [] u j o 0 a (.int .i64 (48 + (y : Int))) j 0 a) (hr : (10 * x + y) ≤ 20 ∧ (10 * x + y) < least) : Mv 39 [.int .i64 least] u i o 0 a (.int .i64 ((10 * x + y) : Nat)) k 60 i := by
  intro g w h
  have HJ : Hid (j = i + 1) := hj
  have HK : Hid (k = j + 1) := hk
  have hj1 : j ≤ 1001 := by omega
  clear hj hk
  have d0 := digit_any (48 + (x : Int)) true (by rw [decide_eq_true]; omega)
  have d1 := digit_any (48 + (y : Int)) true (by rw [decide_eq_true]; omega)
  have s0 := stop_first u k o a 60 i
  have r1 : ¬ 20 < (10 * x + y) := by omega
  have r2 : (10 * x + y) < least := hr.2
  clear hr
  have c3 := h.c3
  have c1 := h.c1
  have T := touch_refl w (some g)
  unfold Mv at n0 n1 s0
  unfold DigIs at d0 d1
  go_enter Try.func39, Try.ntmps39
  go_wp2_with (first | (go_at_call 30; refine (n0 _ _ (by assumption)).mono ?_; rintro e w1 ⟨rfl, h1, t1⟩; (first | replace T := touch_trans T t1 | replace T := touch_step T t1); have c1 := h1.c1; have f1 := h1.fz 1; have s1 : Pb (w1.setCell ⟨g, 1, none⟩ (.int .i64 ((i : Int) + 1))) g u j o 0 a := by rw [HJ.out]; exact h1.set1 (i + 1)) | (go_at_call 30; refine (n1 _ _ (by assumption)).mono ?_; rintro e w1 ⟨rfl, h1, t1⟩; (first | replace T := touch_trans T t1 | replace T := touch_step T t1); have c1 := h1.c1; have f1 := h1.fz 1; have s1 : Pb (w1.setCell ⟨g, 1, none⟩ (.int .i64 ((j : Int) + 1))) g u k o 0 a := by rw [HK.out]; exact h1.set1 (j + 1)) | (go_at_call 51; (with_reducible refine (d0 _).mono ?_); rintro e w5 ⟨rfl, hw5⟩; obtain rfl := hw5.symm) | (go_at_call 51; (with_reducible refine (d1 _).mono ?_); rintro e w5 ⟨rfl, hw5⟩; obtain rfl := hw5.symm) | (go_at_call 14; refine (s0 _ _ (by assumption)).mono ?_; rintro e w1 ⟨rfl, h1, t1⟩; (first | replace T := touch_trans T t1 | replace T := touch_step T t1)))
  go_ret
  exact ⟨by go_num, by assumption, by first | exact T | exact touch_trans T (touch_cell _ _ _ _)⟩
end Go.Proofs.Ytjfnefmolhihaaa.st
