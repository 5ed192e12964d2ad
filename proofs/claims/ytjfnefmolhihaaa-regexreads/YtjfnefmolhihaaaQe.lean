/-
  Contracts over this program: a byte behind a backslash as a whole, a point of a class, and a set that is one byte's, as the document's reader reads them (fretsawref06's P: one, point; single).
-/
import Derived.Test.YtjfnefmolhihaaaQd
import Derived.Test.YtjfnefmolhihaaaRq
import Derived.Test.YtjfnefmolhihaaaRef
namespace Go.Proofs.Ytjfnefmolhihaaa.st
open Go.Sort Go.ChangeShapes Go.WideShapes Go.ChangeAt Go.RowKit
set_option linter.unusedVariables false

theorem hexes_rng : ∀ c ∈ hexes, (48 ≤ c ∧ c ≤ 57) ∨ (97 ≤ c ∧ c ≤ 102) ∨ (65 ≤ c ∧ c ≤ 70) := by decide
theorem hexes_mem (c : Nat) (h : (48 ≤ c ∧ c ≤ 57) ∨ (97 ≤ c ∧ c ≤ 102) ∨ (65 ≤ c ∧ c ≤ 70)) : c ∈ hexes := by
  rcases h with h | h | h
  · have : c = 48 ∨ c = 49 ∨ c = 50 ∨ c = 51 ∨ c = 52 ∨ c = 53 ∨ c = 54 ∨ c = 55 ∨ c = 56 ∨ c = 57 := by omega
    rcases this with rfl | rfl | rfl | rfl | rfl | rfl | rfl | rfl | rfl | rfl <;> decide
  · have : c = 97 ∨ c = 98 ∨ c = 99 ∨ c = 100 ∨ c = 101 ∨ c = 102 := by omega
    rcases this with rfl | rfl | rfl | rfl | rfl | rfl <;> decide
  · have : c = 65 ∨ c = 66 ∨ c = 67 ∨ c = 68 ∨ c = 69 ∨ c = 70 := by omega
    rcases this with rfl | rfl | rfl | rfl | rfl | rfl <;> decide
theorem hex_yes (c : Nat) (h : c ∈ hexes) : HexIs c (hexv c : Nat) ∧ hexv c ≤ 15 := by
  rcases hexes_rng c h with h | h | h
  · have e : ((hexv c : Nat) : Int) = (c : Int) - 48 := by unfold hexv; rw [if_neg (by omega), if_neg (by omega)]; omega
    refine ⟨by rw [e]; exact hexd c (by omega) (by omega), ?_⟩
    omega
  · have e : ((hexv c : Nat) : Int) = (c : Int) - 97 + 10 := by unfold hexv; rw [if_pos (by omega)]; omega
    refine ⟨by rw [e]; exact hexa c (by omega) (by omega), ?_⟩
    omega
  · have e : ((hexv c : Nat) : Int) = (c : Int) - 65 + 10 := by unfold hexv; rw [if_neg (by omega), if_pos (by omega)]; omega
    refine ⟨by rw [e]; exact hexA c (by omega) (by omega), ?_⟩
    omega
theorem hex_not (l : List Nat) (h : sees hexes l = false) : HexIs (hd l) (-1) := by
  cases l with
  | nil => exact hexno (-1) (by omega) (by omega) (by omega)
  | cons c l =>
    have hc : c ∉ hexes := of_decide_eq_false h
    show HexIs (c : Int) (-1)
    refine hexno c (fun h => hc (hexes_mem c (.inl (by omega)))) (fun h => hc (hexes_mem c (.inr (.inl (by omega))))) (fun h => hc (hexes_mem c (.inr (.inr (by omega)))))

theorem sign_yes (c : Nat) (h : c ∈ signs) : SignIs c true := sign_any c true (by rw [eq_comm, decide_eq_true_eq]; exact ⟨c, h, rfl⟩)
theorem sign_not (c : Nat) (h : c ∉ signs) : SignIs c false := sign_any c false (by
  rw [eq_comm, decide_eq_false_iff_not]
  rintro ⟨s, hs, he⟩
  have : s = c := by omega
  exact h (this ▸ hs))
theorem escapes_cases (c : Nat) (h : c ∈ escapes) : c = 110 ∨ c = 116 ∨ c = 114 ∨ c = 120 ∨ c = 45 ∨ c = 47 ∨ (c ∈ signs ∧ c ≠ 110 ∧ c ≠ 116 ∧ c ≠ 114 ∧ c ≠ 120) := by
  revert c
  decide
theorem not_escapes (c : Nat) (h : c ∉ escapes) : c ≠ 110 ∧ c ≠ 116 ∧ c ≠ 114 ∧ c ≠ 120 ∧ c ≠ 45 ∧ c ≠ 47 ∧ c ∉ signs := by
  refine ⟨?_, ?_, ?_, ?_, ?_, ?_, ?_⟩
  all_goals first | (rintro rfl; exact h (by decide)) | skip
  intro hs
  refine h ?_
  have : ∀ x ∈ signs, x ∈ escapes := by decide
  exact this c hs

abbrev vb (n : Nat) : Value := .int .u8 n
theorem one_all (u : ByteArray) (i o a : Nat) (hu : u.size ≤ 1000) (hi : i ≤ u.size) : Tl 49 [] vb (· < 256) (· < 256) u i o a (one (suf u i)) := by
  unfold one
  cases hs : sees escapes (suf u i) with
  | false =>
    refine .inr ⟨60, i, i, 0, by decide, hi, ⟨by omega, hi⟩, by rw [oneOf_miss hs]; rfl, by decide, ?_⟩
    have n0 := now_any u i o a hu hi _ rfl
    by_cases hin : i < u.size
    · rw [suf_in u i hin] at hs n0
      have hc : u[i].toNat ∉ escapes := of_decide_eq_false hs
      obtain ⟨k1, k2, k3, k4, k5, k6, k7⟩ := not_escapes _ hc
      generalize u[i].toNat = c at *
      exact one_no u i o a c (by omega) n0 (by omega) (by omega) (by omega) (by omega) (by omega) (by omega) (sign_not c k7)
    · rw [suf_out u i (by omega)] at n0
      exact one_no u i o a (-1) (by omega) n0 (by omega) (by omega) (by omega) (by omega) (by omega) (by omega) (sign_any (-1) false (by decide))
  | true =>
    have hin := sees_lt hs
    have hc := sees_head hin hs
    have hlt : u[i].toNat < 256 := u[i].toNat_lt
    have n0 := now_in u i o a hu hin
    rw [oneOf_hit hin hs]
    simp only [R.then]
    generalize u[i].toNat = c at *
    rcases escapes_cases c hc with rfl | rfl | rfl | rfl | rfl | rfl | ⟨k7, k1, k2, k3, k4⟩
    · exact .inl ⟨10, i + 1, by omega, hin, rfl, by decide, one_n u i (i + 1) o a (by omega) rfl n0⟩
    · exact .inl ⟨9, i + 1, by omega, hin, rfl, by decide, one_t u i (i + 1) o a (by omega) rfl n0⟩
    · exact .inl ⟨13, i + 1, by omega, hin, rfl, by decide, one_r u i (i + 1) o a (by omega) rfl n0⟩
    · simp only [show ¬ (120 = 110) by decide, show ¬ (120 = 116) by decide, show ¬ (120 = 114) by decide, if_false, if_true]
      have n1 := now_any u (i + 1) o a hu hin _ rfl
      unfold hex
      cases hs1 : sees hexes (suf u (i + 1)) with
      | false =>
        rw [oneOf_miss hs1]
        exact .inr ⟨60, i + 1, i + 1, 0, by decide, hin, ⟨by omega, hin⟩, rfl, by decide, one_x0 u i (i + 1) (i + 2) (i + 3) o a 0 0 _ 0 (by omega) (by omega) (by omega) rfl rfl rfl n0 n1 (hex_not _ hs1)⟩
      | true =>
        have hin1 := sees_lt hs1
        obtain ⟨y1, l1⟩ := hex_yes _ (sees_head hin1 hs1)
        rw [suf_in u (i + 1) hin1] at n1
        rw [oneOf_hit hin1 hs1]
        simp only [R.then]
        generalize u[i + 1].toNat = c1 at *
        have n2 := now_any u (i + 2) o a hu hin1 _ rfl
        cases hs2 : sees hexes (suf u (i + 2)) with
        | false =>
          rw [oneOf_miss hs2]
          exact .inr ⟨60, i + 2, i + 2, 0, by decide, hin1, ⟨by omega, hin1⟩, rfl, by decide, one_x1 u i (i + 1) (i + 2) (i + 3) o a (hexv c1) 0 _ _ l1 (by omega) (by omega) rfl rfl rfl n0 n1 y1 n2 (hex_not _ hs2)⟩
        | true =>
          have hin2 := sees_lt hs2
          obtain ⟨y2, l2⟩ := hex_yes _ (sees_head hin2 hs2)
          rw [suf_in u (i + 2) hin2] at n2
          rw [oneOf_hit hin2 hs2]
          simp only
          generalize u[i + 2].toNat = c2 at *
          have h := one_x2 u i (i + 1) (i + 2) (i + 3) o a (hexv c1) (hexv c2) _ _ l1 l2 (by omega) rfl rfl rfl n0 n1 y1 n2 y2
          have e : (hexv c1 : Int) * 16 + (hexv c2 : Int) = ((16 * hexv c1 + hexv c2 : Nat) : Int) := by omega
          rw [e] at h
          exact .inl ⟨16 * hexv c1 + hexv c2, i + 3, by omega, hin2, rfl, by show _ < 256; omega, h⟩
    · exact .inl ⟨45, i + 1, by omega, hin, rfl, by decide, one_45 u i (i + 1) o a (by omega) rfl n0 (sign_any 45 false (by decide))⟩
    · exact .inl ⟨47, i + 1, by omega, hin, rfl, by decide, one_47 u i (i + 1) o a (by omega) rfl n0 (sign_any 47 false (by decide))⟩
    · simp only [k1, k2, k3, k4, if_false]
      exact .inl ⟨c, i + 1, by omega, hin, rfl, hlt, one_sign u i (i + 1) o a c hlt (by omega) rfl n0 (by omega) (by omega) (by omega) (by omega) (sign_yes c k7)⟩

theorem point_esc (u : ByteArray) (i j k o a b' a' v : Nat) (t0 : Mv 24 [.int .u8 92] u i o 0 a (.bool true) j 0 a) (m0 : Mv 49 [] u j o 0 a (vb v) k b' a') : Mv 56 [] u i o 0 a (vb v) k b' a' := by
  intro g w h
  unfold Mv at t0 m0
  have T := touch_refl w (some g)
  go_enter Try.func56, Try.ntmps56
  go_wp2_with (first | (go_at_call 24; refine (t0 _ _ (by assumption)).mono ?_; rintro e w1 ⟨rfl, h1, t1⟩; (first | replace T := touch_trans T t1 | replace T := touch_step T t1)) | (go_at_call 49; refine (m0 _ _ (by assumption)).mono ?_; rintro e w1 ⟨rfl, h1, t1⟩; (first | replace T := touch_trans T t1 | replace T := touch_step T t1)))
  go_ret
  exact ⟨by first | rfl | go_num, by assumption, by first | exact T | exact touch_trans T (touch_cell _ _ _ _)⟩

theorem point_lit (u : ByteArray) (i j o a c : Nat) (hc : c < 256) (hi : i ≤ 1000) (hj : j = i + 1) (t0 : Mv 24 [.int .u8 92] u i o 0 a (.bool false) i 0 a) (n0 : Mv 30 [] u i o 0 a (.int .i64 c) i 0 a) (h1 : c ≠ 93) (h2 : c ≠ 45) : Mv 56 [] u i o 0 a (vb c) j 0 a := by
  intro g w h
  have HJ : Hid (j = i + 1) := hj
  have f1 : ((c : Int) == 93) = false := by rw [beq_eq_false_iff_ne]; omega
  have f2 : ((c : Int) == 45) = false := by rw [beq_eq_false_iff_ne]; omega
  clear hj h1 h2
  unfold Mv at t0 n0
  have T := touch_refl w (some g)
  go_enter Try.func56, Try.ntmps56
  go_wp2_with (first | (go_at_call 24; refine (t0 _ _ (by assumption)).mono ?_; rintro e w1 ⟨rfl, h1, t1⟩; (first | replace T := touch_trans T t1 | replace T := touch_step T t1)) | (go_at_call 30; refine (n0 _ _ (by assumption)).mono ?_; rintro e w1 ⟨rfl, h1, t1⟩; (first | replace T := touch_trans T t1 | replace T := touch_step T t1); have c1 := h1.c1; have f1 := h1.fz 1; have s1 : Pb (w1.setCell ⟨g, 1, none⟩ (.int .i64 ((i : Int) + 1))) g u j o 0 a := by rw [HJ.out]; exact h1.set1 (i + 1)))
  go_ret
  exact ⟨by first | rfl | go_num, by assumption, by first | exact T | exact touch_trans T (touch_cell _ _ _ _)⟩

theorem point_end (u : ByteArray) (i o a : Nat) (t0 : Mv 24 [.int .u8 92] u i o 0 a (.bool false) i 0 a) (n0 : Mv 30 [] u i o 0 a (.int .i64 (-1)) i 0 a) : Mv 56 [] u i o 0 a (vb 0) i 60 i := by
  intro g w h
  have s0 := stop_first u i o a 60 i
  unfold Mv at t0 n0 s0
  have T := touch_refl w (some g)
  go_enter Try.func56, Try.ntmps56
  go_wp2_with (first | (go_at_call 24; refine (t0 _ _ (by assumption)).mono ?_; rintro e w1 ⟨rfl, h1, t1⟩; (first | replace T := touch_trans T t1 | replace T := touch_step T t1)) | (go_at_call 30; refine (n0 _ _ (by assumption)).mono ?_; rintro e w1 ⟨rfl, h1, t1⟩; (first | replace T := touch_trans T t1 | replace T := touch_step T t1); have c1 := h1.c1) | (go_at_call 14; refine (s0 _ _ (by assumption)).mono ?_; rintro e w1 ⟨rfl, h1, t1⟩; (first | replace T := touch_trans T t1 | replace T := touch_step T t1)))
  go_ret
  exact ⟨by first | rfl | go_num, by assumption, by first | exact T | exact touch_trans T (touch_cell _ _ _ _)⟩

theorem point_93 (u : ByteArray) (i o a : Nat) (t0 : Mv 24 [.int .u8 92] u i o 0 a (.bool false) i 0 a) (n0 : Mv 30 [] u i o 0 a (.int .i64 93) i 0 a) : Mv 56 [] u i o 0 a (vb 0) i 60 i := by
  intro g w h
  have s0 := stop_first u i o a 60 i
  unfold Mv at t0 n0 s0
  have T := touch_refl w (some g)
  go_enter Try.func56, Try.ntmps56
  go_wp2_with (first | (go_at_call 24; refine (t0 _ _ (by assumption)).mono ?_; rintro e w1 ⟨rfl, h1, t1⟩; (first | replace T := touch_trans T t1 | replace T := touch_step T t1)) | (go_at_call 30; refine (n0 _ _ (by assumption)).mono ?_; rintro e w1 ⟨rfl, h1, t1⟩; (first | replace T := touch_trans T t1 | replace T := touch_step T t1); have c1 := h1.c1) | (go_at_call 14; refine (s0 _ _ (by assumption)).mono ?_; rintro e w1 ⟨rfl, h1, t1⟩; (first | replace T := touch_trans T t1 | replace T := touch_step T t1)))
  go_ret
  exact ⟨by first | rfl | go_num, by assumption, by first | exact T | exact touch_trans T (touch_cell _ _ _ _)⟩

theorem point_45 (u : ByteArray) (i o a : Nat) (t0 : Mv 24 [.int .u8 92] u i o 0 a (.bool false) i 0 a) (n0 : Mv 30 [] u i o 0 a (.int .i64 45) i 0 a) : Mv 56 [] u i o 0 a (vb 0) i 60 i := by
  intro g w h
  have s0 := stop_first u i o a 60 i
  unfold Mv at t0 n0 s0
  have T := touch_refl w (some g)
  go_enter Try.func56, Try.ntmps56
  go_wp2_with (first | (go_at_call 24; refine (t0 _ _ (by assumption)).mono ?_; rintro e w1 ⟨rfl, h1, t1⟩; (first | replace T := touch_trans T t1 | replace T := touch_step T t1)) | (go_at_call 30; refine (n0 _ _ (by assumption)).mono ?_; rintro e w1 ⟨rfl, h1, t1⟩; (first | replace T := touch_trans T t1 | replace T := touch_step T t1); have c1 := h1.c1) | (go_at_call 14; refine (s0 _ _ (by assumption)).mono ?_; rintro e w1 ⟨rfl, h1, t1⟩; (first | replace T := touch_trans T t1 | replace T := touch_step T t1)))
  go_ret
  exact ⟨by first | rfl | go_num, by assumption, by first | exact T | exact touch_trans T (touch_cell _ _ _ _)⟩

theorem point_dead (u : ByteArray) (i o b a : Nat) (hb : b ≠ 0) : Mv 56 [] u i o b a (vb 0) i b a := by
  intro g w h
  have t0 := take_dead u i o b a hb 92 (by decide)
  have n0 := now_dead u i o b a hb
  have s0 := stop_dead u i o b a (.int .i64 60) (.int .i64 i) hb
  unfold Mv at t0 n0 s0
  have T := touch_refl w (some g)
  go_enter Try.func56, Try.ntmps56
  go_wp2_with (first | (go_at_call 24; refine (t0 _ _ (by assumption)).mono ?_; rintro e w1 ⟨rfl, h1, t1⟩; (first | replace T := touch_trans T t1 | replace T := touch_step T t1)) | (go_at_call 30; refine (n0 _ _ (by assumption)).mono ?_; rintro e w1 ⟨rfl, h1, t1⟩; (first | replace T := touch_trans T t1 | replace T := touch_step T t1); have c1 := h1.c1) | (go_at_call 14; refine (s0 _ _ (by assumption)).mono ?_; rintro e w1 ⟨rfl, h1, t1⟩; (first | replace T := touch_trans T t1 | replace T := touch_step T t1)))
  go_ret
  exact ⟨by first | rfl | go_num, by assumption, by first | exact T | exact touch_trans T (touch_cell _ _ _ _)⟩

theorem point_all (u : ByteArray) (i o a : Nat) (hu : u.size ≤ 1000) (hi : i ≤ u.size) : Tl 56 [] vb (· < 256) (· < 256) u i o a (point outside (suf u i)) := by
  unfold point
  cases hs : sees [92] (suf u i) with
  | true =>
    have hin := sees_lt hs
    have t0 := take_yes u i o a hu hi 92 (by decide) hs
    rw [if_pos rfl, suf_tail u i hin]
    rcases one_all u (i + 1) o a hu hin with ⟨z, k, k1, k2, k3, k4, m⟩ | ⟨e, q, k, z, k1, k2, k3, k4, k5, m⟩
    · exact .inl ⟨z, k, by omega, k2, k3, k4, point_esc u i (i + 1) k o a 0 a z t0 m⟩
    · exact .inr ⟨e, q, k, z, k1, k2, ⟨by omega, k3.2⟩, k4, k5, point_esc u i (i + 1) k o a e q z t0 m⟩
  | false =>
    have t0 := take_no u i o a hu hi 92 (by decide) hs
    rw [if_neg (by decide)]
    unfold noneOf
    by_cases hin : i < u.size
    · have n0 := now_in u i o a hu hin
      have hlt : u[i].toNat < 256 := u[i].toNat_lt
      rw [suf_in u i hin] at hs ⊢
      have h92 : u[i].toNat ≠ 92 := by
        have := of_decide_eq_false hs
        simpa using this
      by_cases h93 : u[i].toNat = 93
      · rw [h93] at n0 ⊢
        exact .inr ⟨60, i, i, 0, by decide, hi, ⟨by omega, hi⟩, by rw [suf_in u i hin, h93]; rfl, by decide, point_93 u i o a t0 n0⟩
      · by_cases h45 : u[i].toNat = 45
        · rw [h45] at n0 ⊢
          exact .inr ⟨60, i, i, 0, by decide, hi, ⟨by omega, hi⟩, by rw [suf_in u i hin, h45]; rfl, by decide, point_45 u i o a t0 n0⟩
        · have hso : sees outside (u[i].toNat :: suf u (i + 1)) = false := by simp [sees, outside, h92, h93, h45]
          rw [hso]
          exact .inl ⟨u[i].toNat, i + 1, by omega, hin, rfl, hlt, point_lit u i (i + 1) o a _ hlt (by omega) rfl t0 n0 h93 h45⟩
    · have n0 := now_out u i o a hu hi (by omega)
      have he : suf u i = [] := suf_out u i (by omega)
      exact .inr ⟨60, i, i, 0, by decide, hi, ⟨by omega, hi⟩, by rw [he]; rfl, by decide, point_end u i o a t0 n0⟩

/-- a node that is one set -/
abbrev nodeV (q : Q4) : Value := .agg #[.int .i64 1, .int .u64 q.a, .int .u64 q.b, .int .u64 q.c, .int .u64 q.d, .int .i64 0, .int .i64 0, .slice none 0 0]
def SglIs (b : Nat) (q : Q4) : Prop := ∀ w, Calls Try.prog 48 #[.int .u8 b] w fun e w' => e = .returned (nodeV q) ∧ RowKit.Below w.heap.size w w'
set_option maxHeartbeats 1000000 in
set_option maxRecDepth 100000 in
theorem sgl_any (b : Nat) (hb : b < 256) (q : Q4) (hq : q = rng b b) : SglIs b q := by
  intro w
  have h57 := sp.rrange_any b b hb hb q hq
  have z0 := box_new w Tr.zero (.slice none 0 0)
  unfold sp.RRangeIs at h57
  clear hq
  go_enter Try.func48, Try.ntmps48
  go_wp2_with (go_at_call 57; refine (h57 _).mono ?_; rintro e w1 ⟨rfl, b1⟩; have z1 := z0.below b1; obtain ⟨⟨d0, d1, d2, d3, d4, d5, d6, d7⟩, f0, f1, f2, f3, f4, f5, f6, f7⟩ := b8 z1)
  refine ret28 Try.results48 w.heap.size (.node 1 q 0 0 []) (.slice none 0 0) rfl (box_set z1 (.node 1 q 0 0 []) _) rfl ?_
  exact ⟨rfl, below_over ((below_alloc w _).trans (b1.mono (below_alloc w _).size)) (touch_set8 _ _ (.node 1 q 0 0 []) _) (Nat.le_refl _)⟩
end Go.Proofs.Ytjfnefmolhihaaa.st
