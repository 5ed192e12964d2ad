/-
  Contracts over this program: the document's reader, its block, and its small steps (fretsawref06's P: stop, now, take, must; Sign, digit, hex).
-/
import Derived.Test.YtjfnefmolhihaaaRd
import Derived.Test.YtjfnefmolhihaaaRb
namespace Go.Proofs.Ytjfnefmolhihaaa.st
open Go.ChangeShapes Go.WideShapes Go.ChangeAt Go.RowKit
set_option linter.unusedVariables false

/-- the block of the document's reader: the text, the place, how much is open, what was wrong first, and where -/
def Pb (w : World) (g : Nat) (u : ByteArray) (i o b a : Nat) : Prop := w.heap[g]? = some (.cells #[.string u, .int .i64 i, .int .i64 o, .int .i64 b, .int .i64 a] 44 (0, 0))
section
variable {w w' : World} {g i o b a : Nat} {u : ByteArray}
theorem Pb.lt (h : Pb w g u i o b a) : g < w.heap.size := (Array.getElem?_eq_some_iff.1 h).1
theorem Pb.c0 (h : Pb w g u i o b a) : w.cell? ⟨g, 0, none⟩ = some (.string u) := by rw [Lib.cell_of_heap h]; rfl
theorem Pb.c1 (h : Pb w g u i o b a) : w.cell? ⟨g, 1, none⟩ = some (.int .i64 i) := by rw [Lib.cell_of_heap h]; rfl
theorem Pb.c2 (h : Pb w g u i o b a) : w.cell? ⟨g, 2, none⟩ = some (.int .i64 o) := by rw [Lib.cell_of_heap h]; rfl
theorem Pb.c3 (h : Pb w g u i o b a) : w.cell? ⟨g, 3, none⟩ = some (.int .i64 b) := by rw [Lib.cell_of_heap h]; rfl
theorem Pb.c4 (h : Pb w g u i o b a) : w.cell? ⟨g, 4, none⟩ = some (.int .i64 a) := by rw [Lib.cell_of_heap h]; rfl
theorem Pb.fz (h : Pb w g u i o b a) (k : Nat) : w.frozen? ⟨g, k, none⟩ = false := Lib.frozen_of_heap h k
theorem Pb.later (h : Pb w g u i o b a) (t : RowKit.Below w.heap.size w w') : Pb w' g u i o b a := by unfold Pb; rw [t.block g h.lt]; exact h
theorem Pb.drew (h : Pb w g u i o b a) : Pb w.drew g u i o b a := h
theorem Pb.drewN (h : Pb w g u i o b a) (n : Nat) : Pb (w.drewN n) g u i o b a := h
theorem Pb.set1 (h : Pb w g u i o b a) (q : Nat) : Pb (w.setCell ⟨g, 1, none⟩ (.int .i64 q)) g u q o b a := set_heap1 w g _ _ 1 _ h
theorem Pb.set2 (h : Pb w g u i o b a) (q : Nat) : Pb (w.setCell ⟨g, 2, none⟩ (.int .i64 q)) g u i q b a := set_heap1 w g _ _ 2 _ h
theorem Pb.set3 (h : Pb w g u i o b a) (q : Nat) : Pb (w.setCell ⟨g, 3, none⟩ (.int .i64 q)) g u i o q a := set_heap1 w g _ _ 3 _ h
theorem Pb.set4 (h : Pb w g u i o b a) (q : Nat) : Pb (w.setCell ⟨g, 4, none⟩ (.int .i64 q)) g u i o b q := set_heap1 w g _ _ 4 _ h
theorem Pb.other (h : Pb w g u i o b a) {k : Nat} (t : w.grownBy w' (some k)) (hne : g ≠ k) : Pb w' g u i o b a := by
  unfold Pb; rw [t.block g h.lt (fun e => hne (Option.some.inj e))]; exact h
end

/-- a call of the document's reader: what it answers, and where it leaves the reader -/
def Mv (f : Nat) (x : List Value) (u : ByteArray) (i o b a : Nat) (v : Value) (i' b' a' : Nat) : Prop := ∀ g w, Pb w g u i o b a → Calls Try.prog f (List.toArray (.pointer (some ⟨g, 0, none⟩) :: x)) w fun e w' => e = .returned v ∧ Pb w' g u i' o b' a' ∧ w.grownBy w' (some g)

theorem stop_first (u : ByteArray) (i o a e q : Nat) : Mv 14 [.int .i64 e, .int .i64 q] u i o 0 a (.tuple #[]) i e q := by
  intro g w h
  have c3 := h.c3
  have f3 := h.fz 3
  have h1 := h.set3 e
  have f4 := h1.fz 4
  have k4 := h1.c4
  have h2 := h1.set4 q
  go_enter Try.func14, Try.ntmps14
  go_wp2
  go_end0
  exact ⟨rfl, h2, touch_trans (touch_cell _ _ _ _) (touch_cell _ _ _ _)⟩
theorem stop_dead (u : ByteArray) (i o b a : Nat) (v1 v2 : Value) (hb : b ≠ 0) : Mv 14 [v1, v2] u i o b a (.tuple #[]) i b a := by
  intro g w h
  have c3 := h.c3
  have hne : ((b : Int) == 0) = false := by rw [beq_eq_false_iff_ne]; omega
  go_enter Try.func14, Try.ntmps14
  go_wp2
  go_end0
  exact ⟨rfl, h, touch_refl _ _⟩

/-- the next byte; -1: there is none -/
def hd : List Nat → Int
  | [] => -1
  | c :: _ => c
set_option maxHeartbeats 1000000 in
set_option maxRecDepth 100000 in
theorem now_in (u : ByteArray) (i o a : Nat) (hu : u.size ≤ 1000) (hin : i < u.size) : Mv 30 [] u i o 0 a (.int .i64 u[i].toNat) i 0 a := by
  intro g w h
  have c0 := h.c0
  have c1 := h.c1
  have c3 := h.c3
  have hle : decide (u.size ≤ i) = false := by simpa using hin
  have hlt : u[i].toNat < 256 := u[i].toNat_lt
  go_enter Try.func30, Try.ntmps30
  go_wp2_with (fail)
  go_quiet (fail)
  go_wp2_with (fail)
  go_quiet (fail)
  go_wp2_with (fail)
  go_ret
  exact ⟨rfl, h, touch_drewN (touch_drewN (touch_refl _ _) _) _⟩
set_option maxHeartbeats 1000000 in
set_option maxRecDepth 100000 in
theorem now_out (u : ByteArray) (i o a : Nat) (hu : u.size ≤ 1000) (hi : i ≤ u.size) (hin : u.size ≤ i) : Mv 30 [] u i o 0 a (.int .i64 (-1)) i 0 a := by
  intro g w h
  have c0 := h.c0
  have c1 := h.c1
  have c3 := h.c3
  have hle : decide (u.size ≤ i) = true := by simpa using hin
  go_enter Try.func30, Try.ntmps30
  go_wp2_with (fail)
  go_quiet (fail)
  go_wp2_with (fail)
  go_ret
  exact ⟨rfl, h, touch_drewN (touch_refl _ _) _⟩
set_option maxHeartbeats 1000000 in
set_option maxRecDepth 100000 in
theorem now_dead (u : ByteArray) (i o b a : Nat) (hb : b ≠ 0) : Mv 30 [] u i o b a (.int .i64 (-1)) i b a := by
  intro g w h
  have c3 := h.c3
  have hne : ((b : Int) == 0) = false := by rw [beq_eq_false_iff_ne]; omega
  go_enter Try.func30, Try.ntmps30
  go_wp2_with (fail)
  go_quiet (fail)
  go_wp2_with (fail)
  go_ret
  exact ⟨rfl, h, touch_drewN (touch_refl _ _) _⟩
theorem now_any (u : ByteArray) (i o a : Nat) (hu : u.size ≤ 1000) (hi : i ≤ u.size) (c : Int) (hc : c = hd (suf u i)) : Mv 30 [] u i o 0 a (.int .i64 c) i 0 a := by
  by_cases hin : i < u.size
  · rw [suf_in u i hin] at hc
    rw [hc]
    exact now_in u i o a hu hin
  · rw [suf_out u i (by omega)] at hc
    rw [hc]
    exact now_out u i o a hu hi (by omega)

theorem sees_one (l : List Nat) (c : Nat) : (hd l == (c : Int)) = sees [c] l := by
  cases l with
  | nil => simp only [hd, sees]; rw [beq_eq_false_iff_ne]; omega
  | cons b l =>
    simp only [hd, sees, List.mem_singleton]
    rw [Bool.eq_iff_iff]
    simp
    omega

theorem take_yes (u : ByteArray) (i o a : Nat) (hu : u.size ≤ 1000) (hi : i ≤ u.size) (c : Nat) (hc : c < 256) (hs : sees [c] (suf u i) = true) : Mv 24 [.int .u8 c] u i o 0 a (.bool true) (i + 1) 0 a := by
  intro g w h
  rw [← sees_one] at hs
  have h30 := now_any u i o a hu hi _ rfl
  generalize hd (suf u i) = z at *
  have hi1 : i + 1 ≤ 1001 := by omega
  unfold Mv at h30
  go_enter Try.func24, Try.ntmps24
  go_wp2_with (go_at_call 30; refine (h30 _ _ h).mono ?_; rintro e w1 ⟨rfl, h1, t1⟩; have c1 := h1.c1; have f1 := h1.fz 1; have h2 : Pb (w1.setCell ⟨g, 1, none⟩ (.int .i64 ((i : Int) + 1))) g u (i + 1) o 0 a := h1.set1 (i + 1))
  go_ret
  exact ⟨rfl, h2, touch_trans t1 (touch_cell _ _ _ _)⟩
theorem take_no (u : ByteArray) (i o a : Nat) (hu : u.size ≤ 1000) (hi : i ≤ u.size) (c : Nat) (hc : c < 256) (hs : sees [c] (suf u i) = false) : Mv 24 [.int .u8 c] u i o 0 a (.bool false) i 0 a := by
  intro g w h
  rw [← sees_one] at hs
  have h30 := now_any u i o a hu hi _ rfl
  generalize hd (suf u i) = z at *
  unfold Mv at h30
  go_enter Try.func24, Try.ntmps24
  go_wp2_with (go_at_call 30; refine (h30 _ _ h).mono ?_; rintro e w1 ⟨rfl, h1, t1⟩)
  go_ret
  exact ⟨rfl, h1, t1⟩
theorem take_dead (u : ByteArray) (i o b a : Nat) (hb : b ≠ 0) (c : Nat) (hc : c < 256) : Mv 24 [.int .u8 c] u i o b a (.bool false) i b a := by
  intro g w h
  have h30 := now_dead u i o b a hb
  have hs : ((-1 : Int) == (c : Int)) = false := by rw [beq_eq_false_iff_ne]; omega
  unfold Mv at h30
  go_enter Try.func24, Try.ntmps24
  go_wp2_with (go_at_call 30; refine (h30 _ _ h).mono ?_; rintro e w1 ⟨rfl, h1, t1⟩)
  go_ret
  exact ⟨rfl, h1, t1⟩

theorem must_yes (u : ByteArray) (i o a : Nat) (hu : u.size ≤ 1000) (hi : i ≤ u.size) (c : Nat) (hc : c < 256) (hs : sees [c] (suf u i) = true) : Mv 40 [.int .u8 c] u i o 0 a (.tuple #[]) (i + 1) 0 a := by
  intro g w h
  have h24 := take_yes u i o a hu hi c hc hs
  have c3 := h.c3
  clear hs
  unfold Mv at h24
  go_enter Try.func40, Try.ntmps40
  go_wp2_with (go_at_call 24; refine (h24 _ _ h).mono ?_; rintro e w1 ⟨rfl, h1, t1⟩)
  go_end0
  exact ⟨rfl, h1, t1⟩
theorem must_no (u : ByteArray) (i o a : Nat) (hu : u.size ≤ 1000) (hi : i ≤ u.size) (c : Nat) (hc : c < 256) (hs : sees [c] (suf u i) = false) : Mv 40 [.int .u8 c] u i o 0 a (.tuple #[]) i 60 i := by
  intro g w h
  have h24 := take_no u i o a hu hi c hc hs
  have h14 := stop_first u i o a 60 i
  have c3 := h.c3
  clear hs
  unfold Mv at h24 h14
  go_enter Try.func40, Try.ntmps40
  go_wp2_with (first | (go_at_call 24; refine (h24 _ _ h).mono ?_; rintro e w1 ⟨rfl, h1, t1⟩; have c1 := h1.c1) | (go_at_call 14; refine (h14 _ _ h1).mono ?_; rintro e w2 ⟨rfl, h2, t2⟩))
  go_end0
  exact ⟨rfl, h2, touch_trans t1 t2⟩
theorem must_dead (u : ByteArray) (i o b a : Nat) (hb : b ≠ 0) (c : Nat) : Mv 40 [.int .u8 c] u i o b a (.tuple #[]) i b a := by
  intro g w h
  have c3 := h.c3
  have hne : ((b : Int) == 0) = false := by rw [beq_eq_false_iff_ne]; omega
  go_enter Try.func40, Try.ntmps40
  go_wp2
  go_end0
  exact ⟨rfl, h, touch_refl _ _⟩
end Go.Proofs.Ytjfnefmolhihaaa.st
