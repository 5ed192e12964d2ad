/-
  Contracts over this program: the reader's steps that touch its own block alone (fail, goOn, number, body, count).
-/
import Derived.Test.YtjnjjbacfodacaaRise
import Derived.Deep.RegionLaw
namespace Go.Proofs.Ytjnjjbacfodacaa.pk
open Go.ChangeShapes Go.WideShapes Go.ChangeAt Go.RowKit
set_option linter.unusedVariables false

/-- the reader's block -/
def Blk (w : World) (g : Nat) (u : ByteArray) (p e : Nat) (v : Value) : Prop := w.heap[g]? = some (.cells #[.string u, .int .i64 p, .int .i64 e, v] 48 (0, 0))

theorem Blk.lt {w : World} {g p e : Nat} {u : ByteArray} {v : Value} (h : Blk w g u p e v) : g < w.heap.size := (Array.getElem?_eq_some_iff.1 h).1
theorem Blk.c0 {w : World} {g p e : Nat} {u : ByteArray} {v : Value} (h : Blk w g u p e v) : w.cell? ⟨g, 0, none⟩ = some (.string u) := by rw [Lib.cell_of_heap h]; rfl
theorem Blk.c1 {w : World} {g p e : Nat} {u : ByteArray} {v : Value} (h : Blk w g u p e v) : w.cell? ⟨g, 1, none⟩ = some (.int .i64 p) := by rw [Lib.cell_of_heap h]; rfl
theorem Blk.c2 {w : World} {g p e : Nat} {u : ByteArray} {v : Value} (h : Blk w g u p e v) : w.cell? ⟨g, 2, none⟩ = some (.int .i64 e) := by rw [Lib.cell_of_heap h]; rfl
theorem Blk.c3 {w : World} {g p e : Nat} {u : ByteArray} {v : Value} (h : Blk w g u p e v) : w.cell? ⟨g, 3, none⟩ = some v := by rw [Lib.cell_of_heap h]; rfl
theorem Blk.fz {w : World} {g p e : Nat} {u : ByteArray} {v : Value} (h : Blk w g u p e v) (k : Nat) : w.frozen? ⟨g, k, none⟩ = false := Lib.frozen_of_heap h k
theorem Blk.later {w w' : World} {g p e : Nat} {u : ByteArray} {v : Value} (h : Blk w g u p e v) (b : Below w.heap.size w w') : Blk w' g u p e v := by unfold Blk; rw [b.block g h.lt]; exact h
theorem Blk.drew {w : World} {g p e : Nat} {u : ByteArray} {v : Value} (h : Blk w g u p e v) : Blk w.drew g u p e v := h

theorem set_heap (w : World) (g : Nat) (cs : Array Value) (T : TypeId) (i : Nat) (x : Value) (h : w.heap[g]? = some (.cells cs T (0, 0))) : (w.setCell ⟨g, i, none⟩ x).heap[g]? = some (.cells (cs.setIfInBounds i x) T (0, 0)) := by
  show (w.heap.modify g _)[g]? = _
  rw [Array.getElem?_modify, if_pos rfl, h]
  rfl

theorem touch_refl (w : World) (row : Option Nat) : w.grownBy w row := ⟨rfl, rfl, rfl, Nat.le_refl _, fun _ _ _ => rfl⟩
theorem touch_trans {w w1 w2 : World} {row : Option Nat} (h1 : w.grownBy w1 row) (h2 : w1.grownBy w2 row) : w.grownBy w2 row :=
  ⟨h2.os.trans h1.os, h2.tape.trans h1.tape, h2.output.trans h1.output, Nat.le_trans h1.size h2.size, fun k hk hne => (h2.block k (Nat.lt_of_lt_of_le hk h1.size) hne).trans (h1.block k hk hne)⟩
theorem touch_below {w w1 : World} (row : Option Nat) (h : Below w.heap.size w w1) : w.grownBy w1 row := ⟨h.os, h.tape, h.output, h.size, fun k hk _ => h.block k hk⟩
theorem touch_set (w : World) (g i : Nat) (x : Value) : w.grownBy (w.setCell ⟨g, i, none⟩ x) (some g) :=
  ⟨rfl, rfl, rfl, by simp, fun k _ hne => Below.heap_setCell _ _ _ _ (fun e => hne (congrArg some e))⟩
theorem touch_drew {w w1 : World} {row : Option Nat} (h : w.grownBy w1 row) : w.grownBy w1.drew row := ⟨h.os, h.tape, h.output, h.size, h.block⟩

theorem Blk.set1 {w : World} {g p e : Nat} {u : ByteArray} {v : Value} (h : Blk w g u p e v) (q : Nat) : Blk (w.setCell ⟨g, 1, none⟩ (.int .i64 q)) g u q e v := set_heap w g _ _ 1 _ h
theorem Blk.set2 {w : World} {g p e : Nat} {u : ByteArray} {v : Value} (h : Blk w g u p e v) (f : Nat) : Blk (w.setCell ⟨g, 2, none⟩ (.int .i64 f)) g u p f v := set_heap w g _ _ 2 _ h
theorem Blk.set3 {w : World} {g p e : Nat} {u : ByteArray} {v : Value} (h : Blk w g u p e v) (x : Value) : Blk (w.setCell ⟨g, 3, none⟩ x) g u p e x := set_heap w g _ _ 3 _ h

def FailIs (g : Nat) (u : ByteArray) (p e f e' : Nat) : Prop := ∀ v w, Blk w g u p e v → Calls Try.prog 43 #[.pointer (some ⟨g, 0, none⟩), .int .i64 f] w fun r w' => r = .returned (.tuple #[]) ∧ Blk w' g u p e' v ∧ w.grownBy w' (some g)

theorem fail_first (g : Nat) (u : ByteArray) (p f : Nat) : FailIs g u p 0 f f := by
  intro v w h
  have c2 := h.c2
  have f2 := h.fz 2
  go_enter Try.func43, Try.ntmps43
  go_wp2
  go_end0
  exact ⟨rfl, h.set2 f, touch_set _ _ _ _⟩
theorem fail_later (g : Nat) (u : ByteArray) (p e f : Nat) (he : e ≠ 0) : FailIs g u p e f e := by
  intro v w h
  have c2 := h.c2
  have hne : ((e : Int) == 0) = false := by rw [beq_eq_false_iff_ne]; omega
  go_enter Try.func43, Try.ntmps43
  go_wp2
  go_end0
  exact ⟨rfl, h, touch_refl _ _⟩

/-- what wire has read, or its error -/
def GoOnIs (g : Nat) (u : ByteArray) (p to f p' e' : Nat) : Prop := ∀ v w, Blk w g u p 0 v → Calls Try.prog 50 #[.pointer (some ⟨g, 0, none⟩), .int .i64 to, .int .i64 f] w fun r w' => r = .returned (.tuple #[]) ∧ Blk w' g u p' e' v ∧ w.grownBy w' (some g)
theorem goOn_ok (g : Nat) (u : ByteArray) (p to : Nat) : GoOnIs g u p to 0 to 0 := by
  intro v w h
  have f1 := h.fz 1
  have c1 := h.c1
  go_enter Try.func50, Try.ntmps50
  go_wp2
  go_end0
  exact ⟨rfl, h.set1 to, touch_set _ _ _ _⟩
theorem goOn_err (g : Nat) (u : ByteArray) (p to f : Nat) (hf : f ≠ 0) : GoOnIs g u p to f p f := by
  intro v w h
  have hne : ((f : Int) != 0) = true := by rw [bne_iff_ne]; omega
  have h43 := fail_first g u p f
  go_enter Try.func50, Try.ntmps50
  go_wp2_with (go_at_call 43; refine (h43 _ _ h).mono ?_; rintro e w1 ⟨rfl, b1, t1⟩)
  refine bodyPost_ret (results_none rfl _ _ _) rfl ?_
  exact ⟨rfl, b1, t1⟩

def NumberIs (g : Nat) (u : ByteArray) (p e n p' e' : Nat) : Prop := ∀ v w, Blk w g u p e v → Calls Try.prog 42 #[.pointer (some ⟨g, 0, none⟩)] w fun r w' => r = .returned (.int .u64 n) ∧ Blk w' g u p' e' v ∧ w.grownBy w' (some g)
theorem number_later (g : Nat) (u : ByteArray) (p e : Nat) (he : e ≠ 0) : NumberIs g u p e 0 p e := by
  intro v w h
  have c2 := h.c2
  have hne : ((e : Int) != 0) = true := by rw [bne_iff_ne]; omega
  go_enter Try.func42, Try.ntmps42
  go_wp2
  go_ret
  exact ⟨rfl, h, touch_refl _ _⟩
theorem number_any (g : Nat) (u : ByteArray) (p n to f p' e' : Nat) (hg : num.GetIs u p n to f) (h50 : GoOnIs g u p to f p' e') : NumberIs g u p 0 n p' e' := by
  intro v w h
  have c2 := h.c2
  go_enter Try.func42, Try.ntmps42
  go_wp2
  go_region_held3 (fun W => W.cell? ⟨g, 0, none⟩ = some (.string u) ∧ W.cell? ⟨g, 1, none⟩ = some (.int .i64 p)) (first | assumption | exact ⟨h.c0, h.c1⟩) (first | (go_at_call 49; refine (hg _).mono ?_; rintro e w1 ⟨rfl, rfl⟩))
  go_wp2_with (go_at_call 50; refine (h50 _ _ h.drew).mono ?_; rintro e w1 ⟨rfl, b1, t1⟩)
  go_ret
  exact ⟨rfl, b1, touch_trans (touch_drew (touch_refl _ _)) t1⟩

def BodyIs (g : Nat) (u : ByteArray) (p e : Nat) (t : ByteArray) (p' e' : Nat) : Prop := ∀ v w, Blk w g u p e v → Calls Try.prog 44 #[.pointer (some ⟨g, 0, none⟩)] w fun r w' => r = .returned (.string t) ∧ Blk w' g u p' e' v ∧ w.grownBy w' (some g)
theorem body_later (g : Nat) (u : ByteArray) (p e : Nat) (he : e ≠ 0) : BodyIs g u p e ⟨#[]⟩ p e := by
  intro v w h
  have c2 := h.c2
  have hne : ((e : Int) != 0) = true := by rw [bne_iff_ne]; omega
  go_enter Try.func44, Try.ntmps44
  go_wp2
  go_ret
  exact ⟨rfl, h, touch_refl _ _⟩
theorem rd_next {W W' : World} {g p : Nat} {u : ByteArray} {v : Value} (h : W.cell? ⟨g, 0, none⟩ = some (.string u) ∧ W.cell? ⟨g, 1, none⟩ = some (.int .i64 p) ∧ Blk W g u p 0 v) (b : Below W.heap.size W W') :
    W'.cell? ⟨g, 0, none⟩ = some (.string u) ∧ W'.cell? ⟨g, 1, none⟩ = some (.int .i64 p) ∧ Blk W' g u p 0 v := ⟨(h.2.2.later b).c0, (h.2.2.later b).c1, h.2.2.later b⟩
theorem body_any (g : Nat) (u : ByteArray) (p : Nat) (t : ByteArray) (to f p' e' : Nat) (hg : num.GetTextIs u p 8388608 t to f) (h50 : GoOnIs g u p to f p' e') : BodyIs g u p 0 t p' e' := by
  intro v w h
  have c2 := h.c2
  go_enter Try.func44, Try.ntmps44
  go_wp2
  go_region_held3 (fun W => W.cell? ⟨g, 0, none⟩ = some (.string u) ∧ W.cell? ⟨g, 1, none⟩ = some (.int .i64 p) ∧ Blk W g u p 0 v) (first | assumption | exact ⟨h.c0, h.c1, h⟩ | exact rd_next (by assumption) (by assumption)) (first | (go_at_call 51; refine (hg _).mono ?_; rintro e w1 ⟨rfl, b1⟩))
  go_wp2_with (go_at_call 50; refine (h50 _ _ (h.drew.later b1)).mono ?_; rintro e w2 ⟨rfl, b2, t2⟩)
  go_ret
  exact ⟨rfl, b2, touch_trans (touch_trans (touch_drew (touch_refl _ _)) (touch_below _ b1)) t2⟩

/-- how many follow -/
def CountIs (g : Nat) (u : ByteArray) (n p' e' : Nat) : Prop := ∀ v w, Blk w g u 5 0 v → Calls Try.prog 28 #[.pointer (some ⟨g, 0, none⟩)] w fun r w' => r = .returned (.int .u64 n) ∧ Blk w' g u p' e' v ∧ w.grownBy w' (some g)
theorem count_few (g : Nat) (u : ByteArray) (n p' e' : Nat) (hn : n ≤ 64) (h42 : NumberIs g u 5 0 n p' e') : CountIs g u n p' e' := by
  intro v w h
  go_enter Try.func28, Try.ntmps28
  go_wp2_with (go_at_call 42; refine (h42 _ _ h).mono ?_; rintro e w1 ⟨rfl, b1, t1⟩)
  go_ret
  exact ⟨rfl, b1, t1⟩
theorem count_many (g : Nat) (u : ByteArray) (n p' e' f : Nat) (hn : 64 < n) (h42 : NumberIs g u 5 0 n p' e') (h43 : FailIs g u p' e' 2 f) : CountIs g u n p' f := by
  intro v w h
  go_enter Try.func28, Try.ntmps28
  go_wp2_with (first | (go_at_call 42; refine (h42 _ _ h).mono ?_; rintro e w1 ⟨rfl, b1, t1⟩) | (go_at_call 43; refine (h43 _ _ b1).mono ?_; rintro e w2 ⟨rfl, b2, t2⟩))
  go_ret
  exact ⟨rfl, b2, touch_trans t1 t2⟩
end Go.Proofs.Ytjnjjbacfodacaa.pk
