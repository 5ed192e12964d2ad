/-
  Contracts over this program: the document's letters of an operation's fields (Fields), and a letter's value, bound and setting (Value, Most, With).
-/
import Derived.Test.YtdekkjnlmlkbdaaDoorIc
namespace Go.Proofs.YtdekkjnlmlkbdaaDoor.is
open Go.ChangeShapes Go.WideShapes Go.ChangeAt Go.RowKit
set_option linter.unusedVariables false

def lb (o : Nat) : ByteArray := ba ((lets o).map UInt8.ofNat)
def RFieldsIs (o : Nat) : Prop := ∀ w, Calls Tryd.prog 22 #[.int .i64 o] w fun e w' => e = .returned (.string (lb o)) ∧ Below w.heap.size w w'
theorem ops17 (o : Nat) (h1 : 1 ≤ o) (h2 : o ≤ 17) : o = 1 ∨ o = 2 ∨ o = 3 ∨ o = 4 ∨ o = 5 ∨ o = 6 ∨ o = 7 ∨ o = 8 ∨ o = 9 ∨ o = 10 ∨ o = 11 ∨ o = 12 ∨ o = 13 ∨ o = 14 ∨ o = 15 ∨ o = 16 ∨ o = 17 := by omega
set_option maxHeartbeats 2000000 in
set_option maxRecDepth 100000 in
theorem rfields_any (o : Nat) (h1 : 1 ≤ o) (h2 : o ≤ 17) : RFieldsIs o := by
  intro w
  rcases ops17 o h1 h2 with rfl | rfl | rfl | rfl | rfl | rfl | rfl | rfl | rfl | rfl | rfl | rfl | rfl | rfl | rfl | rfl | rfl <;>
  (clear h1 h2
   go_enter Tryd.func22, Tryd.ntmps22
   go_wp2
   go_ret
   exact ⟨rfl, (Below.refl _ _).alloc (Nat.le_refl _) _⟩)

theorem eq_no {c : Nat} {k : Nat} (h : c ≠ k) : ((c : Int) == (k : Int)) = false := by rw [beq_eq_false_iff_ne]; omega
def ValueIs (i : In) (c : Nat) (v : Int) : Prop := ∀ w, Calls Tryd.prog 23 #[vI i, .int .u8 c] w fun e w' => e = .returned (.int .i64 v) ∧ Below w.heap.size w w'
set_option maxHeartbeats 2000000 in
set_option maxRecDepth 100000 in
theorem value_any (i : In) (c : Nat) : ValueIs i c (valC i c) := by
  intro w
  obtain ⟨op, a, b, cc, d⟩ := i
  unfold vI
  by_cases h0 : c = 97
  · subst h0
    go_enter Tryd.func23, Tryd.ntmps23
    go_wp2
    go_ret
    exact ⟨rfl, (Below.refl _ _).alloc (Nat.le_refl _) _⟩
  by_cases h1 : c = 107
  · subst h1
    go_enter Tryd.func23, Tryd.ntmps23
    go_wp2
    go_ret
    exact ⟨rfl, (Below.refl _ _).alloc (Nat.le_refl _) _⟩
  by_cases h2 : c = 98
  · subst h2
    go_enter Tryd.func23, Tryd.ntmps23
    go_wp2
    go_ret
    exact ⟨rfl, (Below.refl _ _).alloc (Nat.le_refl _) _⟩
  by_cases h3 : c = 110
  · subst h3
    go_enter Tryd.func23, Tryd.ntmps23
    go_wp2
    go_ret
    exact ⟨rfl, (Below.refl _ _).alloc (Nat.le_refl _) _⟩
  by_cases h4 : c = 112
  · subst h4
    go_enter Tryd.func23, Tryd.ntmps23
    go_wp2
    go_ret
    exact ⟨rfl, (Below.refl _ _).alloc (Nat.le_refl _) _⟩
  have HV : Hid (valC ⟨op, a, b, cc, d⟩ c = d) := by show _ = _; simp [valC, h0, h1, h2, h3, h4]
  have e0 : ((c : Int) == 97) = false := eq_no h0
  have e1 : ((c : Int) == 107) = false := eq_no h1
  have e2 : ((c : Int) == 98) = false := eq_no h2
  have e3 : ((c : Int) == 110) = false := eq_no h3
  have e4 : ((c : Int) == 112) = false := eq_no h4
  clear h0 h1 h2 h3 h4
  go_enter Tryd.func23, Tryd.ntmps23
  go_wp2
  go_ret
  exact ⟨by rw [HV.out]; rfl, (Below.refl _ _).alloc (Nat.le_refl _) _⟩

def MostIs (c : Nat) (v : Nat) : Prop := ∀ w, Calls Tryd.prog 24 #[.int .u8 c] w fun e w' => e = .returned (.int .i64 v) ∧ w' = w
set_option maxHeartbeats 2000000 in
set_option maxRecDepth 100000 in
theorem most_any (c : Nat) : MostIs c (mostC c) := by
  intro w
  by_cases h0 : c = 97
  · subst h0
    go_enter Tryd.func24, Tryd.ntmps24
    go_wp2
    go_ret
    exact ⟨rfl, rfl⟩
  by_cases h1 : c = 98
  · subst h1
    go_enter Tryd.func24, Tryd.ntmps24
    go_wp2
    go_ret
    exact ⟨rfl, rfl⟩
  by_cases h2 : c = 107
  · subst h2
    go_enter Tryd.func24, Tryd.ntmps24
    go_wp2
    go_ret
    exact ⟨rfl, rfl⟩
  by_cases h3 : c = 110
  · subst h3
    go_enter Tryd.func24, Tryd.ntmps24
    go_wp2
    go_ret
    exact ⟨rfl, rfl⟩
  by_cases h4 : c = 112
  · subst h4
    go_enter Tryd.func24, Tryd.ntmps24
    go_wp2
    go_ret
    exact ⟨rfl, rfl⟩
  have HV : Hid (mostC c = 15) := by show _ = _; simp [mostC, h0, h1, h2, h3, h4]
  have e0 : ((c : Int) == 97) = false := eq_no h0
  have e1 : ((c : Int) == 98) = false := eq_no h1
  have e2 : ((c : Int) == 107) = false := eq_no h2
  have e3 : ((c : Int) == 110) = false := eq_no h3
  have e4 : ((c : Int) == 112) = false := eq_no h4
  clear h0 h1 h2 h3 h4
  go_enter Tryd.func24, Tryd.ntmps24
  go_wp2
  go_ret
  exact ⟨by rw [HV.out]; rfl, rfl⟩

theorem ret23 {fn : Func} {p : Tmp} (h : fn.results = #[.cell p 23]) {a : Act} {W : World} {R : Ending → World → Prop} (g : Nat) (i : In) (hp : a.tmps.getD p undef = .pointer (some ⟨g, 0, none⟩)) (hb : IBlk W g i) (hd : a.defers = [])
    (hR : R (.returned (vI i)) W) : bodyPost Tryd.prog fn R .ret a W :=
  bodyPost_ret (results_cell_row h _ _ g 23 _ (0, 0) _ hp hb Tryd.underlying23 rfl (by kernel_rfl)) hd hR
def WithIs (i : In) (c : Nat) (v : Int) (r : In) : Prop := ∀ w, Calls Tryd.prog 25 #[vI i, .int .u8 c, .int .i64 v] w fun e w' => e = .returned (vI r) ∧ Below w.heap.size w w'
set_option maxHeartbeats 2000000 in
set_option maxRecDepth 100000 in
theorem with_any (i : In) (c : Nat) (v : Int) : WithIs i c v (withC i c v) := by
  intro w
  obtain ⟨op, a, b, cc, d⟩ := i
  unfold vI
  by_cases h0 : c = 97
  · subst h0
    go_enter Tryd.func25, Tryd.ntmps25
    go_wp2
    exact ret23 Tryd.results25 (w.heap.size + 1) ⟨op, v, b, cc, d⟩ rfl (heap_alloc2_new w _ _) rfl ⟨rfl, ((Below.refl _ _).alloc (Nat.le_refl _) _).alloc (by simp) _⟩
  by_cases h1 : c = 107
  · subst h1
    go_enter Tryd.func25, Tryd.ntmps25
    go_wp2
    exact ret23 Tryd.results25 (w.heap.size + 1) ⟨op, v, b, cc, d⟩ rfl (heap_alloc2_new w _ _) rfl ⟨rfl, ((Below.refl _ _).alloc (Nat.le_refl _) _).alloc (by simp) _⟩
  by_cases h2 : c = 98
  · subst h2
    go_enter Tryd.func25, Tryd.ntmps25
    go_wp2
    exact ret23 Tryd.results25 (w.heap.size + 1) ⟨op, a, v, cc, d⟩ rfl (heap_alloc2_new w _ _) rfl ⟨rfl, ((Below.refl _ _).alloc (Nat.le_refl _) _).alloc (by simp) _⟩
  by_cases h3 : c = 110
  · subst h3
    go_enter Tryd.func25, Tryd.ntmps25
    go_wp2
    exact ret23 Tryd.results25 (w.heap.size + 1) ⟨op, a, v, cc, d⟩ rfl (heap_alloc2_new w _ _) rfl ⟨rfl, ((Below.refl _ _).alloc (Nat.le_refl _) _).alloc (by simp) _⟩
  by_cases h4 : c = 112
  · subst h4
    go_enter Tryd.func25, Tryd.ntmps25
    go_wp2
    exact ret23 Tryd.results25 (w.heap.size + 1) ⟨op, a, b, v, d⟩ rfl (heap_alloc2_new w _ _) rfl ⟨rfl, ((Below.refl _ _).alloc (Nat.le_refl _) _).alloc (by simp) _⟩
  by_cases h5 : c = 116
  · subst h5
    go_enter Tryd.func25, Tryd.ntmps25
    go_wp2
    exact ret23 Tryd.results25 (w.heap.size + 1) ⟨op, a, b, cc, v⟩ rfl (heap_alloc2_new w _ _) rfl ⟨rfl, ((Below.refl _ _).alloc (Nat.le_refl _) _).alloc (by simp) _⟩
  have HV : Hid (withC ⟨op, a, b, cc, d⟩ c v = ⟨op, a, b, cc, d⟩) := by show _ = _; simp [withC, h0, h1, h2, h3, h4, h5]
  have e0 : ((c : Int) == 97) = false := eq_no h0
  have e1 : ((c : Int) == 107) = false := eq_no h1
  have e2 : ((c : Int) == 98) = false := eq_no h2
  have e3 : ((c : Int) == 110) = false := eq_no h3
  have e4 : ((c : Int) == 112) = false := eq_no h4
  have e5 : ((c : Int) == 116) = false := eq_no h5
  rw [HV.out]
  clear h0 h1 h2 h3 h4 h5 HV
  go_enter Tryd.func25, Tryd.ntmps25
  go_wp2
  exact ret23 Tryd.results25 (w.heap.size + 1) ⟨op, a, b, cc, d⟩ rfl (heap_alloc2_new w _ _) rfl ⟨rfl, ((Below.refl _ _).alloc (Nat.le_refl _) _).alloc (by simp) _⟩
end Go.Proofs.YtdekkjnlmlkbdaaDoor.is
