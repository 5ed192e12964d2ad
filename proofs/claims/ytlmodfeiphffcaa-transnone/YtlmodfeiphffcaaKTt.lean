/-
  Contracts over this program: the document's Size, the law's large and tiny.
-/
import Derived.Test.YtlmodfeiphffcaaM02
namespace Go.Proofs.Ytlmodfeiphffcaa.tr
open Go.ChangeShapes Go.WideShapes Go.ChangeAt Go.RowKit Go.Shelf
set_option linter.unusedVariables false

def mostT (l : List ByteArray) : Nat := l.foldl (fun n t => max n t.size) 0
theorem mostT_snoc (l : List ByteArray) (t : ByteArray) : mostT (l ++ [t]) = max (mostT l) t.size := by simp [mostT]
theorem mostT_le_gen (l : List ByteArray) (n k : Nat) : l.foldl (fun n t => max n t.size) n ≤ k ↔ n ≤ k ∧ ∀ t ∈ l, t.size ≤ k := by
  induction l generalizing n with
  | nil => simp
  | cons t l ih =>
    rw [List.foldl_cons, ih]
    simp only [List.mem_cons, forall_eq_or_imp, Nat.max_le]
    exact and_assoc
theorem mostT_le (l : List ByteArray) (k : Nat) : mostT l ≤ k ↔ ∀ t ∈ l, t.size ≤ k := by
  unfold mostT
  rw [mostT_le_gen]
  simp
def SizeOut (m : Mc) (w : World) (e : Ending) (w' : World) : Prop := ∃ n : Int, e = .returned (.tuple #[.int .i64 n, .int .i64 (mostT m.txt : Int)]) ∧ Below w.heap.size w w'
theorem take_snocT {l : List ByteArray} {i : Nat} (h : i < l.length) : l.take (i + 1) = l.take i ++ [l[i]] := by
  rw [List.take_add_one, List.getElem?_eq_getElem h]; rfl
set_option maxHeartbeats 1000000 in
set_option maxRecDepth 100000 in
theorem size_any (m : Mc) (p : Mp) (w : World) (hM : MAt (In w) w m p) : Calls Try.prog 38 #[.agg (mv m p)] w (SizeOut m w) := by
  have B0 := below_alloc w (.cells (mv m p) 26)
  have hM1 := hM.later B0
  have b0 := box_new w m p
  have hx3 := b0.c3
  have t6 := hM.rtx.fit
  have t7 := hM.rtx.top
  have HT : Hid (Row (In (w.alloc (.cells (mv m p) 26))) (w.alloc (.cells (mv m p) 26)) sv p.xo p.xc m.txt) := hM1.rtx
  clear hM hM1 b0
  go_enter Try.func38, Try.ntmps38
  go_wp2_with (fail)
  generalize w.alloc (.cells (mv m p) 26) = w1 at *
  go_loopw [11, 4, 5] (fun y x z wr => ∃ (i : Nat) (n : Int), y = .int .i64 i ∧ x = .int .i64 n ∧ z = .int .i64 (mostT (m.txt.take i) : Int) ∧ i ≤ m.txt.length ∧ wr = w1) (fun y _ _ _ => m.txt.length - (intOf y).toNat)
  case atStart => exact ⟨0, 0, rfl, rfl, by rw [List.take_zero]; rfl, by omega, rfl⟩
  case round =>
    obtain ⟨i, n, rfl, rfl, rfl, hi, rfl⟩ := hrel
    by_cases hend : i < m.txt.length
    · obtain ⟨b, off, hxo, hb, hc⟩ := HT.out.lie i hend
      have HM : Hid (mostT (m.txt.take (i + 1)) = max (mostT (m.txt.take i)) m.txt[i].size) := by show _ = _; rw [take_snocT hend, mostT_snoc]
      generalize m.txt[i] = t at *
      generalize mostT (m.txt.take i) = k at *
      obtain ⟨no, nc, po, pc, eo, ec, xo, xc⟩ := p
      simp only at hxo hx3 t6 t7
      subst hxo
      by_cases hk : k < t.size
      · have g1 : (k : Int) < (t.size : Int) := by omega
        have HM2 : Hid (mostT (m.txt.take (i + 1)) = t.size) := by show _ = _; rw [HM.out]; omega
        clear HM hk
        go_wp2_with (fail)
        go_roundw
        case rel => exact ⟨i + 1, _, by go_num, rfl, by rw [HM2.out], by omega, trivial⟩
        case measure => simp [intOf]; omega
      · have g1 : ¬ (k : Int) < (t.size : Int) := by omega
        have HM2 : Hid (mostT (m.txt.take (i + 1)) = k) := by show _ = _; rw [HM.out]; omega
        clear HM hk
        go_wp2_with (fail)
        go_roundw
        case rel => exact ⟨i + 1, _, by go_num, rfl, by rw [HM2.out], by omega, trivial⟩
        case measure => simp [intOf]; omega
    · have HE : Hid (m.txt.take i = m.txt) := List.take_of_length_le (by omega)
      rw [HE.out]
      go_wp2_with (fail)
      go_ret2
      exact ⟨n, rfl, B0⟩
def LargeOut (w : World) (e : Ending) (w' : World) : Prop := ∃ r : Bool, e = .returned (.bool r) ∧ Below w.heap.size w w'
set_option maxHeartbeats 1000000 in
set_option maxRecDepth 100000 in
theorem large_any (m : Mc) (p : Mp) (w : World) (hM : MAt (In w) w m p) : Calls Try.prog 17 #[.agg (mv m p)] w (LargeOut w) := by
  have B0 := below_alloc w (.cells (mv m p) 26)
  have hM1 := hM.later B0
  have b0 := box_new w m p
  have c40 := size_any m p _ hM1
  have HB : Hid (∀ W, Below (w.alloc (.cells (mv m p) 26)).heap.size (w.alloc (.cells (mv m p) 26)) W → Box W w.heap.size m p) := fun W b => b0.later b
  have t1 := hM.rnx.fit
  have t2 := hM.rnx.top
  clear hM hM1
  go_enter Try.func17, Try.ntmps17
  go_wp2_with (first | (refine wpList_load_row rfl 26 (.tmp 1) rfl w.heap.size rfl 26 (mv m p) (0, 0) _ b0 Try.underlying26 rfl info26 ?_) | (go_at_call 38; refine c40.mono ?_; rintro e w1 ⟨n, rfl, b1⟩; have x0 := (HB.out w1 b1).c0; clear c40))
  all_goals go_ret
  all_goals exact ⟨_, rfl, chain B0 b1⟩
set_option maxHeartbeats 1000000 in
set_option maxRecDepth 100000 in
theorem tiny_any (m : Mc) (p : Mp) (r : Bool) (hr : r = (decide (m.next.length ≤ 10) && decide (mostT m.txt ≤ 8))) (w : World) (hM : MAt (In w) w m p) : Calls Try.prog 19 #[.agg (mv m p)] w fun e w' => e = .returned (.bool r) ∧ Below w.heap.size w w' := by
  have B0 := below_alloc w (.cells (mv m p) 26)
  have hM1 := hM.later B0
  have b0 := box_new w m p
  have c40 := size_any m p _ hM1
  have HB : Hid (∀ W, Below (w.alloc (.cells (mv m p) 26)).heap.size (w.alloc (.cells (mv m p) 26)) W → Box W w.heap.size m p) := fun W b => b0.later b
  have t1 := hM.rnx.fit
  have t2 := hM.rnx.top
  unfold SizeOut at c40
  have HR : Hid (r = (decide (m.next.length ≤ 10) && decide (mostT m.txt ≤ 8))) := hr
  generalize mostT m.txt = k at *
  clear hM hM1 hr
  by_cases h1 : m.next.length ≤ 10
  · by_cases h2 : k ≤ 8
    · have g1 : (k : Int) ≤ 8 := by omega
      have HR2 : Hid (r = true) := by show _ = _; rw [HR.out]; simp [h1, h2]
      clear HR
      go_enter Try.func19, Try.ntmps19
      go_wp2_with (first | (refine wpList_load_row rfl 26 (.tmp 1) rfl w.heap.size rfl 26 (mv m p) (0, 0) _ b0 Try.underlying26 rfl info26 ?_) | (go_at_call 38; refine c40.mono ?_; rintro e w1 ⟨n, rfl, b1⟩; have x0 := (HB.out w1 b1).c0; clear c40))
      go_ret
      exact ⟨by rw [HR2.out]; rfl, chain B0 b1⟩
    · have g0 : ¬ (k : Int) ≤ 8 := by omega
      have g1 : decide ((k : Int) ≤ 8) = false := decide_eq_false g0
      clear g0
      have HR2 : Hid (r = false) := by show _ = _; rw [HR.out]; simp [h1, h2]
      clear HR
      go_enter Try.func19, Try.ntmps19
      go_wp2_with (first | (refine wpList_load_row rfl 26 (.tmp 1) rfl w.heap.size rfl 26 (mv m p) (0, 0) _ b0 Try.underlying26 rfl info26 ?_) | (go_at_call 38; refine c40.mono ?_; rintro e w1 ⟨n, rfl, b1⟩; have x0 := (HB.out w1 b1).c0; clear c40))
      go_ret
      exact ⟨by rw [HR2.out]; rfl, chain B0 b1⟩
  · have HR2 : Hid (r = false) := by show _ = _; rw [HR.out]; simp [h1]
    clear HR
    go_enter Try.func19, Try.ntmps19
    go_wp2_with (first | (refine wpList_load_row rfl 26 (.tmp 1) rfl w.heap.size rfl 26 (mv m p) (0, 0) _ b0 Try.underlying26 rfl info26 ?_) | (go_at_call 38; refine c40.mono ?_; rintro e w1 ⟨n, rfl, b1⟩; have x0 := (HB.out w1 b1).c0; clear c40))
    go_ret
    exact ⟨by rw [HR2.out]; rfl, chain B0 b1⟩
end Go.Proofs.Ytlmodfeiphffcaa.tr
