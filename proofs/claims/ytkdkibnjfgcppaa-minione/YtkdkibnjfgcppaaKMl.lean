/-
  Contracts over this program: math/bits.Mul and slices.Repeat, of one number.
-/
import Derived.Test.YtkdkibnjfgcppaaKMk
import Derived.Laws.MathBits
import Derived.Laws.CopyRow
import Derived.Deep.RegionLaw
import Derived.BigRegion
namespace Go.Proofs.Ytkdkibnjfgcppaa.mi
open Go.ChangeShapes Go.WideShapes Go.ChangeAt Go.RowKit Go.Shelf Go.Maps
set_option linter.unusedVariables false

set_option maxHeartbeats 1000000 in
theorem mul64_any (c : Nat) (hc : c ≤ 1000000) (w : World) : Calls Try.prog 90 #[.int .u64 1, .int .u64 (c : Int)] w fun e w' => e = .returned (.tuple #[.int .u64 0, .int .u64 (c : Int)]) ∧ w' = w := by
  have a1 : bits .and .u64 1 4294967295 = 1 := by rw [and_low32 _ (by omega) (by omega)]; rfl
  have a2 : bits .and .u64 (c : Int) 4294967295 = (c : Int) := by rw [and_low32 _ (by omega) (by omega)]; omega
  have a3 : bits .and .u64 0 4294967295 = 0 := by rw [and_low32 _ (by omega) (by omega)]; rfl
  have d1 : ((c : Int) / 4294967296) = 0 := by omega
  go_enter Try.func90, Try.ntmps90
  go_wp2_with (fail)
  go_ret2
  exact ⟨rfl, rfl⟩
set_option maxHeartbeats 1000000 in
theorem mul_any (c : Nat) (hc : c ≤ 1000000) (w : World) : Calls Try.prog 81 #[.int .u64 1, .int .u64 (c : Int)] w fun e w' => e = .returned (.tuple #[.int .u64 0, .int .u64 (c : Int)]) ∧ w' = w := by
  have c90 := fun w => mul64_any c hc w
  go_enter Try.func81, Try.ntmps81
  go_wp2_with (go_at_call 90; refine (c90 _).mono ?_; rintro e w1 ⟨rfl, h⟩; obtain rfl := h.symm)
  go_ret2
  exact ⟨rfl, rfl⟩
/-- a row of numbers in a block of its own -/
def ZRow (w : World) (g : Nat) (l : List Int) : Prop := w.heap[g]? = some (.cells (ics l) 3 (0, 0))
theorem ZRow.lt {w : World} {g : Nat} {l : List Int} (h : ZRow w g l) : g < w.heap.size := (Array.getElem?_eq_some_iff.1 h).1
theorem ZRow.cell {w : World} {g : Nat} {l : List Int} (h : ZRow w g l) {i : Nat} {x : Int} (hx : l[i]? = some x) : w.cell? ⟨g, i, none⟩ = some (.int .i64 x) := by
  rw [Lib.cell_of_heap h]
  simp [ics, hx]
theorem ZRow.put {w : World} {g : Nat} {l : List Int} (h : ZRow w g l) (i : Nat) (v : Int) : ZRow (w.setCell ⟨g, i, none⟩ (.int .i64 v)) g (l.set i v) := by
  unfold ZRow
  rw [set_heap w _ _ _ i _ h]
  unfold ics
  rw [List.setIfInBounds_toArray, List.map_set]
theorem ics_made (n : Nat) : madeCells #[.int .i64 0] n = ics (List.replicate n 0) := by
  apply Array.toList_inj.1
  rw [toList_madeCells_one]
  simp [ics]
theorem makeZ (n : Nat) (hn : n ≤ 1000000) (W : World) : (Instr.makeSlice 39 (.int .i64 (n : Int)) (.int .i64 (n : Int))).run Try.prog W = .ok (.slice (some ⟨W.heap.size, 0, none⟩) n n) (W.alloc (.cells (ics (List.replicate n 0)) 3)) := by
  rw [← ics_made]
  exact run_make_row' (P := Try.prog) 39 3 (.int .i64 0) 8 Try.underlying39 info3 rfl .i64 .i64 n (by omega) (by omega) W
/-- v so often, then noughts -/
def rpl (v : Int) (n c : Nat) : List Value := List.replicate n (.int .i64 v) ++ List.replicate (c - n) (.int .i64 0)
theorem rpl_len (v : Int) (n c : Nat) (h : n ≤ c) : (rpl v n c).length = c := by simp [rpl]; omega
theorem rpl_splice (v : Int) (n m c : Nat) (h : n + m ≤ c) : splice (rpl v n c) n (List.replicate m (.int .i64 v)) = rpl v (n + m) c := by
  unfold splice rpl
  rw [List.take_left' (by simp), List.length_replicate, List.drop_append, List.length_replicate]
  rw [List.drop_eq_nil_of_le (by simp), List.nil_append, List.drop_replicate, ← List.append_assoc, List.replicate_append_replicate]
  congr 2
  omega
theorem rpl_get (v : Int) (n c j : Nat) (h : j < n) : (rpl v n c)[j]? = some (.int .i64 v) := by
  unfold rpl
  rw [List.getElem?_append_left (by simpa using h), List.getElem?_replicate, if_pos h]
theorem rpl_all (v : Int) (c : Nat) : (rpl v c c).toArray = ics (List.replicate c v) := by simp [rpl, ics]
theorem rpl_none (v : Int) (c : Nat) : ics (List.replicate c 0) = (rpl v 0 c).toArray := by simp [rpl, ics]
theorem info3s : (Try.prog.info? 3).map (·.size) = some 1 := by kernel_rfl
set_option maxHeartbeats 2000000 in
set_option maxRecDepth 100000 in
theorem repeat_any (v : Int) (c : Nat) (hc1 : 1 ≤ c) (hc : c ≤ 1000000) (g0 : Nat) (w : World) (hg0 : w.cell? ⟨g0, 0, none⟩ = some (.int .i64 v)) (hgl : g0 < w.heap.size) :
    Calls Try.prog 61 #[.slice (some ⟨g0, 0, none⟩) 1 1, .int .i64 (c : Int)] w fun e w' => e = .returned (.slice (some ⟨w.heap.size, 0, none⟩) c c) ∧ ZRow w' w.heap.size (List.replicate c v) ∧ Below w.heap.size w w' := by
  have c81 := fun w => mul_any c hc w
  have hmk := makeZ c hc
  obtain ⟨wA, hwA⟩ : ∃ wA, wA = w.alloc (.cells (ics (List.replicate c 0)) 3) := ⟨_, rfl⟩
  have B0 : Below w.heap.size w wA := by rw [hwA]; exact below_alloc w _
  have h0 : wA.heap[w.heap.size]? = some (.cells (rpl v 0 c).toArray 3 (0, 0)) := by rw [hwA, ← rpl_none]; exact heap_alloc_new w _
  have hsrc : ∀ j u, ([Value.int .i64 v] : List Value)[j]? = some u → wA.cell? ((⟨g0, 0, none⟩ : Addr).add j) = some u := fun j u hu => by
    rcases j with _ | j
    · simp at hu
      subst hu
      rw [show (⟨g0, 0, none⟩ : Addr).add 0 = ⟨g0, 0, none⟩ from rfl]
      exact (B0.cell (p := ⟨g0, 0, none⟩) hgl).trans hg0
    · simp at hu
  have hcp := run_copy_row (P := Try.prog) wA 39 39 3 3 w.heap.size 0 c c ⟨g0, 0, none⟩ 1 1 (rpl v 0 c).toArray 3 [.int .i64 v] Try.underlying39 info3s h0 (by show 1 = Nat.min 1 c; simp [Nat.min_def]; omega) hsrc (by simp [rpl_len]; omega) (by intro u hu; simp at hu; subst hu; rfl)
  have e1 : (((rpl v 0 c).toArray.toList.take 0 ++ ([Value.int .i64 v] ++ (rpl v 0 c).toArray.toList.drop (0 + [Value.int .i64 v].length))).toArray) = (rpl v 1 c).toArray := by
    have := rpl_splice v 0 1 c (by omega)
    unfold splice at this
    rw [← show (0 + 1 : Nat) = 1 from rfl, ← this]
    rfl
  rw [List.append_assoc, e1] at hcp
  obtain ⟨w2, hw2⟩ : ∃ w2, w2 = wA.setRow w.heap.size (rpl v 1 c).toArray := ⟨_, rfl⟩
  have h2 : w2.heap[w.heap.size]? = some (.cells (rpl v 1 c).toArray 3 (0, 0)) := by rw [hw2]; exact setRow_heap _ _ _ _ _ _ h0
  have B2 : Below w.heap.size w w2 := by rw [hw2]; exact below_setRow B0 (Nat.le_refl _) _
  rw [← hw2, hwA] at hcp
  have e0 : ((([Value.int .i64 v] : List Value).length : Nat) : Int) = 1 := rfl
  simp only [List.length_cons, List.length_nil, Nat.zero_add] at hcp
  clear hsrc h0 hwA e1 hw2
  go_enter Try.func61, Try.ntmps61
  go_wp2_with (first | (go_at_call 81; (refine (c81 _).mono ?_); rintro e w1 ⟨rfl, h⟩; obtain rfl := h.symm))
  clear hcp hmk c81
  go_loopw [8] (fun y wr => ∃ n : Nat, y = .int .i64 (n : Int) ∧ 1 ≤ n ∧ n ≤ c ∧ Hid (wr.heap[w.heap.size]? = some (.cells (rpl v n c).toArray 3 (0, 0))) ∧ Below w.heap.size w wr) (fun y _ => c - (intOf y).toNat)
  case atStart => exact ⟨1, rfl, by omega, hc1, h2, B2⟩
  case round =>
    obtain ⟨n, rfl, hn1, hnc, HR, hB⟩ := hrel
    by_cases hlt : n < c
    · obtain ⟨m, hm⟩ : ∃ m, m = Nat.min n (c - n) := ⟨_, rfl⟩
      have hm1 : 1 ≤ m := by rw [hm]; simp [Nat.min_def]; split <;> omega
      have hm2 : n + m ≤ c := by rw [hm]; simp [Nat.min_def]; split <;> omega
      have HM : Hid (m = Nat.min n (c - n)) := hm
      have hmn : m ≤ n := by rw [hm]; exact Nat.min_le_left _ _
      clear hm
      have HSRC : Hid (∀ j u, (List.replicate m (Value.int .i64 v))[j]? = some u → wr.drew.cell? ((⟨w.heap.size, 0, none⟩ : Addr).add j) = some u) := fun j u hu => by
        have hj : j < m := by have := (List.getElem?_eq_some_iff.1 hu).1; simpa using this
        rw [List.getElem?_replicate, if_pos hj] at hu
        have hadd : (⟨w.heap.size, 0, none⟩ : Addr).add j = ⟨w.heap.size, j, none⟩ := by unfold Addr.add; split <;> simp_all
        rw [hadd]
        show wr.cell? ⟨w.heap.size, j, none⟩ = some u
        rw [Lib.cell_of_heap HR.out, ← hu]
        have := rpl_get v n c j (by omega)
        simpa using this
      have hwr : IntKind.i64.wrap ((n : Int) + (m : Int)) = (n : Int) + (m : Int) := IntWalk.i64_in _ (by omega)
      go_wp2_with (fail)
      go_region_law (refine step_copy_splice rfl (.tmp 41) (.tmp 44) 39 39 rfl 3 Try.underlying39 info3s (some ⟨w.heap.size, n, none⟩) (some ⟨w.heap.size, 0, none⟩) (c - n) (c - n) n c (by simp [Act.eval, Act.put]; omega) (by simp [Act.eval, Act.put]) w.heap.size n (rpl v n c) 3 HR.out (List.replicate m (.int .i64 v)) (by rw [List.length_replicate]; exact HM.out) (fun _ => ⟨rfl, _, rfl, HSRC.out⟩) (by rw [List.length_replicate, rpl_len _ _ _ (by omega)]; exact hm2) (by intro u hu; rw [List.eq_of_mem_replicate hu]; rfl) w.heap.size w (below_drewN hB 1) (Nat.le_refl _) ?_; intro w4 hg4 hb4)
      have HR4 : Hid (w4.heap[w.heap.size]? = some (.cells (rpl v (n + m) c).toArray 3 (0, 0))) := by
        have := hg4.out
        rw [rpl_splice v n m c hm2] at this
        exact this
      simp only [Act.put, List.getElem_toArray, List.getElem_cons_succ, List.getElem_cons_zero, Array.setIfInBounds, List.size_toArray, List.length_cons, List.length_nil, Nat.reduceAdd, Nat.reduceLT, dite_true, List.set_toArray, List.set_cons_succ, List.set_cons_zero]
      go_wp2_with (fail)
      go_roundw
      case rel => exact ⟨n + m, rfl, by omega, hm2, HR4, hb4⟩
      case measure => simp [intOf]; omega
    · obtain rfl : n = c := by omega
      go_wp2_with (fail)
      go_ret
      refine ⟨rfl, ?_, hB⟩
      unfold ZRow
      rw [← rpl_all]
      exact HR.out
end Go.Proofs.Ytkdkibnjfgcppaa.mi
