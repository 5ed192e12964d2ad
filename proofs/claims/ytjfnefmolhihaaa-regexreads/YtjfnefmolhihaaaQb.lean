/-
  Contracts over this program: the document's small tests of a byte (fretsawref06's Sign, digit, hex).
-/
import Derived.Test.YtjfnefmolhihaaaQa
import Derived.Lib.SlBytesConst
namespace Go.Proofs.Ytjfnefmolhihaaa.st
open Go.Sort Go.ChangeShapes Go.WideShapes Go.ChangeAt Go.RowKit
set_option linter.unusedVariables false

def DigIs (c : Int) (r : Bool) : Prop := ∀ w, Calls Try.prog 51 #[.int .i64 c] w fun e w' => e = .returned (.bool r) ∧ w' = w
theorem digit_yes (c : Int) (h1 : 48 ≤ c) (h2 : c ≤ 57) : DigIs c true := by
  intro w
  have f1 : decide (48 ≤ c) = true := by simpa using h1
  have f2 : decide (c ≤ 57) = true := by simpa using h2
  clear h1 h2
  go_enter Try.func51, Try.ntmps51
  go_wp2
  go_ret
  exact ⟨rfl, rfl⟩
theorem digit_low (c : Int) (h1 : c < 48) : DigIs c false := by
  intro w
  have f1 : decide (48 ≤ c) = false := by rw [decide_eq_false_iff_not]; omega
  clear h1
  go_enter Try.func51, Try.ntmps51
  go_wp2
  go_ret
  exact ⟨rfl, rfl⟩
theorem digit_high (c : Int) (h1 : 57 < c) : DigIs c false := by
  intro w
  have f1 : decide (48 ≤ c) = true := by rw [decide_eq_true_eq]; omega
  have f2 : decide (c ≤ 57) = false := by rw [decide_eq_false_iff_not]; omega
  clear h1
  go_enter Try.func51, Try.ntmps51
  go_wp2
  go_ret
  exact ⟨rfl, rfl⟩
theorem digit_any (c : Int) (r : Bool) (hr : r = decide (48 ≤ c ∧ c ≤ 57)) : DigIs c r := by
  subst hr
  by_cases h1 : c < 48
  · rw [decide_eq_false (by omega)]; exact digit_low c h1
  · by_cases h2 : c ≤ 57
    · rw [decide_eq_true (by omega)]; exact digit_yes c (by omega) h2
    · rw [decide_eq_false (by omega)]; exact digit_high c (by omega)

def HexIs (c r : Int) : Prop := ∀ w, Calls Try.prog 60 #[.int .i64 c] w fun e w' => e = .returned (.int .i64 r) ∧ w' = w
theorem hexd (c : Int) (h1 : 48 ≤ c) (h2 : c ≤ 57) : HexIs c (c - 48) := by
  intro w
  have h51 := digit_any c true (by rw [decide_eq_true]; omega)
  go_enter Try.func60, Try.ntmps60
  go_wp2_with (go_at_call 51; refine (h51 _).mono ?_; rintro e w1 ⟨rfl, h⟩; obtain rfl := h.symm)
  go_ret
  exact ⟨rfl, rfl⟩
theorem hexa (c : Int) (h1 : 97 ≤ c) (h2 : c ≤ 102) : HexIs c (c - 97 + 10) := by
  intro w
  have h51 := digit_any c false (by rw [decide_eq_false]; omega)
  have f1 : decide (97 ≤ c) = true := by simpa using h1
  have f2 : decide (c ≤ 102) = true := by simpa using h2
  go_enter Try.func60, Try.ntmps60
  go_wp2_with (go_at_call 51; refine (h51 _).mono ?_; rintro e w1 ⟨rfl, h⟩; obtain rfl := h.symm)
  go_ret
  exact ⟨rfl, rfl⟩
theorem hexA (c : Int) (h1 : 65 ≤ c) (h2 : c ≤ 70) : HexIs c (c - 65 + 10) := by
  intro w
  have h51 := digit_any c false (by rw [decide_eq_false]; omega)
  have f0 : decide (97 ≤ c) = false := by rw [decide_eq_false_iff_not]; omega
  have f1 : decide (65 ≤ c) = true := by simpa using h1
  have f2 : decide (c ≤ 70) = true := by simpa using h2
  go_enter Try.func60, Try.ntmps60
  go_wp2_with (go_at_call 51; refine (h51 _).mono ?_; rintro e w1 ⟨rfl, h⟩; obtain rfl := h.symm)
  go_ret
  exact ⟨rfl, rfl⟩
theorem hexno (c : Int) (h0 : ¬ (48 ≤ c ∧ c ≤ 57)) (h1 : ¬ (97 ≤ c ∧ c ≤ 102)) (h2 : ¬ (65 ≤ c ∧ c ≤ 70)) : HexIs c (-1) := by
  intro w
  have h51 := digit_any c false (by rw [decide_eq_false h0])
  by_cases a1 : 97 ≤ c
  · have f1 : decide (97 ≤ c) = true := by simpa using a1
    have f2 : decide (c ≤ 102) = false := by rw [decide_eq_false_iff_not]; omega
    have f3 : decide (65 ≤ c) = true := by rw [decide_eq_true_eq]; omega
    have f4 : decide (c ≤ 70) = false := by rw [decide_eq_false_iff_not]; omega
    clear h0 h1 h2 a1
    go_enter Try.func60, Try.ntmps60
    go_wp2_with (go_at_call 51; refine (h51 _).mono ?_; rintro e w1 ⟨rfl, h⟩; obtain rfl := h.symm)
    go_ret
    exact ⟨rfl, rfl⟩
  · have f1 : decide (97 ≤ c) = false := by simpa using a1
    by_cases a2 : 65 ≤ c
    · have f3 : decide (65 ≤ c) = true := by rw [decide_eq_true_eq]; omega
      have f4 : decide (c ≤ 70) = false := by rw [decide_eq_false_iff_not]; omega
      clear h0 h1 h2 a1 a2
      go_enter Try.func60, Try.ntmps60
      go_wp2_with (go_at_call 51; refine (h51 _).mono ?_; rintro e w1 ⟨rfl, h⟩; obtain rfl := h.symm)
      go_ret
      exact ⟨rfl, rfl⟩
    · have f3 : decide (65 ≤ c) = false := by rw [decide_eq_false_iff_not]; omega
      clear h0 h1 h2 a1 a2
      go_enter Try.func60, Try.ntmps60
      go_wp2_with (go_at_call 51; refine (h51 _).mono ?_; rintro e w1 ⟨rfl, h⟩; obtain rfl := h.symm)
      go_ret
      exact ⟨rfl, rfl⟩

def SignIs (c : Int) (r : Bool) : Prop := ∀ w, Calls Try.prog 50 #[.int .i64 c] w fun e w' => e = .returned (.bool r) ∧ RowKit.Below w.heap.size w w'
def signRow : Obj := .cells #[.int .u8 92, .int .u8 40, .int .u8 41, .int .u8 91, .int .u8 93, .int .u8 123, .int .u8 125, .int .u8 46, .int .u8 42, .int .u8 43, .int .u8 63, .int .u8 124, .int .u8 94, .int .u8 36] 5 (14, 15)
theorem convert_row (w : World) : (convert 79 79 (.slice (some ⟨w.heap.size, 0, none⟩) 14 14)).run Try.prog (w.alloc (.cells #[.int .u8 92, .int .u8 40, .int .u8 41, .int .u8 91, .int .u8 93, .int .u8 123, .int .u8 125, .int .u8 46, .int .u8 42, .int .u8 43, .int .u8 63, .int .u8 124, .int .u8 94, .int .u8 36] 5)) = .ok (.slice (some ⟨w.heap.size, 0, none⟩) 14 14) (w.alloc (.cells #[.int .u8 92, .int .u8 40, .int .u8 41, .int .u8 91, .int .u8 93, .int .u8 123, .int .u8 125, .int .u8 46, .int .u8 42, .int .u8 43, .int .u8 63, .int .u8 124, .int .u8 94, .int .u8 36] 5 (14, 15))) :=
  Lib.run_convert_bytes_const w 79 5 _ 14 14 Try.underlying79 Try.underlying5
theorem sign_cell (w : World) (k : Nat) (hk : k < 14) : ∃ s : Nat, s < 256 ∧ signs[k]? = some s ∧ (w.alloc signRow).cell? ⟨w.heap.size, k, none⟩ = some (.int .u8 s) := by
  have h : (w.alloc signRow).heap[w.heap.size]? = some signRow := heap_alloc_new w _
  have hc : (w.alloc signRow).cell? ⟨w.heap.size, k, none⟩ = _ := Lib.cell_of_heap h k
  rw [hc]
  match k, hk with
  | 0, _ => exact ⟨_, by decide, rfl, rfl⟩
  | 1, _ => exact ⟨_, by decide, rfl, rfl⟩
  | 2, _ => exact ⟨_, by decide, rfl, rfl⟩
  | 3, _ => exact ⟨_, by decide, rfl, rfl⟩
  | 4, _ => exact ⟨_, by decide, rfl, rfl⟩
  | 5, _ => exact ⟨_, by decide, rfl, rfl⟩
  | 6, _ => exact ⟨_, by decide, rfl, rfl⟩
  | 7, _ => exact ⟨_, by decide, rfl, rfl⟩
  | 8, _ => exact ⟨_, by decide, rfl, rfl⟩
  | 9, _ => exact ⟨_, by decide, rfl, rfl⟩
  | 10, _ => exact ⟨_, by decide, rfl, rfl⟩
  | 11, _ => exact ⟨_, by decide, rfl, rfl⟩
  | 12, _ => exact ⟨_, by decide, rfl, rfl⟩
  | 13, _ => exact ⟨_, by decide, rfl, rfl⟩
set_option maxHeartbeats 1000000 in
theorem sign_any (c : Int) (r : Bool) (hr : r = decide (∃ s ∈ signs, (s : Int) = c)) : SignIs c r := by
  intro w
  have hcv := convert_row w
  have HR : Hid (r = decide (∃ s ∈ signs, (s : Int) = c)) := hr
  clear hr
  go_enter Try.func50, Try.ntmps50
  go_wp2
  obtain ⟨W, hW⟩ : ∃ W, W = w.alloc (.cells #[.int .u8 92, .int .u8 40, .int .u8 41, .int .u8 91, .int .u8 93, .int .u8 123, .int .u8 125, .int .u8 46, .int .u8 42, .int .u8 43, .int .u8 63, .int .u8 124, .int .u8 94, .int .u8 36] 5 (14, 15)) := ⟨_, rfl⟩
  have hB : RowKit.Below w.heap.size w W := by rw [hW]; exact below_alloc _ _
  have hcell : ∀ k, k < 14 → ∃ s : Nat, s < 256 ∧ signs[k]? = some s ∧ W.cell? ⟨w.heap.size, k, none⟩ = some (.int .u8 s) := by rw [hW]; exact sign_cell w
  rw [← hW]
  clear hW hcv
  go_loopw [8] (fun x wr => ∃ k : Nat, x = .int .i64 k ∧ k ≤ 14 ∧ wr = W ∧ ∀ j, j < k → ∀ s, signs[j]? = some s → (s : Int) ≠ c) (fun x _ => 14 - (intOf x).toNat)
  case atStart => exact ⟨0, rfl, by omega, rfl, fun j hj => absurd hj (Nat.not_lt_zero _)⟩
  case round =>
    obtain ⟨k, rfl, hk, rfl, hall⟩ := hrel
    by_cases hk14 : k < 14
    · obtain ⟨s, hs, hsk, hc⟩ := hcell k hk14
      by_cases he : (s : Int) = c
      · have f : ((s : Int) == c) = true := by simpa using he
        have : decide (∃ s ∈ signs, (s : Int) = c) = true := by rw [decide_eq_true_eq]; exact ⟨s, List.mem_of_getElem? hsk, he⟩
        rw [this] at HR
        obtain rfl : r = true := HR.out
        clear hall he this HR hcell
        go_wp2
        go_ret
        exact ⟨rfl, hB⟩
      · have f : ((s : Int) == c) = false := by simpa using he
        clear HR
        go_wp2
        go_roundw
        case rel => exact ⟨k + 1, rfl, by omega, trivial, fun j hj t ht => by
            by_cases hjk : j = k
            · subst hjk; rw [hsk] at ht; cases ht; exact he
            · exact hall j (by omega) t ht⟩
        case measure => simp [intOf]; omega
    · have : k = 14 := by omega
      subst this
      have : decide (∃ s ∈ signs, (s : Int) = c) = false := by
        rw [decide_eq_false_iff_not]
        rintro ⟨s, hs, he⟩
        obtain ⟨j, hj⟩ := List.getElem?_of_mem hs
        have hj14 : j < 14 := (List.getElem?_eq_some_iff.1 hj).1
        exact hall j hj14 s hj he
      rw [this] at HR
      obtain rfl : r = false := HR.out
      clear hall this HR hcell
      go_wp2
      go_ret
      exact ⟨rfl, hB⟩
end Go.Proofs.Ytjfnefmolhihaaa.st
