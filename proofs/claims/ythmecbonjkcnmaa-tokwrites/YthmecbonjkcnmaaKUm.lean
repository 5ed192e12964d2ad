/-
  Contracts over this program: the document's Grow and begins.
-/
import Derived.Test.YthmecbonjkcnmaaKUl
namespace Go.Proofs.Ythmecbonjkcnmaa.ru
open Go.ChangeShapes Go.WideShapes Go.ChangeAt Go.RowKit
set_option linter.unusedVariables false

theorem up_not {a b n : Nat} (ha : 1 ≤ a) (h : n * a < b) : n < up a b := by
  rcases Nat.lt_or_ge n (up a b) with h1 | h1
  · exact h1
  · have h2 := up_mul (b := b) (show 0 < a by omega)
    have h3 : up a b * a ≤ n * a := Nat.mul_le_mul_right _ h1
    omega
def RGrIs (l : List Ru) (n : Nat) : Prop := ∀ v w, Rus w v l → Calls Try.prog 15 #[v] w fun e w' => e = .returned (.int .i64 (n : Int)) ∧ Below w.heap.size w w'
set_option maxHeartbeats 4000000 in
set_option maxRecDepth 100000 in
theorem rgr_any (l : List Ru) (hg : Good l) (n : Nat) (hn : n = growN 1 l) : RGrIs l n := by
  intro v w hv
  have HN := (show Hid (n = growN 1 l) from hn)
  have h64 := hg.1
  obtain ⟨av, cap, rfl, _, _⟩ := hv.form
  clear hn
  go_enter Try.func15, Try.ntmps15
  go_wp2
  go_loopw [3, 9] (fun u x wr => ∃ (i k : Nat), u = .int .i64 k ∧ x = .int .i64 i ∧ i ≤ l.length ∧ Below w.heap.size w wr ∧ k ≤ 32 ∧ Hid (k = growN 1 (l.take i))) (fun _ x _ => l.length - (intOf x).toNat)
  case atStart => exact ⟨0, 1, rfl, rfl, by omega, Below.refl _ _, by omega, rfl⟩
  case round =>
    obtain ⟨i, k, rfl, rfl, hi, hB, hk, HK⟩ := hrel
    by_cases hend : i < l.length
    · obtain ⟨rb, roff, rcap', hre, hrl, hrm, hrlt, hr1, hr2⟩ := hv.at hend
      obtain ⟨rfl, rfl⟩ : av = some ⟨rb, roff, none⟩ ∧ cap = rcap' := by simpa using hre
      rw [← hB.cell (p := ⟨rb, roff + i * 2, none⟩) hrlt] at hr1
      rw [← hB.cell (p := ⟨rb, roff + i * 2 + 1, none⟩) hrlt] at hr2
      have hbd := bad_no.1 (hg.2.1 _ (nth_mem l i hend))
      have HK2 := (show Hid _ from growN_take l i hend)
      generalize nth l i = r at *
      rw [← HK.out] at HK2
      have hu32 : up r.fr.size r.to.size ≤ 32 := up_le (by omega) (by have : 32 * 1 ≤ 32 * r.fr.size := Nat.mul_le_mul_left _ hbd.1; omega)
      have HUN := (show Hid (∀ m, m * r.fr.size < r.to.size → m < up r.fr.size r.to.size) from fun m h => up_not hbd.1 h)
      have HUL := (show Hid (∀ m, r.to.size ≤ m * r.fr.size → up r.fr.size r.to.size ≤ m) from fun m h => up_le (by omega) h)
      generalize up r.fr.size r.to.size = q at *
      obtain ⟨hb1, hb2, hb3⟩ := hbd
      obtain ⟨wA, HWA⟩ : ∃ wA, Hid (wA = wr.alloc (.cells #[.string r.fr, .string r.to] 70)) := ⟨_, rfl⟩
      have hBA : Below w.heap.size w wA := by rw [HWA.out]; exact hB.alloc hB.size _
      have hnA : wA.heap[wr.heap.size]? = some (.cells #[.string r.fr, .string r.to] 70 (0, 0)) := by rw [HWA.out]; exact heap_alloc_new wr _
      have hcA : wA.cell? ⟨wr.heap.size, 0, none⟩ = some (.string r.fr) := by rw [Lib.cell_of_heap hnA]; rfl
      have hcB : wA.cell? ⟨wr.heap.size, 1, none⟩ = some (.string r.to) := by rw [Lib.cell_of_heap hnA]; rfl
      clear HK hre hnA
      go_wp2
      rw [← HWA.out]
      obtain ⟨wb, hwb⟩ : ∃ wb, wb = wr.heap.size := ⟨_, rfl⟩
      rw [← hwb] at hcA hcB ⊢
      clear hr1 hr2 hwb
      go_loopw [6] (fun y wr => ∃ (m : Nat), y = .int .i64 m ∧ m ≤ q ∧ wr = wA) (fun y _ => q - (intOf y).toNat)
      case atStart => exact ⟨0, rfl, by omega, rfl⟩
      case round =>
        obtain ⟨m, rfl, hm, rfl⟩ := hrel
        have hmm : m * r.fr.size ≤ 32 * 16 := Nat.mul_le_mul (by omega) hb2
        have hmi : (m : Int) * (r.fr.size : Int) ≤ 512 := by rw [← Int.natCast_mul]; omega
        have hmi0 : 0 ≤ (m : Int) * (r.fr.size : Int) := by rw [← Int.natCast_mul]; omega
        by_cases hlt : m * r.fr.size < r.to.size
        · have f1 : (m : Int) * (r.fr.size : Int) < (r.to.size : Int) := by rw [← Int.natCast_mul]; omega
          have hmq := HUN.out m hlt
          clear hlt hmm
          go_wp2
          go_roundw
          case rel => exact ⟨m + 1, by go_num, by omega, trivial⟩
          case measure => simp [intOf]; omega
        · have f1 : ¬ (m : Int) * (r.fr.size : Int) < (r.to.size : Int) := by rw [← Int.natCast_mul]; omega
          obtain rfl : m = q := by have := HUL.out m (by omega); omega
          clear hlt hmm
          by_cases hmx : k < m
          · have f2 : (k : Int) < (m : Int) := by omega
            go_wp2
            go_roundw
            case rel => exact ⟨i + 1, m, by go_num, by go_num, by omega, hBA, by omega, by show _ = _; rw [HK2.out]; omega⟩
            case measure => simp [intOf]; omega
          · have f2 : ¬ (k : Int) < (m : Int) := by omega
            go_wp2
            go_roundw
            case rel => exact ⟨i + 1, k, by go_num, by go_num, by omega, hBA, by omega, by show _ = _; rw [HK2.out]; omega⟩
            case measure => simp [intOf]; omega
    · have he : i = l.length := by omega
      subst he
      rw [List.take_length] at HK
      go_wp2
      go_ret
      exact ⟨by rw [HN.out, HK.out]; rfl, hB⟩

end Go.Proofs.Ythmecbonjkcnmaa.ru
