/-
  Contracts over this program: rule.Apply, rule.Grow.
-/
import Derived.Test.YthmecbonjkcnmaaKUg
namespace Go.Proofs.Ythmecbonjkcnmaa.ru
open Go.ChangeShapes Go.WideShapes Go.ChangeAt Go.RowKit Go.Maps
set_option linter.unusedVariables false

def grN (l : List Ru) : Nat := if Good l then growN 1 l else 0
def GrIs (l : List Ru) (n x : Nat) : Prop := ∀ v w, Rus w v l → Calls Try.prog 35 #[v] w fun e w' => e = .returned (.tuple #[.int .i64 (n : Int), .int .i64 (x : Int)]) ∧ Below w.heap.size w w'
theorem growN_take (l : List Ru) (i : Nat) (h : i < l.length) : growN 1 (l.take (i + 1)) = max (growN 1 (l.take i)) (up (nth l i).fr.size (nth l i).to.size) := by
  rw [take_nth l i h]
  unfold growN
  rw [List.foldl_append]
  rfl
theorem up_int (a b : Nat) (ha : 1 ≤ a) : ((b : Int) + (a : Int) - 1).tdiv (a : Int) = (up a b : Int) := by
  unfold up
  rw [show ((b : Int) + (a : Int) - 1) = ((b + a - 1 : Nat) : Int) by omega, Int.ofNat_tdiv]

set_option maxHeartbeats 2000000 in
set_option maxRecDepth 100000 in
theorem gr_any (l : List Ru) (n : Nat) (hn : n = grN l) : GrIs l n (rightE l) := by
  intro v w hv
  have c10 := right_any l _ rfl _ _ hv
  by_cases hg : Good l
  · rw [rightE_ok hg] at c10 ⊢
    have HN := (show Hid (n = growN 1 l) from by show _ = _; rw [hn]; unfold grN; rw [if_pos hg])
    have h64 := hg.1
    clear hn
    rcases hv with ⟨rfl, a, cap, rfl⟩ | ⟨b, off, cap, rfl, hl, hm, hlt, hc⟩
    · obtain rfl : n = 1 := HN.out
      go_enter Try.func35, Try.ntmps35
      go_wp2_with (go_at_call 44; refine c10.mono ?_; rintro e w1 ⟨rfl, b1⟩)
      go_loopw [5, 15] (fun u x wr => u = .int .i64 1 ∧ x = .int .i64 0 ∧ wr = w1) (fun _ _ _ => 0)
      case atStart => exact ⟨rfl, rfl, rfl⟩
      case round =>
        obtain ⟨rfl, rfl, rfl⟩ := hrel
        go_wp2
        go_ret2
        exact ⟨rfl, b1⟩
    · go_enter Try.func35, Try.ntmps35
      go_wp2_with (go_at_call 44; refine c10.mono ?_; rintro e w1 ⟨rfl, b1⟩)
      go_loopw [5, 15] (fun u x wr => ∃ (i k : Nat), u = .int .i64 k ∧ x = .int .i64 i ∧ i ≤ l.length ∧ Below w.heap.size w wr ∧ k ≤ 32 ∧ Hid (k = growN 1 (l.take i))) (fun _ x _ => l.length - (intOf x).toNat)
      case atStart => exact ⟨0, 1, rfl, rfl, by omega, b1, by omega, rfl⟩
      case round =>
        obtain ⟨i, k, rfl, rfl, hi, hB, hk, HK⟩ := hrel
        by_cases hend : i < l.length
        · obtain ⟨hc1, hc2⟩ := hc i hend
          rw [← hB.cell (p := ⟨b, off + i * 2, none⟩) hlt] at hc1
          rw [← hB.cell (p := ⟨b, off + i * 2 + 1, none⟩) hlt] at hc2
          have hbd := bad_no.1 (hg.2.1 _ (nth_mem l i hend))
          have HK2 := (show Hid _ from growN_take l i hend)
          generalize nth l i = r at *
          rw [← HK.out] at HK2
          have hup := up_int r.fr.size r.to.size hbd.1
          have hu32 : up r.fr.size r.to.size ≤ 32 := up_le (by omega) (by have : 32 * 1 ≤ 32 * r.fr.size := Nat.mul_le_mul_left _ hbd.1; omega)
          generalize up r.fr.size r.to.size = q at *
          obtain ⟨hb1, hb2, hb3⟩ := hbd
          have hq0 : ¬ (r.fr.size : Int) = 0 := by omega
          clear hc HK
          go_wp2
          exact ⟨⟨i + 1, max k q, by congr 1; omega, by go_num, by omega, hB.alloc hB.size _, by omega, HK2.out.symm⟩, by simp [intOf]; omega⟩
        · have he : i = l.length := by omega
          subst he
          rw [List.take_length] at HK
          go_wp2
          go_ret2
          exact ⟨by rw [HN.out, HK.out]; rfl, hB⟩
  · obtain rfl : n = 0 := by rw [hn]; unfold grN; rw [if_neg hg]
    have hne : rightE l ≠ 0 := fun h => hg (rightE_zero h)
    have hq2 : ((rightE l : Int) != 0) = true := bne_iff_ne.2 (by omega)
    obtain ⟨a, cap, rfl, _, _⟩ := hv.form
    clear hn
    generalize rightE l = r at *
    go_enter Try.func35, Try.ntmps35
    go_wp2_with (go_at_call 44; refine c10.mono ?_; rintro e w1 ⟨rfl, b1⟩)
    go_ret2
    exact ⟨rfl, b1⟩
end Go.Proofs.Ythmecbonjkcnmaa.ru
