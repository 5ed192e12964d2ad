/-
  Contracts over this program: the document's frame (fretsawref19).
-/
import Derived.Test.YtmmlibehihknbaaM17
namespace Go.Proofs.Ytmmlibehihknbaa.ir
open Go.ChangeShapes Go.WideShapes Go.ChangeAt Go.RowKit
open mg (Row In iv IntsV chain below_alloc)
set_option linter.unusedVariables false
set_option maxRecDepth 100000

set_option maxHeartbeats 1000000 in
theorem frame_any (l : List Int) (x : Bool) (hx : x = areIds l) (v : Value) (w : World) (hv : IntsV w v l) : Calls Try.prog 22 #[v] w fun e w' => e = .returned (.bool x) ∧ Below w.heap.size w w' := by
  obtain ⟨o, cap, rfl, hr⟩ := hv
  have hf := hr.fit
  have ht := hr.top
  have HX := (show Hid (x = areIds l) from hx)
  have HL := (show Hid (∀ i (h : i < l.length), ∃ b off, o = some ⟨b, off, none⟩ ∧ w.cell? ⟨b, off + i, none⟩ = some (iv l[i])) from fun i h => by
    obtain ⟨b, off, e, _, hc⟩ := hr.lie i h
    exact ⟨b, off, e, hc⟩)
  clear hx hr
  obtain ⟨n, hn⟩ : ∃ n, n = l.length := ⟨_, rfl⟩
  rw [← hn] at hf ⊢
  have HN := (show Hid (n = l.length) from hn)
  clear hn
  go_enter Try.func22, Try.ntmps22
  go_wp2_with (fail)
  go_loopw [7] (fun y wr => ∃ i : Nat, y = .int .i64 (i : Int) ∧ i ≤ n ∧ wr = w ∧ Hid (∀ j (hj : j < l.length), j < i → far l[j] = false)) (fun y _ => n - (intOf y).toNat)
  case atStart => exact ⟨0, rfl, by omega, rfl, fun j hj h => by omega⟩
  case round =>
    obtain ⟨i, rfl, hi, rfl, HA⟩ := hrel
    by_cases hend : i < n
    · have hil : i < l.length := by rw [← HN.out]; exact hend
      obtain ⟨b, off, e, hc⟩ := HL.out i hil
      subst e
      obtain ⟨z, hz⟩ : ∃ z, z = l[i] := ⟨_, rfl⟩
      have HF := (show Hid (far z = true → areIds l = false) from fun h => by
        unfold areIds anyFar
        have : l.any far = true := List.any_eq_true.2 ⟨l[i], List.getElem_mem _, by rw [← hz]; exact h⟩
        rw [this]; simp)
      have HG := (show Hid (far z = false → ∀ j (hj : j < l.length), j < i + 1 → far l[j] = false) from fun h j hj hj2 => by
        by_cases q : j = i
        · subst q; rw [← hz]; exact h
        · exact HA.out j hj (by omega))
      rw [← hz] at hc
      clear hz HA hil
      by_cases h1 : z < 0
      · have HR := (show Hid (x = false) from by show _ = _; rw [HX.out]; exact HF.out (by unfold far; simp [h1]))
        have f1 : decide (z < 0) = true := decide_eq_true h1
        go_wp2_with (fail)
        go_ret
        exact ⟨by rw [HR.out]; rfl, Below.refl _ _⟩
      · have f1 : decide (z < 0) = false := decide_eq_false h1
        by_cases h2 : 65535 < z
        · have HR := (show Hid (x = false) from by show _ = _; rw [HX.out]; exact HF.out (by unfold far; simp [h2]))
          have f2 : decide (65535 < z) = true := decide_eq_true h2
          go_wp2_with (fail)
          go_ret
          exact ⟨by rw [HR.out]; rfl, Below.refl _ _⟩
        · have f2 : decide (65535 < z) = false := decide_eq_false h2
          have HO := (show Hid (far z = false) from by show _ = _; unfold far; simp; omega)
          go_wp2_with (fail)
          go_roundw
          case rel => exact ⟨i + 1, by go_num, by omega, trivial, HG.out HO.out⟩
          case measure => simp [intOf]; omega
    · obtain rfl : i = n := by omega
      have HR := (show Hid (x = decide (i ≤ 32)) from by
        show _ = _
        rw [HX.out]
        unfold areIds anyFar
        have : l.any far = false := by
          rw [List.any_eq_false]
          intro y hy
          obtain ⟨j, hj, rfl⟩ := List.mem_iff_getElem.1 hy
          rw [HA.out j hj (by have := HN.out; omega)]
          simp
        rw [this, HN.out]; simp)
      clear HA
      by_cases h32 : i ≤ 32
      · have f1 : decide ((i : Int) ≤ 32) = true := decide_eq_true (by omega)
        go_wp2_with (fail)
        go_ret
        exact ⟨by rw [HR.out, decide_eq_true h32]; rfl, Below.refl _ _⟩
      · have f1 : decide ((i : Int) ≤ 32) = false := decide_eq_false (by omega)
        go_wp2_with (fail)
        go_ret
        exact ⟨by rw [HR.out, decide_eq_false h32]; rfl, Below.refl _ _⟩
end Go.Proofs.Ytmmlibehihknbaa.ir
