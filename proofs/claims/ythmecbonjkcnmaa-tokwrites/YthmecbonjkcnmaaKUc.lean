/-
  Contracts over this program: slices.ContainsFunc at rules and rule.misfit.
-/
import Derived.Test.YthmecbonjkcnmaaKUb
namespace Go.Proofs.Ythmecbonjkcnmaa.ru
open Go.ChangeShapes Go.WideShapes Go.ChangeAt Go.RowKit
set_option linter.unusedVariables false

def anyBad (l : List Ru) : Bool := l.any bad

def IdxIs (l : List Ru) (x : Bool) : Prop := ∀ v w, Rus w v l → Calls Try.prog 55 #[v, .func (.func 51) #[] #[]] w fun e w' => (∃ n : Int, e = .returned (.int .i64 n) ∧ (x = true ∧ 0 ≤ n ∨ x = false ∧ n = -1)) ∧ Below w.heap.size w w'

set_option maxHeartbeats 1000000 in
set_option maxRecDepth 100000 in
theorem idx_any (l : List Ru) (x : Bool) (hx : x = anyBad l) : IdxIs l x := by
  intro v w hv
  have HX : Hid (x = anyBad l) := hx
  clear hx
  rcases hv with ⟨rfl, a, cap, rfl⟩ | ⟨b, off, cap, rfl, hl, hm, hlt, hc⟩
  · have h0 : x = false := HX.out
    subst h0
    go_enter Try.func55, Try.ntmps55
    go_wp2
    go_loopw [8] (fun x wr => x = .int .i64 0 ∧ wr = w) (fun _ _ => 0)
    case atStart => exact ⟨rfl, rfl⟩
    case round =>
      obtain ⟨rfl, rfl⟩ := hrel
      go_wp2
      go_ret
      exact ⟨⟨_, rfl, .inr ⟨trivial, rfl⟩⟩, Below.refl _ _⟩
  · go_enter Try.func55, Try.ntmps55
    go_wp2
    go_loopw [8] (fun y wr => ∃ (i : Nat), y = .int .i64 i ∧ i ≤ l.length ∧ Below w.heap.size w wr ∧ Hid (anyBad (l.drop i) = x)) (fun y _ => l.length - (intOf y).toNat)
    case atStart => exact ⟨0, rfl, by omega, Below.refl _ _, by rw [List.drop_zero]; exact HX.out.symm⟩
    case round =>
      obtain ⟨i, rfl, hi, hB, HT⟩ := hrel
      by_cases hend : i < l.length
      · obtain ⟨hc1, hc2⟩ := hc i hend
        rw [← hB.cell (p := ⟨b, off + i * 2, none⟩) hlt] at hc1
        rw [← hB.cell (p := ⟨b, off + i * 2 + 1, none⟩) hlt] at hc2
        have hb := bad_any (nth l i) _ rfl
        have HN : Hid (x = (bad (nth l i) || anyBad (l.drop (i + 1)))) := by
          show _ = _
          rw [← HT.out, drop_nth l i hend]
          rfl
        generalize nth l i = r at *
        cases hbr : bad r
        · rw [hbr] at hb HN
          clear hc HT
          go_wp2_with (go_at_call 51; refine (hb _).mono ?_; rintro e w1 ⟨rfl, b1⟩)
          go_roundw
          case rel => exact ⟨i + 1, by go_num, by omega, chain hB b1, HN.out.symm⟩
          case measure => simp [intOf]; omega
        · rw [hbr] at hb HN
          clear hc HT
          go_wp2_with (go_at_call 51; refine (hb _).mono ?_; rintro e w1 ⟨rfl, b1⟩)
          go_ret
          exact ⟨⟨_, rfl, .inl ⟨HN.out, by omega⟩⟩, chain hB b1⟩
      · have HE : Hid (x = false) := by
          show _ = _
          rw [← HT.out, List.drop_eq_nil_of_le (by omega)]
          rfl
        go_wp2
        go_ret
        exact ⟨⟨_, rfl, .inr ⟨HE.out, rfl⟩⟩, hB⟩

def AnyIs (l : List Ru) (x : Bool) : Prop := ∀ v w, Rus w v l → Calls Try.prog 50 #[v, .func (.func 51) #[] #[]] w fun e w' => e = .returned (.bool x) ∧ Below w.heap.size w w'
set_option maxHeartbeats 1000000 in
set_option maxRecDepth 100000 in
theorem anyBad_is (l : List Ru) (x : Bool) (hx : x = anyBad l) : AnyIs l x := by
  intro v w hv
  have hi := idx_any l x hx v w hv
  have HX : Hid (x = anyBad l) := hx
  clear hx
  go_enter Try.func50, Try.ntmps50
  go_wp2_with (go_at_call 55; refine hi.mono ?_; rintro e w1 ⟨⟨n, rfl, hn⟩, b1⟩)
  go_ret
  refine ⟨?_, b1⟩
  rcases hn with ⟨rfl, h⟩ | ⟨rfl, rfl⟩
  · show Ending.returned (.bool (decide (0 ≤ n))) = _
    rw [decide_eq_true h]
  · rfl
end Go.Proofs.Ythmecbonjkcnmaa.ru
