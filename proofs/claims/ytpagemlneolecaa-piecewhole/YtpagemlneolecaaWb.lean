/-
  Contracts over this program: the document's Like (fretsawref10), at two rows that hold the same.
-/
import Derived.Test.YtpagemlneolecaaWa
import Derived.Deep.MidRow
namespace Go.Proofs.Ytpagemlneolecaa.pc
open Go.RowKit Go.Shelf
open df (Dfa Row In)
set_option linter.unusedVariables false

set_option maxHeartbeats 1000000 in
theorem like_same (l : List ByteArray) (v1 v2 : Value) (w : World) (h1 : StrsV w v1 l) (h2 : StrsV w v2 l) : Calls Try.prog 15 #[v1, v2] w fun e w' => e = .returned (.bool true) ∧ Below w.heap.size w w' := by
  obtain ⟨o, cap, rfl, h1⟩ := h1
  obtain ⟨o', cap', rfl, h2⟩ := h2
  have f1 := h1.fit
  have f2 := h1.top
  have f3 := h2.fit
  have f4 := h2.top
  have H1 : Hid (Row (In w) w Value.string o cap l) := h1
  have H2 : Hid (Row (In w) w Value.string o' cap' l) := h2
  clear h1 h2
  go_enter Try.func15, Try.ntmps15
  go_wp2_with (fail)
  go_loopw [13] (fun y wr => ∃ i : Nat, y = .int .i64 i ∧ i ≤ l.length ∧ Below w.heap.size w wr) (fun y _ => l.length - (intOf y).toNat)
  case atStart => exact ⟨0, rfl, by omega, Below.refl _ _⟩
  case round =>
    obtain ⟨i, rfl, hil, hB⟩ := hrel
    by_cases hend : i < l.length
    · obtain ⟨b, off, rfl, hb, hc⟩ := H1.out.lie i hend
      obtain ⟨b', off', rfl, hb', hc'⟩ := H2.out.lie i hend
      have k1 := (hB.cell (p := ⟨b, off + i, none⟩) hb).trans hc
      have k2 := (hB.cell (p := ⟨b', off' + i, none⟩) hb').trans hc'
      generalize l[i] = x at *
      clear hc hc'
      go_wp2_with (fail)
      go_quiet (fail)
      go_wp2_with (fail)
      go_roundw
      case rel => exact ⟨i + 1, by go_num, by omega, df.below_drewN hB _⟩
      case measure => simp [intOf]; omega
    · go_wp2_with (fail)
      go_ret
      exact ⟨rfl, hB⟩
end Go.Proofs.Ytpagemlneolecaa.pc
