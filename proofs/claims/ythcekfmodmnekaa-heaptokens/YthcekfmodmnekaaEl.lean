/-
  Contracts over this program: the laws' own short and alive; lists of ids beside an engine.
-/
import Derived.Test.YthcekfmodmnekaaEk
import Derived.Lib.SmallJoins
namespace Go.Proofs.Ythcekfmodmnekaa.en
open Go.ChangeShapes Go.WideShapes Go.ChangeAt Go.RowKit
open mg (Mg iv below_alloc chain app idsOf idsOf_len IntsV RowV Row In)
open hp (RMap ecells newE NewOut keptL kept_nil)
set_option linter.unusedVariables false
set_option maxRecDepth 100000

theorem below_iter (w : World) (s : ByteArray) (p : Nat) : Below w.heap.size w (w.iter s p) := (Below.refl _ _).alloc (Nat.le_refl _) _
theorem count_a (s : ByteArray) (hd : Utf8.decode s 0 = (97, 1)) (h0 : 0 < s.size) (hz : s.size ≤ 1) (w : World) :
    Calls Try.prog 31 #[.string s] w fun e w' => e = .returned (.int .i64 1) ∧ Below w.heap.size w w' := by
  have HD : Hid (Utf8.decode s 0 = (97, 1)) := hd
  clear hd
  go_enter Try.func31, Try.ntmps31
  go_wp2
  go_loopw [3] (fun v wr => ∃ pos, wr = w.iter s pos ∧ ((pos = 0 ∧ v = .int .i64 0) ∨ (¬ pos < s.size ∧ v = .int .i64 1))) (fun _ wr => s.size - wr.iterPos w.heap.size)
  case atStart => exact ⟨0, rfl, .inl ⟨rfl, rfl⟩⟩
  case round =>
    obtain ⟨pos, rfl, ⟨rfl, rfl⟩ | ⟨hpos, rfl⟩⟩ := hrel
    · have hnx := fun ty => run_next_any (P := Try.prog) w s 0 ty h0
      rw [HD.out] at hnx
      go_wp2
      go_roundw
      case rel => exact ⟨1, by simp, .inr ⟨by omega, rfl⟩⟩
      case measure => simp; omega
    · have hnx := fun ty => run_next_end (P := Try.prog) w s pos ty hpos
      go_wp2
      go_ret
      exact ⟨rfl, below_iter _ _ _⟩
theorem alive_any (w : World) : Calls Try.prog 15 #[] w fun e w' => e = .returned (.bool true) ∧ Below w.heap.size w w' := by
  have h21 := count_a ⟨#[97]⟩ (by decide) (by decide) (by decide)
  go_enter Try.func15, Try.ntmps15
  go_wp2_with fail
  refine (h21 _).mono ?_
  rintro e w1 ⟨rfl, b1⟩
  go_wp2
  go_ret
  exact ⟨rfl, b1⟩

def cutN (s : ByteArray) (n : Nat) : ByteArray := if s.size ≤ n then s else s.extract 0 n
theorem cutN_size (s : ByteArray) (n : Nat) : (cutN s n).size ≤ n := by
  unfold cutN
  split
  · assumption
  · simp; omega
theorem short_any (s : ByteArray) (n : Nat) (hs : s.size ≤ 9223372036854775807) (hn : n ≤ 100000) (w : World) : Calls Try.prog 11 #[.string s, .int .i64 (n : Int)] w fun e w' => e = .returned (.string (cutN s n)) ∧ w' = w := by
  unfold cutN
  by_cases h : s.size ≤ n
  · rw [if_pos h]
    go_enter Try.func11, Try.ntmps11
    go_wp2
    go_ret
    exact ⟨rfl, rfl⟩
  · rw [if_neg h]
    have hn2 : n < s.size := by omega
    clear h
    go_enter Try.func11, Try.ntmps11
    go_wp2
    go_ret
    exact ⟨rfl, rfl⟩
theorem ints_keep {W W' : World} {eb mb : Nat} {sp v : Value} {fr : Nat × Nat} {l : List Int} (h : IntsV W v l) (he : W.heap[eb]? = some (.cells (ecells mb sp) 60 fr)) (hsp : ∀ x, sp ≠ iv x) (hs : W.heap.size ≤ W'.heap.size) (ho : ∀ k, k < W.heap.size → k ≠ eb → W'.heap[k]? = W.heap[k]?) : IntsV W' v l := by
  obtain ⟨o, cap, rfl, r⟩ := h
  refine ⟨o, cap, rfl, r.fit, r.top, fun i hi => ?_⟩
  obtain ⟨b, off, e, hb, hc⟩ := r.lie i hi
  refine ⟨b, off, e, Nat.lt_of_lt_of_le hb hs, ?_⟩
  have hne : b ≠ eb := by
    intro e'
    subst e'
    rw [Lib.cell_of_heap he] at hc
    rcases hj : off + i with _ | _ | _ | _ | j <;> rw [hj] at hc <;> simp [ecells] at hc
    exact hsp _ hc
  rw [World.cell?_of_block (a := ⟨b, off + i, none⟩) (ho b hb hne)]
  exact hc
theorem newE_nil (l : List Mg) : newE l [] = mg.errOf l := by
  unfold newE
  split
  · rfl
  · rename_i h
    simp at h
    rw [h]
    rfl
end Go.Proofs.Ythcekfmodmnekaa.en
