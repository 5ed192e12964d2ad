/-
  Contracts of the program's taking at a place (utf.first, utf.Next), over this program.
-/
import Derived.Test.YtjdgcnednaeogaaMore
import Derived.Lib.OthersKept
namespace Go.Proofs.Ytjdgcnednaeogaa.chars
open Go.ChangeShapes Go.WideShapes Go.ChangeAt Go.RowKit
set_option linter.unusedVariables false

theorem isC_bd (c : Nat) (h : isC c = true) : (c : Int) ≤ 1114111 := ((isC_iff _).1 h).2.1
theorem below_iter (w : World) (s : ByteArray) (p : Nat) : Below w.heap.size w (w.iter s p) := (Below.refl _ _).alloc (Nat.le_refl _) _

set_option maxHeartbeats 1000000 in
theorem first_any (s : ByteArray) (w : World) (hs : s.size ≤ 140737488351232) (h0 : 0 < s.size) :
    Calls Try.prog 24 #[.string s] w fun e w' => e = .returned (.tuple #[.int .i64 (dec s.data.toList).1, .int .i64 (dec s.data.toList).2]) ∧ Below w.heap.size w w' := by
  have hl : s.data.toList ≠ [] := by intro e; have : s.data.toList.length = s.size := by simp
                                     rw [e] at this; simp at this; omega
  have hw := dec_width s.data.toList hl
  have hc := isC_bd _ (dec_isC s.data.toList hl)
  have hd : Utf8.decode s 0 = dec s.data.toList := by rw [decode_eq]; rfl
  have hlen : s.data.toList.length = s.size := by simp
  rw [hlen] at hw
  clear hlen hl
  generalize dec s.data.toList = p at *
  obtain ⟨c, n⟩ := p
  simp only [] at hw hc ⊢
  have HD : Hid (Utf8.decode s 0 = (c, n)) := hd
  clear hd
  go_enter Try.func24, Try.ntmps24
  go_wp2
  go_loopw [4] (fun v wr => ∃ pos, wr = w.iter s pos ∧ ((pos = 0 ∧ v = .int .i64 0) ∨ (pos = n ∧ v = .int .i64 c))) (fun _ wr => s.size - wr.iterPos w.heap.size)
  case atStart => exact ⟨0, rfl, .inl ⟨rfl, rfl⟩⟩
  case round =>
    obtain ⟨pos, rfl, ⟨rfl, rfl⟩ | ⟨rfl, rfl⟩⟩ := hrel
    · have hnx := fun ty => run_next_any (P := Try.prog) w s 0 ty h0
      rw [HD.out] at hnx
      go_wp2
      go_roundw
      case rel => exact ⟨n, by simp, .inr ⟨rfl, rfl⟩⟩
      case measure => simp; omega
    · by_cases hlt : pos < s.size
      · have hnx := fun ty => run_next_any (P := Try.prog) w s pos ty hlt
        go_wp2
        go_ret2
        exact ⟨rfl, below_iter _ _ _⟩
      · have hnx := fun ty => run_next_end (P := Try.prog) w s pos ty hlt
        obtain rfl : s.size = pos := by omega
        go_wp2
        go_ret2
        exact ⟨rfl, below_iter _ _ _⟩

theorem next_out (s : ByteArray) (i : Int) (w : World) (hs : s.size ≤ 140737488351232) (h : i < 0 ∨ (s.size : Int) ≤ i) :
    Calls Try.prog 9 #[.string s, .int .i64 i] w fun e w' => e = .returned (.tuple #[.int .i64 0, .int .i64 0, .bool false]) ∧ w' = w := by
  by_cases h1 : i < 0
  · go_enter Try.func9, Try.ntmps9
    go_wp2
    go_ret3
    exact ⟨rfl, rfl⟩
  · have h2 : (s.size : Int) ≤ i := by omega
    go_enter Try.func9, Try.ntmps9
    go_wp2
    go_ret3
    exact ⟨rfl, rfl⟩
theorem rnext_out (s : ByteArray) (i : Int) (w : World) (hs : s.size ≤ 140737488351232) (h : i < 0 ∨ (s.size : Int) ≤ i) :
    Calls Try.prog 10 #[.string s, .int .i64 i] w fun e w' => e = .returned (.tuple #[.int .i64 0, .int .i64 0, .bool false]) ∧ w' = w := by
  by_cases h1 : i < 0
  · go_enter Try.func10, Try.ntmps10
    go_wp2
    go_ret3
    exact ⟨rfl, rfl⟩
  · have h2 : (s.size : Int) ≤ i := by omega
    go_enter Try.func10, Try.ntmps10
    go_wp2
    go_ret3
    exact ⟨rfl, rfl⟩

theorem cut_list (s : ByteArray) (i j : Nat) : (s.extract i j).data.toList = (s.data.toList.take j).drop i := by
  simp [ByteArray.data_extract, List.drop_take]
theorem cut_end (s : ByteArray) (i : Nat) : (s.extract i s.size).data.toList = s.data.toList.drop i := by
  rw [cut_list, List.take_of_length_le (by simp)]

theorem next_any (s : ByteArray) (i : Nat) (w : World) (hs : s.size ≤ 140737488351232) (h : i < s.size) :
    Calls Try.prog 9 #[.string s, .int .i64 i] w fun e w' => e = .returned (.tuple #[.int .i64 (dec (s.data.toList.drop i)).1, .int .i64 (dec (s.data.toList.drop i)).2, .bool (!badB (dec (s.data.toList.drop i)))]) ∧ Below w.heap.size w w' := by
  have hz : (s.extract i s.size).size = s.size - i := by simp
  have hf := fun w => first_any (s.extract i s.size) w (by omega) (by omega)
  rw [cut_end] at hf
  clear hz
  generalize dec (s.data.toList.drop i) = p at *
  obtain ⟨c, n⟩ := p
  simp only [] at hf ⊢
  go_enter Try.func9, Try.ntmps9
  go_wp2_with (first | (go_at_call 24; refine (hf _).mono ?_; rintro e w' ⟨rfl, hb⟩) | (go_at_call 25; refine (bad_any c n _).mono ?_; rintro e w' ⟨rfl, rfl⟩))
  go_ret3
  exact ⟨rfl, hb⟩
end Go.Proofs.Ytjdgcnednaeogaa.chars
