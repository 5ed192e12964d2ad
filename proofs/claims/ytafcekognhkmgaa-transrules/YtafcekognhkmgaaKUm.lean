/-
  Contracts over this program: the document's Grow and begins.
-/
import Derived.Test.YtafcekognhkmgaaKUl
namespace Go.Proofs.Ytafcekognhkmgaa.ru
open Go.ChangeShapes Go.WideShapes Go.ChangeAt Go.RowKit
set_option linter.unusedVariables false

theorem up_not {a b n : Nat} (ha : 1 ≤ a) (h : n * a < b) : n < up a b := by
  rcases Nat.lt_or_ge n (up a b) with h1 | h1
  · exact h1
  · have h2 := up_mul (b := b) (show 0 < a by omega)
    have h3 : up a b * a ≤ n * a := Nat.mul_le_mul_right _ h1
    omega
/-- whether a text goes on with another one at a place -/
def beg (s : ByteArray) (k : Nat) (t : ByteArray) : Bool := t.data.toList.isPrefixOf (s.data.toList.drop k)
theorem mid_list (s : ByteArray) (i j : Nat) : (s.extract i j).data.toList = (s.data.toList.drop i).take (j - i) := by
  rw [ByteArray.data_extract, Array.toList_extract]
set_option maxHeartbeats 1000000 in
set_option maxRecDepth 100000 in
theorem beg_any (s t : ByteArray) (k : Nat) (hs : s.size ≤ 3000) (ht : t.size ≤ 3000) (hk : k ≤ s.size) (x : Bool) (hx : x = beg s k t) (w : World) : Calls Try.prog 39 #[.string s, .int .i64 (k : Int), .string t] w fun e w' => e = .returned (.bool x) ∧ w' = w := by
  have hdl : (s.data.toList.drop k).length = s.size - k := by rw [List.length_drop, list_len]
  by_cases h : k + t.size ≤ s.size
  · have HX := (show Hid (((s.extract k (k + t.size)).toList == t.toList) = x) from by
      show _ = _
      rw [hx]
      unfold beg
      rw [ByteArray.toList_eq, ByteArray.toList_eq, mid_list, Nat.add_sub_cancel_left, Bool.eq_iff_iff, List.isPrefixOf_iff_prefix, beq_iff_eq]
      constructor
      · intro e
        rw [← e]
        exact List.take_prefix _ _
      · intro hp
        have := List.prefix_iff_eq_take.1 hp
        rw [list_len] at this
        exact this.symm)
    have h1 : (k : Int) + (t.size : Int) ≤ (s.size : Int) := by omega
    have h2 : (k : Int) ≤ (k : Int) + (t.size : Int) := by omega
    have h3 : 0 ≤ (k : Int) + (t.size : Int) := by omega
    have h4 : ((k : Int) + (t.size : Int)).toNat = k + t.size := by omega
    clear hx
    go_enter Try.func39, Try.ntmps39
    go_wp2
    go_ret
    refine ⟨?_, rfl⟩
    rw [← HX.out]
    rfl
  · have h1 : (s.size : Int) < (k : Int) + (t.size : Int) := by omega
    obtain rfl : x = false := by
      rw [hx]
      unfold beg
      rw [Bool.eq_false_iff]
      intro hp
      have := (List.isPrefixOf_iff_prefix.1 hp).length_le
      rw [hdl, list_len] at this
      omega
    clear hx
    go_enter Try.func39, Try.ntmps39
    go_wp2
    go_ret
    exact ⟨rfl, rfl⟩
end Go.Proofs.Ytafcekognhkmgaa.ru
