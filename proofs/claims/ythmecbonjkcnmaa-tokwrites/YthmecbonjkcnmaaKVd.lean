/-
  Contracts of the document's look at so many bytes, and of the test for a bad byte, over this program.
-/
import Derived.Test.YthmecbonjkcnmaaKVc
import Derived.Lib.OthersKept
namespace Go.Proofs.Ythmecbonjkcnmaa.chars
open Go.ChangeShapes Go.WideShapes Go.ChangeAt Go.RowKit
set_option linter.unusedVariables false

theorem nth_at (s : ByteArray) (i k : Nat) (h : i + k < s.size) : nth (s.data.toList.drop i) k = (s[i + k]'h).toNat := by
  have h' : i + k < s.data.toList.length := by simpa using h
  unfold nth
  rw [List.getD_eq_getElem?_getD, List.getElem?_drop, List.getElem?_eq_getElem h']
  rfl

theorem no_more (s : ByteArray) (at' n j : Nat) (h1 : 1 ≤ j) (h2 : j < n) (h : nth (s.data.toList.drop at') j < 128 ∨ 191 < nth (s.data.toList.drop at') j) : Hid (more (s.data.toList.drop at') n = -1) := by
  show more _ _ = -1
  unfold more
  rw [if_neg]
  rintro ⟨_, g⟩
  have := g j h2 h1
  omega

set_option maxHeartbeats 1000000 in
set_option maxRecDepth 100000 in
theorem more_1 (s : ByteArray) (at' : Nat) (w : World) (hs : s.size ≤ 140737488351232) (h0 : at' < s.size) (hlong : ¬ s.size < at' + 1) :
    Calls Try.prog 33 #[.string s, .int .i64 at', .int .i64 1] w fun e w' => e = .returned (.int .i64 (more (s.data.toList.drop at') 1)) ∧ w' = w := by
  have hb0 : Hid (nth (s.data.toList.drop at') 0 = s[at'].toNat) := nth_at s at' 0 h0
  have hl2 : decide ((s.size : Int) < (at' : Int) + 1) = false := by simp; omega
  have hx0 : (s[at'].toNat : Int) < 256 := by have := s[at'].toNat_lt; omega
  go_enter Try.func33, Try.ntmps33
  go_wp2
  go_loop [8, 9] (fun c i => ∃ k : Nat, k + 1 ≤ 1 ∧ i = .int .i64 ((k : Int) + 1) ∧ c = .int .i64 (acc (s.data.toList.drop at') 1 k) ∧ Hid (∀ j, j < k + 1 → 1 ≤ j → 128 ≤ nth (s.data.toList.drop at') j ∧ nth (s.data.toList.drop at') j ≤ 191)) (fun _ i => 5 - (intOf i).toNat)
  case atStart =>
    refine ⟨0, by omega, rfl, ?_, fun j h1 h2 => by omega⟩
    have h := hb0.out
    simp only [acc, h, base]
    first | rfl | (congr 1; done) | (congr 1; rw [IntWalk.wrap64_in _ ⟨by omega, by omega⟩]; simp) 
  case round =>
    obtain ⟨k, hk, rfl, rfl, HF⟩ := hrel
    have hab := acc_bd (s.data.toList.drop at') 1 k (by omega)
    obtain rfl : k = 0 := by omega
    have e : Hid (more (s.data.toList.drop at') 1 = acc (s.data.toList.drop at') 1 (1 - 1)) := by
        show more _ _ = _
        unfold more
        exact if_pos ⟨by simp; omega, fun j h1 h2 => HF.out j (by omega) h2⟩
    clear HF
    go_wp2
    go_ret
    exact ⟨by rw [e.out]; rfl, rfl⟩

set_option maxHeartbeats 1000000 in
set_option maxRecDepth 100000 in
theorem more_2 (s : ByteArray) (at' : Nat) (w : World) (hs : s.size ≤ 140737488351232) (h0 : at' < s.size) (hlong : ¬ s.size < at' + 2) :
    Calls Try.prog 33 #[.string s, .int .i64 at', .int .i64 2] w fun e w' => e = .returned (.int .i64 (more (s.data.toList.drop at') 2)) ∧ w' = w := by
  have hb0 : Hid (nth (s.data.toList.drop at') 0 = s[at'].toNat) := nth_at s at' 0 h0
  have hl2 : decide ((s.size : Int) < (at' : Int) + 2) = false := by simp; omega
  have hx0 : (s[at'].toNat : Int) < 256 := by have := s[at'].toNat_lt; omega
  go_enter Try.func33, Try.ntmps33
  go_wp2
  go_loop [8, 9] (fun c i => ∃ k : Nat, k + 1 ≤ 2 ∧ i = .int .i64 ((k : Int) + 1) ∧ c = .int .i64 (acc (s.data.toList.drop at') 2 k) ∧ Hid (∀ j, j < k + 1 → 1 ≤ j → 128 ≤ nth (s.data.toList.drop at') j ∧ nth (s.data.toList.drop at') j ≤ 191)) (fun _ i => 5 - (intOf i).toNat)
  case atStart =>
    refine ⟨0, by omega, rfl, ?_, fun j h1 h2 => by omega⟩
    have h := hb0.out
    simp only [acc, h, base]
    first | rfl | (congr 1; done) | (congr 1; rw [IntWalk.wrap64_in _ ⟨by omega, by omega⟩]; simp) 
  case round =>
    obtain ⟨k, hk, rfl, rfl, HF⟩ := hrel
    have hab := acc_bd (s.data.toList.drop at') 2 k (by omega)
    by_cases hlt : k + 1 < 2
    · have hin : at' + (k + 1) < s.size := by omega
      have hx : Hid (nth (s.data.toList.drop at') (k + 1) = s[at' + (k + 1)].toNat) := nth_at s at' (k + 1) hin
      have hx1 : (s[at' + (k + 1)].toNat : Int) < 256 := by have := s[at' + (k + 1)].toNat_lt; omega
      by_cases hlo : (s[at' + (k + 1)].toNat : Int) < 128
      · have e := no_more s at' 2 (k + 1) (by omega) (by omega) (by rw [hx.out]; omega)
        go_wp2
        go_ret
        exact ⟨by rw [e.out]; rfl, rfl⟩
      · by_cases hhi : 191 < (s[at' + (k + 1)].toNat : Int)
        · have e := no_more s at' 2 (k + 1) (by omega) (by omega) (by rw [hx.out]; omega)
          go_wp2
          go_ret
          exact ⟨by rw [e.out]; rfl, rfl⟩
        · have HS : Hid (acc (s.data.toList.drop at') 2 (k + 1) = acc (s.data.toList.drop at') 2 k * 64 + (s[at' + (k + 1)].toNat : Int) - 128) := by
            show acc _ _ _ = _
            simp only [acc, hx.out]
          go_wp2
          go_round
          case rel => exact ⟨k + 1, by omega, by go_num, by rw [HS.out], fun j h1 h2 => by
            by_cases hj : j = k + 1
            · subst hj; rw [hx.out]; omega
            · exact HF.out j (by omega) h2⟩
          case measure => simp [intOf]; omega
    · obtain rfl : k = 2 - 1 := by omega
      have e : Hid (more (s.data.toList.drop at') 2 = acc (s.data.toList.drop at') 2 (2 - 1)) := by
        show more _ _ = _
        unfold more
        exact if_pos ⟨by simp; omega, fun j h1 h2 => HF.out j (by omega) h2⟩
      clear HF
      go_wp2
      go_ret
      exact ⟨by rw [e.out]; rfl, rfl⟩

set_option maxHeartbeats 1000000 in
set_option maxRecDepth 100000 in
theorem more_3 (s : ByteArray) (at' : Nat) (w : World) (hs : s.size ≤ 140737488351232) (h0 : at' < s.size) (hlong : ¬ s.size < at' + 3) :
    Calls Try.prog 33 #[.string s, .int .i64 at', .int .i64 3] w fun e w' => e = .returned (.int .i64 (more (s.data.toList.drop at') 3)) ∧ w' = w := by
  have hb0 : Hid (nth (s.data.toList.drop at') 0 = s[at'].toNat) := nth_at s at' 0 h0
  have hl2 : decide ((s.size : Int) < (at' : Int) + 3) = false := by simp; omega
  have hx0 : (s[at'].toNat : Int) < 256 := by have := s[at'].toNat_lt; omega
  go_enter Try.func33, Try.ntmps33
  go_wp2
  go_loop [8, 9] (fun c i => ∃ k : Nat, k + 1 ≤ 3 ∧ i = .int .i64 ((k : Int) + 1) ∧ c = .int .i64 (acc (s.data.toList.drop at') 3 k) ∧ Hid (∀ j, j < k + 1 → 1 ≤ j → 128 ≤ nth (s.data.toList.drop at') j ∧ nth (s.data.toList.drop at') j ≤ 191)) (fun _ i => 5 - (intOf i).toNat)
  case atStart =>
    refine ⟨0, by omega, rfl, ?_, fun j h1 h2 => by omega⟩
    have h := hb0.out
    simp only [acc, h, base]
    first | rfl | (congr 1; done) | (congr 1; rw [IntWalk.wrap64_in _ ⟨by omega, by omega⟩]; simp) 
  case round =>
    obtain ⟨k, hk, rfl, rfl, HF⟩ := hrel
    have hab := acc_bd (s.data.toList.drop at') 3 k (by omega)
    by_cases hlt : k + 1 < 3
    · have hin : at' + (k + 1) < s.size := by omega
      have hx : Hid (nth (s.data.toList.drop at') (k + 1) = s[at' + (k + 1)].toNat) := nth_at s at' (k + 1) hin
      have hx1 : (s[at' + (k + 1)].toNat : Int) < 256 := by have := s[at' + (k + 1)].toNat_lt; omega
      by_cases hlo : (s[at' + (k + 1)].toNat : Int) < 128
      · have e := no_more s at' 3 (k + 1) (by omega) (by omega) (by rw [hx.out]; omega)
        go_wp2
        go_ret
        exact ⟨by rw [e.out]; rfl, rfl⟩
      · by_cases hhi : 191 < (s[at' + (k + 1)].toNat : Int)
        · have e := no_more s at' 3 (k + 1) (by omega) (by omega) (by rw [hx.out]; omega)
          go_wp2
          go_ret
          exact ⟨by rw [e.out]; rfl, rfl⟩
        · have HS : Hid (acc (s.data.toList.drop at') 3 (k + 1) = acc (s.data.toList.drop at') 3 k * 64 + (s[at' + (k + 1)].toNat : Int) - 128) := by
            show acc _ _ _ = _
            simp only [acc, hx.out]
          go_wp2
          go_round
          case rel => exact ⟨k + 1, by omega, by go_num, by rw [HS.out], fun j h1 h2 => by
            by_cases hj : j = k + 1
            · subst hj; rw [hx.out]; omega
            · exact HF.out j (by omega) h2⟩
          case measure => simp [intOf]; omega
    · obtain rfl : k = 3 - 1 := by omega
      have e : Hid (more (s.data.toList.drop at') 3 = acc (s.data.toList.drop at') 3 (3 - 1)) := by
        show more _ _ = _
        unfold more
        exact if_pos ⟨by simp; omega, fun j h1 h2 => HF.out j (by omega) h2⟩
      clear HF
      go_wp2
      go_ret
      exact ⟨by rw [e.out]; rfl, rfl⟩

set_option maxHeartbeats 1000000 in
set_option maxRecDepth 100000 in
theorem more_4 (s : ByteArray) (at' : Nat) (w : World) (hs : s.size ≤ 140737488351232) (h0 : at' < s.size) (hlong : ¬ s.size < at' + 4) :
    Calls Try.prog 33 #[.string s, .int .i64 at', .int .i64 4] w fun e w' => e = .returned (.int .i64 (more (s.data.toList.drop at') 4)) ∧ w' = w := by
  have hb0 : Hid (nth (s.data.toList.drop at') 0 = s[at'].toNat) := nth_at s at' 0 h0
  have hl2 : decide ((s.size : Int) < (at' : Int) + 4) = false := by simp; omega
  have hx0 : (s[at'].toNat : Int) < 256 := by have := s[at'].toNat_lt; omega
  go_enter Try.func33, Try.ntmps33
  go_wp2
  go_loop [8, 9] (fun c i => ∃ k : Nat, k + 1 ≤ 4 ∧ i = .int .i64 ((k : Int) + 1) ∧ c = .int .i64 (acc (s.data.toList.drop at') 4 k) ∧ Hid (∀ j, j < k + 1 → 1 ≤ j → 128 ≤ nth (s.data.toList.drop at') j ∧ nth (s.data.toList.drop at') j ≤ 191)) (fun _ i => 5 - (intOf i).toNat)
  case atStart =>
    refine ⟨0, by omega, rfl, ?_, fun j h1 h2 => by omega⟩
    have h := hb0.out
    simp only [acc, h, base]
    first | rfl | (congr 1; done) | (congr 1; rw [IntWalk.wrap64_in _ ⟨by omega, by omega⟩]; simp) 
  case round =>
    obtain ⟨k, hk, rfl, rfl, HF⟩ := hrel
    have hab := acc_bd (s.data.toList.drop at') 4 k (by omega)
    by_cases hlt : k + 1 < 4
    · have hin : at' + (k + 1) < s.size := by omega
      have hx : Hid (nth (s.data.toList.drop at') (k + 1) = s[at' + (k + 1)].toNat) := nth_at s at' (k + 1) hin
      have hx1 : (s[at' + (k + 1)].toNat : Int) < 256 := by have := s[at' + (k + 1)].toNat_lt; omega
      by_cases hlo : (s[at' + (k + 1)].toNat : Int) < 128
      · have e := no_more s at' 4 (k + 1) (by omega) (by omega) (by rw [hx.out]; omega)
        go_wp2
        go_ret
        exact ⟨by rw [e.out]; rfl, rfl⟩
      · by_cases hhi : 191 < (s[at' + (k + 1)].toNat : Int)
        · have e := no_more s at' 4 (k + 1) (by omega) (by omega) (by rw [hx.out]; omega)
          go_wp2
          go_ret
          exact ⟨by rw [e.out]; rfl, rfl⟩
        · have HS : Hid (acc (s.data.toList.drop at') 4 (k + 1) = acc (s.data.toList.drop at') 4 k * 64 + (s[at' + (k + 1)].toNat : Int) - 128) := by
            show acc _ _ _ = _
            simp only [acc, hx.out]
          go_wp2
          go_round
          case rel => exact ⟨k + 1, by omega, by go_num, by rw [HS.out], fun j h1 h2 => by
            by_cases hj : j = k + 1
            · subst hj; rw [hx.out]; omega
            · exact HF.out j (by omega) h2⟩
          case measure => simp [intOf]; omega
    · obtain rfl : k = 4 - 1 := by omega
      have e : Hid (more (s.data.toList.drop at') 4 = acc (s.data.toList.drop at') 4 (4 - 1)) := by
        show more _ _ = _
        unfold more
        exact if_pos ⟨by simp; omega, fun j h1 h2 => HF.out j (by omega) h2⟩
      clear HF
      go_wp2
      go_ret
      exact ⟨by rw [e.out]; rfl, rfl⟩

set_option maxHeartbeats 1000000 in
theorem more_any (s : ByteArray) (at' n : Nat) (w : World) (hs : s.size ≤ 140737488351232) (h0 : at' < s.size) (h1 : 1 ≤ n) (h2 : n ≤ 4) :
    Calls Try.prog 33 #[.string s, .int .i64 at', .int .i64 n] w fun e w' => e = .returned (.int .i64 (more (s.data.toList.drop at') n)) ∧ w' = w := by
  by_cases hlong : s.size < at' + n
  · have e : Hid (more (s.data.toList.drop at') n = -1) := by
      show more _ _ = -1
      unfold more
      rw [if_neg]
      rintro ⟨g, _⟩
      simp at g
      omega
    go_enter Try.func33, Try.ntmps33
    go_wp2
    go_ret
    exact ⟨by rw [e.out]; rfl, rfl⟩
  · rcases (by omega : n = 1 ∨ n = 2 ∨ n = 3 ∨ n = 4) with rfl | rfl | rfl | rfl
    · exact more_1 s at' w hs h0 hlong
    · exact more_2 s at' w hs h0 hlong
    · exact more_3 s at' w hs h0 hlong
    · exact more_4 s at' w hs h0 hlong
end Go.Proofs.Ythmecbonjkcnmaa.chars
