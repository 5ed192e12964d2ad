/-
  Contracts of the small functions over this program: is it a character, what is written for it.
-/
import Derived.Test.YthmecbonjkcnmaaM00
import Derived.Test.YthmecbonjkcnmaaRows
import Derived.WalkKit
import Derived.ProofKit
import Derived.OpenShut
import Derived.Laws.Runes
import Derived.Laws.BytesArg
namespace Go.Proofs.Ythmecbonjkcnmaa.chars
open Go.ChangeShapes Go.WideShapes Go.ChangeAt Go.RowKit
set_option linter.unusedVariables false

theorem ret_bool {a b : Bool} (h : a = b) : Ending.returned (.bool a) = .returned (.bool b) := by rw [h]
theorem ret_str {a b : ByteArray} (h : a = b) : Ending.returned (.string a) = .returned (.string b) := by rw [h]

theorem is_any (c : Int) (w : World) :
    Calls Try.prog 34 #[.int .i64 c] w fun e w' => e = .returned (.bool (isC c)) ∧ w' = w := by
  by_cases h0 : 0 ≤ c
  · by_cases h1 : c ≤ 1114111
    · by_cases h2 : 55296 ≤ c
      · by_cases h3 : c ≤ 57343
        · have e : Hid (isC c = false) := by show isC c = false; unfold isC; rw [decide_eq_false_iff_not]; omega
          go_enter Try.func34, Try.ntmps34
          go_wp2
          go_ret
          exact ⟨by rw [e.out]; rfl, rfl⟩
        · have e : Hid (isC c = true) := by show isC c = true; rw [isC_iff]; omega
          go_enter Try.func34, Try.ntmps34
          go_wp2
          go_ret
          exact ⟨by rw [e.out]; rfl, rfl⟩
      · have e : Hid (isC c = true) := by show isC c = true; rw [isC_iff]; omega
        go_enter Try.func34, Try.ntmps34
        go_wp2
        go_ret
        exact ⟨by rw [e.out]; rfl, rfl⟩
    · have e : Hid (isC c = false) := by show isC c = false; unfold isC; rw [decide_eq_false_iff_not]; omega
      go_enter Try.func34, Try.ntmps34
      go_wp2
      go_ret
      exact ⟨by rw [e.out]; rfl, rfl⟩
  · have e : Hid (isC c = false) := by show isC c = false; unfold isC; rw [decide_eq_false_iff_not]; omega
    go_enter Try.func34, Try.ntmps34
    go_wp2
    go_ret
    exact ⟨by rw [e.out]; rfl, rfl⟩
/-- a text of these bytes -/
def str (l : List UInt8) : Value := .string ⟨l.toArray⟩

theorem encode_eq (c : Int) (h : isC c = true) : Utf8.encode c = ⟨(enc c).toArray⟩ := by
  rw [isC_iff] at h
  have hv : Utf8.valid c = true := by unfold Utf8.valid; simp only [Bool.or_eq_true, Bool.and_eq_true, decide_eq_true_eq]; omega
  unfold Utf8.encode
  simp only [hv, if_true]
  by_cases h1 : c ≤ 127
  · rw [enc_one h.1 h1, if_pos (by omega)]
  · rw [if_neg (by omega)]
    by_cases h2 : c ≤ 2047
    · rw [enc_two (by omega) h2, if_pos (by omega)]
      simp only [show (192 + c / 64).toNat = 192 + c.toNat / 64 from by omega, show (128 + c % 64).toNat = 128 + c.toNat % 64 from by omega]
    · rw [if_neg (by omega)]
      by_cases h3 : c ≤ 65535
      · rw [enc_three (by omega), if_pos (by omega)]
        simp only [show (224 + c / 4096).toNat = 224 + c.toNat / 4096 from by omega, show (128 + c / 64 % 64).toNat = 128 + c.toNat / 64 % 64 from by omega, show (128 + c % 64).toNat = 128 + c.toNat % 64 from by omega]
      · rw [enc_four (by omega) (by omega), if_neg (by omega)]
        simp only [show (240 + c / 262144).toNat = 240 + c.toNat / 262144 from by omega, show (128 + c / 4096 % 64).toNat = 128 + c.toNat / 4096 % 64 from by omega, show (128 + c / 64 % 64).toNat = 128 + c.toNat / 64 % 64 from by omega, show (128 + c % 64).toNat = 128 + c.toNat % 64 from by omega]

theorem conv_new (W : World) (xs : List Int) (n : Nat) (hn : xs.length = n) :
    Sem.run Try.prog (convert 45 9 (.slice (some ⟨W.heap.size, 0, none⟩) n n)) (W.alloc (.cells (xs.map (Value.int .u8)).toArray 5)) = .ok (.string (strOfNums xs)) (W.alloc (.cells (xs.map (Value.int .u8)).toArray 5)) := by
  refine run_convert_bytes_arg (W.alloc (.cells (xs.map (Value.int .u8)).toArray 5)) 45 5 Try.underlying45 Try.underlying5 W.heap.size 0 n n xs hn (fun i hi => ?_) 9 Try.underlying9
  have hx : i < xs.length := by omega
  simp [List.getElem?_eq_getElem hx, List.getD_eq_getElem?_getD]

theorem str_nums (c : Int) (h : isC c = true) (xs : List Int) (hx : Lib.encodeRuneZ c = xs) : str (put c) = .string (strOfNums xs) := by
  unfold str put
  rw [if_pos h, ← hx]
  rfl

set_option maxHeartbeats 1000000 in
theorem rput_any (c : Int) (w : World) :
    Calls Try.prog 21 #[.int .i64 c] w fun e w' => e = .returned (str (put c)) ∧ Below w.heap.size w w' := by
  by_cases h : isC c = true
  · have hb := (isC_iff c).1 h
    have b0 := hb.1
    have b1 := hb.2.1
    by_cases h1 : c < 128
    · have e : Hid (str (put c) = .string (strOfNums [c])) := str_nums c h _ (Lib.encodeRuneZ_one b0 (by omega))
      have hcv : ∀ W : World, Sem.run Try.prog (convert 45 9 (.slice (some ⟨W.heap.size, 0, none⟩) 1 1)) (W.alloc (.cells #[.int .u8 c] 5)) = .ok (.string (strOfNums [c])) (W.alloc (.cells #[.int .u8 c] 5)) := fun W => conv_new W [c] 1 rfl
      clear hb
      go_enter Try.func21, Try.ntmps21
      go_wp2_with (go_at_call 34; refine (is_any c _).mono ?_; rintro e w' ⟨rfl, rfl⟩)
      go_ret
      exact ⟨by rw [e.out]; rfl, (Below.refl _ _).alloc (Nat.le_refl _) _⟩
    · by_cases h2 : c < 2048
      · have e : Hid (str (put c) = .string (strOfNums [192 + c / 64, 128 + c % 64])) := str_nums c h _ (Lib.encodeRuneZ_two (by omega) (by omega))
        have hcv : ∀ W : World, Sem.run Try.prog (convert 45 9 (.slice (some ⟨W.heap.size, 0, none⟩) 2 2)) (W.alloc (.cells #[.int .u8 (192 + c / 64), .int .u8 (128 + c % 64)] 5)) = .ok (.string (strOfNums [192 + c / 64, 128 + c % 64])) (W.alloc (.cells #[.int .u8 (192 + c / 64), .int .u8 (128 + c % 64)] 5)) := fun W => conv_new W [192 + c / 64, 128 + c % 64] 2 rfl
        clear hb
        go_enter Try.func21, Try.ntmps21
        go_wp2_with (go_at_call 34; refine (is_any c _).mono ?_; rintro e w' ⟨rfl, rfl⟩)
        go_ret
        exact ⟨by rw [e.out]; rfl, (Below.refl _ _).alloc (Nat.le_refl _) _⟩
      · by_cases h3 : c < 65536
        · have e : Hid (str (put c) = .string (strOfNums [224 + c / 4096, 128 + c / 64 % 64, 128 + c % 64])) := str_nums c h _ (Lib.encodeRuneZ_three (by omega))
          have hcv : ∀ W : World, Sem.run Try.prog (convert 45 9 (.slice (some ⟨W.heap.size, 0, none⟩) 3 3)) (W.alloc (.cells #[.int .u8 (224 + c / 4096), .int .u8 (128 + c / 64 % 64), .int .u8 (128 + c % 64)] 5)) = .ok (.string (strOfNums [224 + c / 4096, 128 + c / 64 % 64, 128 + c % 64])) (W.alloc (.cells #[.int .u8 (224 + c / 4096), .int .u8 (128 + c / 64 % 64), .int .u8 (128 + c % 64)] 5)) := fun W => conv_new W [224 + c / 4096, 128 + c / 64 % 64, 128 + c % 64] 3 rfl
          clear hb
          go_enter Try.func21, Try.ntmps21
          go_wp2_with (go_at_call 34; refine (is_any c _).mono ?_; rintro e w' ⟨rfl, rfl⟩)
          go_ret
          exact ⟨by rw [e.out]; rfl, (Below.refl _ _).alloc (Nat.le_refl _) _⟩
        · have e : Hid (str (put c) = .string (strOfNums [240 + c / 262144, 128 + c / 4096 % 64, 128 + c / 64 % 64, 128 + c % 64])) := str_nums c h _ (Lib.encodeRuneZ_four (by omega) (by omega))
          have hcv : ∀ W : World, Sem.run Try.prog (convert 45 9 (.slice (some ⟨W.heap.size, 0, none⟩) 4 4)) (W.alloc (.cells #[.int .u8 (240 + c / 262144), .int .u8 (128 + c / 4096 % 64), .int .u8 (128 + c / 64 % 64), .int .u8 (128 + c % 64)] 5)) = .ok (.string (strOfNums [240 + c / 262144, 128 + c / 4096 % 64, 128 + c / 64 % 64, 128 + c % 64])) (W.alloc (.cells #[.int .u8 (240 + c / 262144), .int .u8 (128 + c / 4096 % 64), .int .u8 (128 + c / 64 % 64), .int .u8 (128 + c % 64)] 5)) := fun W => conv_new W [240 + c / 262144, 128 + c / 4096 % 64, 128 + c / 64 % 64, 128 + c % 64] 4 rfl
          clear hb
          go_enter Try.func21, Try.ntmps21
          go_wp2_with (go_at_call 34; refine (is_any c _).mono ?_; rintro e w' ⟨rfl, rfl⟩)
          go_ret
          exact ⟨by rw [e.out]; rfl, (Below.refl _ _).alloc (Nat.le_refl _) _⟩
  · have e : Hid (str (put c) = .string ⟨#[]⟩) := by show str (put c) = _; unfold put; rw [if_neg h]; rfl
    have h' : isC c = false := by simpa using h
    clear h
    go_enter Try.func21, Try.ntmps21
    go_wp2_with (go_at_call 34; refine (is_any c _).mono ?_; rintro e w' ⟨rfl, rfl⟩)
    go_ret
    exact ⟨by rw [e.out]; rfl, Below.refl _ _⟩
end Go.Proofs.Ythmecbonjkcnmaa.chars
