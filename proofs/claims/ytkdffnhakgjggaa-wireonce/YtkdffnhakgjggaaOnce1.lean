/-
  Walks of the law WireOnce, arm by arm: a place outside the text, a number that is refused, and all three read.
-/
import Derived.Test.YtkdffnhakgjggaaArgs
import Derived.WalkKit
import Derived.ProofKit
import Derived.OpenShut
import Derived.ShutString
import Derived.Lib.OthersKept
namespace Go.Proofs.Ytkdffnhakgjggaa.wireOnce
open Go.ChangeShapes Go.WideShapes Go.ChangeAt Go.RowKit
open Go.ChangeMaps (open_string shut_string)
set_option linter.unusedVariables false

theorem below_iter (w : World) (s : ByteArray) (p : Nat) : Below w.heap.size w (w.iter s p) := (Below.refl _ _).alloc (Nat.le_refl _) _

theorem count_a (s : ByteArray) (hd : Utf8.decode s 0 = (97, 1)) (h0 : 0 < s.size) (hz : s.size ≤ 1) (w : World) :
    Calls Try.prog 33 #[.string s] w fun e w' => e = .returned (.int .i64 1) ∧ Below w.heap.size w w' := by
  have HD : Hid (Utf8.decode s 0 = (97, 1)) := hd
  clear hd
  go_enter Try.func33, Try.ntmps33
  go_wp2
  go_loopw [3] (fun v wr => ∃ pos, wr = w.iter s pos ∧ ((pos = 0 ∧ v = .int .i64 0) ∨ (¬ pos < s.size ∧ v = .int .i64 1))) (fun _ wr => s.size - wr.iterPos w.heap.size)
  case atStart => exact ⟨0, rfl, .inl ⟨rfl, rfl⟩⟩
  case round =>
    obtain ⟨pos, rfl, ⟨rfl, rfl⟩ | ⟨hpos, rfl⟩⟩ := hrel
    · have hnx := fun ty => run_next_any (P := Try.prog) w s 0 ty h0
      rw [HD.out] at hnx
      go_wp2
      go_roundw
      case rel => exact ⟨1, by simp, .inr ⟨by omega, rfl⟩⟩
      case measure => simp; omega
    · have hnx := fun ty => run_next_end (P := Try.prog) w s pos ty hpos
      go_wp2
      go_ret
      exact ⟨rfl, below_iter _ _ _⟩

theorem alive_any (w : World) : Calls Try.prog 26 #[] w fun e w' => e = .returned (.bool true) ∧ Below w.heap.size w w' := by
  have h33 := count_a ⟨#[97]⟩ (by decide) (by decide) (by decide)
  go_enter Try.func26, Try.ntmps26
  go_wp2_with fail
  refine (h33 _).mono ?_
  rintro e w1 ⟨rfl, b1⟩
  go_wp2
  go_ret
  exact ⟨rfl, b1⟩

theorem walk_out (s : ByteArray) (i : Int) (h : i < 0 ∨ (s.size : Int) < i) (w : World) :
    Calls Try.prog 8 #[.string s, .int .i64 i] w fun e w' => e = .returned (.bool true) ∧ Below w.heap.size w w' := by
  have g := num.get_out s i h
  by_cases h1 : i < 0
  · go_enter Try.func8, Try.ntmps8
    go_wp2_with (first | (go_at_call 26; refine (alive_any _).mono ?_; rintro e w0 ⟨rfl, b0⟩) | (go_at_call 9; refine (g _).mono ?_; rintro e w1 ⟨rfl, rfl⟩))
    go_ret
    exact ⟨rfl, b0⟩
  · have h2 : (s.size : Int) < i := by omega
    go_enter Try.func8, Try.ntmps8
    go_wp2_with (first | (go_at_call 26; refine (alive_any _).mono ?_; rintro e w0 ⟨rfl, b0⟩) | (go_at_call 9; refine (g _).mono ?_; rintro e w1 ⟨rfl, rfl⟩))
    go_ret
    exact ⟨rfl, b0⟩

set_option maxHeartbeats 4000000 in
set_option maxRecDepth 100000 in
theorem walk_err (s : ByteArray) (p : Nat) (hp : p ≤ s.size) (f : Nat) (hf : f ≠ 0) (g9 : num.GetIs s p 0 0 f) (g13 : num.GetTextIs s p s.size ⟨#[]⟩ 0 f) (g21 : num.GetAllIs s p 5000 [] 0 f) (w : World) :
    Calls Try.prog 8 #[.string s, .int .i64 p] w fun e w' => e = .returned (.bool true) ∧ Below w.heap.size w w' := by
  have hz : ((f : Int) == 0) = false := by rw [beq_eq_false_iff_ne]; omega
  have hz2 : ((f : Int) != 0) = true := by rw [bne_iff_ne]; omega
  go_enter Try.func8, Try.ntmps8
  go_wp2_with (first | (go_at_call 26; refine (alive_any _).mono ?_; rintro e w0 ⟨rfl, b0⟩) | (go_at_call 9; refine (g9 _).mono ?_; rintro e w1 ⟨rfl, rfl⟩))
  go_quiet (fail)
  go_wp2_with (go_at_call 13; refine (g13 _).mono ?_; rintro e w2 ⟨rfl, b2⟩)
  go_quiet (fail)
  go_wp2_with (go_at_call 21; refine (g21 _).mono ?_; rintro e w3 ⟨v, rfl, hv, b3⟩)
  go_quiet (fail)
  go_wp2
  go_ret
  exact ⟨rfl, below_drewN (num.chain (below_drewN (num.chain (below_drewN b0 _) b2) _) b3) _⟩

set_option maxHeartbeats 4000000 in
set_option maxRecDepth 100000 in
theorem walk_ok_ok (s : ByteArray) (p : Nat) (hs : s.size ≤ 140737488351232) (hp : p ≤ s.size) (n q : Nat) (hq1 : p < q) (hq2 : q ≤ s.size) (g9 : num.GetIs s p n q 0) (p11 : num.PutIs n (s.extract p q)) (t : ByteArray) (k : Nat) (hk1 : p < k) (hk2 : k ≤ s.size) (g13 : num.GetTextIs s p s.size t k 0) (p15 : num.PutTextIs t (s.extract p k)) (ns : List Nat) (j : Nat) (hj1 : p < j) (hj2 : j ≤ s.size) (g21 : num.GetAllIs s p 5000 ns j 0) (p23 : num.PutAllIs ns (s.extract p j)) (w : World) :
    Calls Try.prog 8 #[.string s, .int .i64 p] w fun e w' => e = .returned (.bool true) ∧ Below w.heap.size w w' := by
  have d1n : decide (q ≤ p) = false := by simp; omega
  have d2n : decide (s.size < q) = false := by simp; omega
  have d3 : (q : Int) ≤ (s.size : Int) := by omega
  have d4 : (p : Int) ≤ (q : Int) := by omega
  have e1n : decide (k ≤ p) = false := by simp; omega
  have e2n : decide (s.size < k) = false := by simp; omega
  have e3 : (k : Int) ≤ (s.size : Int) := by omega
  have e4 : (p : Int) ≤ (k : Int) := by omega
  have c1n : decide (p < j) = true := by simp; omega
  have c2n : decide (j ≤ s.size) = true := by simp; omega
  have c3 : (j : Int) ≤ (s.size : Int) := by omega
  have c4 : (p : Int) ≤ (j : Int) := by omega
  go_enter Try.func8, Try.ntmps8
  go_wp2_with (first | (go_at_call 26; refine (alive_any _).mono ?_; rintro e w0 ⟨rfl, b0⟩) | (go_at_call 9; refine (g9 _).mono ?_; rintro e w1 ⟨rfl, rfl⟩))
  go_region_held3 (fun _ => True) (trivial) (first | (go_at_call 11; refine (p11 _).mono ?_; rintro e w2 ⟨rfl, b2⟩))
  go_wp2_with (go_at_call 13; refine (g13 _).mono ?_; rintro e w3 ⟨rfl, b3⟩)
  go_region_held3 (fun _ => True) (trivial) (first | (go_at_call 15; refine (p15 _).mono ?_; rintro e w4 ⟨rfl, b4⟩))
  go_wp2_with (go_at_call 21; refine (g21 _).mono ?_; rintro e w5 ⟨v, rfl, hv, b5⟩)
  go_region_held3 (fun _ => True) (trivial) (first | (go_at_call 23; refine (p23 _ _ (hv.below (Below.refl _ _).drew)).mono ?_; rintro e w6 ⟨rfl, b6⟩))
  go_wp2
  go_ret
  exact ⟨rfl, num.chain (num.chain (num.chain (num.chain (num.chain b0.drew b2) b3).drew b4) b5).drew b6⟩
end Go.Proofs.Ytkdffnhakgjggaa.wireOnce
