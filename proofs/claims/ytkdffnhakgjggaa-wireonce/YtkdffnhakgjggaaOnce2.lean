/-
  Walks of the law WireOnce, arm by arm: a number that is read, and a text or a list, or both, that is refused.
-/
import Derived.Test.YtkdffnhakgjggaaOnce1
import Derived.WalkKit
import Derived.ProofKit
import Derived.OpenShut
import Derived.ShutString
import Derived.Lib.OthersKept
namespace Go.Proofs.Ytkdffnhakgjggaa.wireOnce
open Go.ChangeShapes Go.WideShapes Go.ChangeAt Go.RowKit
open Go.ChangeMaps (open_string shut_string)
set_option linter.unusedVariables false


set_option maxHeartbeats 4000000 in
set_option maxRecDepth 100000 in
theorem walk_ok_err (s : ByteArray) (p : Nat) (hs : s.size ≤ 140737488351232) (hp : p ≤ s.size) (n q : Nat) (hq1 : p < q) (hq2 : q ≤ s.size) (g9 : num.GetIs s p n q 0) (p11 : num.PutIs n (s.extract p q)) (t : ByteArray) (k : Nat) (hk1 : p < k) (hk2 : k ≤ s.size) (g13 : num.GetTextIs s p s.size t k 0) (p15 : num.PutTextIs t (s.extract p k)) (h : Nat) (hh : h ≠ 0) (g21 : num.GetAllIs s p 5000 [] 0 h) (w : World) :
    Calls Try.prog 8 #[.string s, .int .i64 p] w fun e w' => e = .returned (.bool true) ∧ Below w.heap.size w w' := by
  have d1n : decide (q ≤ p) = false := by simp; omega
  have d2n : decide (s.size < q) = false := by simp; omega
  have d3 : (q : Int) ≤ (s.size : Int) := by omega
  have d4 : (p : Int) ≤ (q : Int) := by omega
  have e1n : decide (k ≤ p) = false := by simp; omega
  have e2n : decide (s.size < k) = false := by simp; omega
  have e3 : (k : Int) ≤ (s.size : Int) := by omega
  have e4 : (p : Int) ≤ (k : Int) := by omega
  have hz2 : ((h : Int) != 0) = true := by rw [bne_iff_ne]; omega
  go_enter Try.func8, Try.ntmps8
  go_wp2_with (first | (go_at_call 26; refine (alive_any _).mono ?_; rintro e w0 ⟨rfl, b0⟩) | (go_at_call 9; refine (g9 _).mono ?_; rintro e w1 ⟨rfl, rfl⟩))
  go_region_held3 (fun _ => True) (trivial) (first | (go_at_call 11; refine (p11 _).mono ?_; rintro e w2 ⟨rfl, b2⟩))
  go_wp2_with (go_at_call 13; refine (g13 _).mono ?_; rintro e w3 ⟨rfl, b3⟩)
  go_region_held3 (fun _ => True) (trivial) (first | (go_at_call 15; refine (p15 _).mono ?_; rintro e w4 ⟨rfl, b4⟩))
  go_wp2_with (go_at_call 21; refine (g21 _).mono ?_; rintro e w5 ⟨v, rfl, hv, b5⟩)
  go_quiet (fail)
  go_wp2
  go_ret
  exact ⟨rfl, below_drewN (num.chain (num.chain (num.chain (num.chain b0.drew b2) b3).drew b4) b5) _⟩

set_option maxHeartbeats 4000000 in
set_option maxRecDepth 100000 in
theorem walk_err_ok (s : ByteArray) (p : Nat) (hs : s.size ≤ 140737488351232) (hp : p ≤ s.size) (n q : Nat) (hq1 : p < q) (hq2 : q ≤ s.size) (g9 : num.GetIs s p n q 0) (p11 : num.PutIs n (s.extract p q)) (f : Nat) (hf : f ≠ 0) (g13 : num.GetTextIs s p s.size ⟨#[]⟩ 0 f) (ns : List Nat) (j : Nat) (hj1 : p < j) (hj2 : j ≤ s.size) (g21 : num.GetAllIs s p 5000 ns j 0) (p23 : num.PutAllIs ns (s.extract p j)) (w : World) :
    Calls Try.prog 8 #[.string s, .int .i64 p] w fun e w' => e = .returned (.bool true) ∧ Below w.heap.size w w' := by
  have d1n : decide (q ≤ p) = false := by simp; omega
  have d2n : decide (s.size < q) = false := by simp; omega
  have d3 : (q : Int) ≤ (s.size : Int) := by omega
  have d4 : (p : Int) ≤ (q : Int) := by omega
  have hz : ((f : Int) == 0) = false := by rw [beq_eq_false_iff_ne]; omega
  have c1n : decide (p < j) = true := by simp; omega
  have c2n : decide (j ≤ s.size) = true := by simp; omega
  have c3 : (j : Int) ≤ (s.size : Int) := by omega
  have c4 : (p : Int) ≤ (j : Int) := by omega
  go_enter Try.func8, Try.ntmps8
  go_wp2_with (first | (go_at_call 26; refine (alive_any _).mono ?_; rintro e w0 ⟨rfl, b0⟩) | (go_at_call 9; refine (g9 _).mono ?_; rintro e w1 ⟨rfl, rfl⟩))
  go_region_held3 (fun _ => True) (trivial) (first | (go_at_call 11; refine (p11 _).mono ?_; rintro e w2 ⟨rfl, b2⟩))
  go_wp2_with (go_at_call 13; refine (g13 _).mono ?_; rintro e w3 ⟨rfl, b3⟩)
  go_quiet (fail)
  go_wp2_with (go_at_call 21; refine (g21 _).mono ?_; rintro e w5 ⟨v, rfl, hv, b5⟩)
  go_region_held3 (fun _ => True) (trivial) (first | (go_at_call 23; refine (p23 _ _ (hv.below (Below.refl _ _).drew)).mono ?_; rintro e w6 ⟨rfl, b6⟩))
  go_wp2
  go_ret
  exact ⟨rfl, num.chain (num.chain (below_drewN (num.chain (num.chain b0.drew b2) b3) _) b5).drew b6⟩

set_option maxHeartbeats 4000000 in
set_option maxRecDepth 100000 in
theorem walk_err_err (s : ByteArray) (p : Nat) (hs : s.size ≤ 140737488351232) (hp : p ≤ s.size) (n q : Nat) (hq1 : p < q) (hq2 : q ≤ s.size) (g9 : num.GetIs s p n q 0) (p11 : num.PutIs n (s.extract p q)) (f : Nat) (hf : f ≠ 0) (g13 : num.GetTextIs s p s.size ⟨#[]⟩ 0 f) (h : Nat) (hh : h ≠ 0) (g21 : num.GetAllIs s p 5000 [] 0 h) (w : World) :
    Calls Try.prog 8 #[.string s, .int .i64 p] w fun e w' => e = .returned (.bool true) ∧ Below w.heap.size w w' := by
  have d1n : decide (q ≤ p) = false := by simp; omega
  have d2n : decide (s.size < q) = false := by simp; omega
  have d3 : (q : Int) ≤ (s.size : Int) := by omega
  have d4 : (p : Int) ≤ (q : Int) := by omega
  have hz : ((f : Int) == 0) = false := by rw [beq_eq_false_iff_ne]; omega
  have hz2 : ((h : Int) != 0) = true := by rw [bne_iff_ne]; omega
  go_enter Try.func8, Try.ntmps8
  go_wp2_with (first | (go_at_call 26; refine (alive_any _).mono ?_; rintro e w0 ⟨rfl, b0⟩) | (go_at_call 9; refine (g9 _).mono ?_; rintro e w1 ⟨rfl, rfl⟩))
  go_region_held3 (fun _ => True) (trivial) (first | (go_at_call 11; refine (p11 _).mono ?_; rintro e w2 ⟨rfl, b2⟩))
  go_wp2_with (go_at_call 13; refine (g13 _).mono ?_; rintro e w3 ⟨rfl, b3⟩)
  go_quiet (fail)
  go_wp2_with (go_at_call 21; refine (g21 _).mono ?_; rintro e w5 ⟨v, rfl, hv, b5⟩)
  go_quiet (fail)
  go_wp2
  go_ret
  exact ⟨rfl, below_drewN (num.chain (below_drewN (num.chain (num.chain b0.drew b2) b3) _) b5) _⟩
end Go.Proofs.Ytkdffnhakgjggaa.wireOnce
