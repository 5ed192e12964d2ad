/-
  For every four numbers (of kinds uint32, uint16, uint64, uint64) the law SumNoughts of package fretsawlaw03 returns true (sum.Noughts tells what few bytes 0 at a time tell), and the arguments read as before. No condition.
-/
import Derived.Test.YtncaaodiaibacaaRows
import Derived.Test.YtncaaodiaibacaaTimes
import Derived.WalkKit
import Derived.ProofKit
import Derived.OpenShut
import Derived.ShutString
namespace Go.Proofs.Ytncaaodiaibacaa.sumNoughts
open Go.ChangeShapes Go.WideShapes Go.ChangeAt Go.RowKit
open Go.ChangeMaps (open_string shut_string)
set_option linter.unusedVariables false

theorem own : ownKnob Try.prog.godebug = none := by kernel_rfl

set_option maxHeartbeats 1000000 in
set_option maxRecDepth 100000 in
theorem walk (a0 : Int) (a1 : Int) (a2 : Int) (a3 : Int) (w0 : (Lit.int .u32 a0).wf = true) (w1 : (Lit.int .u16 a1).wf = true) (w2 : (Lit.int .u64 a2).wf = true) (w3 : (Lit.int .u64 a3).wf = true) (w : World) :
    Calls Try.prog 5 #[.int .u32 a0, .int .u16 a1, .int .u64 a2, .int .u64 a3] w fun e w' => e = .returned (.bool true) ∧ Below w.heap.size w w' := by
  obtain ⟨h0, h0'⟩ := crc.u32_range w0
  obtain ⟨h1, h1'⟩ := crc.u16_range w1
  obtain ⟨h2, h2'⟩ := crc.u64_range w2
  obtain ⟨h3, h3'⟩ := crc.u64_range w3
  obtain ⟨c, rfl⟩ := Int.eq_ofNat_of_zero_le h0
  obtain ⟨q, rfl⟩ := Int.eq_ofNat_of_zero_le h1
  obtain ⟨a, rfl⟩ := Int.eq_ofNat_of_zero_le h2
  obtain ⟨b, rfl⟩ := Int.eq_ofNat_of_zero_le h3
  obtain ⟨k, hk⟩ : ∃ k, k = q % 300 := ⟨_, rfl⟩
  obtain ⟨x, hx⟩ : ∃ x, x = a / 2 := ⟨_, rfl⟩
  obtain ⟨y, hy⟩ : ∃ y, y = b / 2 := ⟨_, rfl⟩
  obtain ⟨z, hz⟩ : ∃ z, z = x + y := ⟨_, rfl⟩
  have e1 : (q : Int) % 300 = (k : Int) := by omega
  have e2 : (a : Int) / 2 = (x : Int) := by omega
  have e3 : (b : Int) / 2 = (y : Int) := by omega
  have e4 : (x : Int) + (y : Int) = (z : Int) := by omega
  have hkl : k < 300 := by omega
  have hxl : x < 9223372036854775808 := by omega
  have hyl : y < 9223372036854775808 := by omega
  have hzl : z < 18446744073709551616 := by omega
  obtain ⟨n, hn⟩ : ∃ n, n = 4294967295 - crc.nts (8 * k) (4294967295 - c) := ⟨_, rfl⟩
  obtain ⟨m, hm⟩ : ∃ m, m = 4294967295 - crc.nts (8 * x) (4294967295 - c) := ⟨_, rfl⟩
  obtain ⟨l, hl⟩ : ∃ l, l = 4294967295 - crc.nts (8 * y) (4294967295 - m) := ⟨_, rfl⟩
  have hl2 : l = 4294967295 - crc.nts (8 * z) (4294967295 - c) := by
    have := crc.nts_lt (8 * x) (show 4294967295 - c < 4294967296 by omega)
    rw [hl, hm, show 4294967295 - (4294967295 - crc.nts (8 * x) (4294967295 - c)) = crc.nts (8 * x) (4294967295 - c) from by omega, ← crc.nts_add, hz, Nat.mul_add]
  have p1 := crc.noughts_any c k (by omega) (by omega)
  have p2 := crc.rnoughts_any c k (by omega) hkl
  have p3 := crc.noughts_any c x (by omega) (by omega)
  have p4 := crc.noughts_any m y (by omega) (by omega)
  have p5 := crc.noughts_any c z (by omega) hzl
  rw [← hn] at p1 p2
  rw [← hm] at p3
  rw [← hl] at p4
  rw [← hl2] at p5
  have q1 : ∀ w, Calls Try.prog 15 #[.int .u32 c, .int .u64 k] w fun e w' => e = .returned (.int .u32 n) ∧ w' = w := p1
  have q3 : ∀ w, Calls Try.prog 15 #[.int .u32 c, .int .u64 x] w fun e w' => e = .returned (.int .u32 m) ∧ w' = w := p3
  have q4 : ∀ w, Calls Try.prog 15 #[.int .u32 m, .int .u64 y] w fun e w' => e = .returned (.int .u32 l) ∧ w' = w := p4
  have q5 : ∀ w, Calls Try.prog 15 #[.int .u32 c, .int .u64 z] w fun e w' => e = .returned (.int .u32 l) ∧ w' = w := p5
  clear hn hm hl hl2 hk hx hy hz p1 p3 p4 p5
  go_enter Try.func5, Try.ntmps5
  go_wp2_with (first | (go_at_call 15; with_reducible refine (q1 _).mono ?_; rintro e w1 ⟨rfl, rfl⟩) | (go_at_call 15; with_reducible refine (q3 _).mono ?_; rintro e w1 ⟨rfl, rfl⟩) | (go_at_call 15; with_reducible refine (q4 _).mono ?_; rintro e w1 ⟨rfl, rfl⟩) | (go_at_call 15; with_reducible refine (q5 _).mono ?_; rintro e w1 ⟨rfl, rfl⟩) | (go_at_call 16; refine (p2 _).mono ?_; rintro e w2 ⟨rfl, rfl⟩))
  go_ret
  exact ⟨rfl, Below.refl _ _⟩

set_option maxRecDepth 100000 in
theorem lifted (os : Os) (started : os.Started) (H : Type) (enc : TypeId × Value → H) :
    ReturnsInHanded {} Try.checked os 5 .any (Rows.sumNoughtsSpec.pre6 enc Try.prog Try.f5 Rows.sumNoughtsRow.domain false) (Rows.sumNoughtsSpec.post enc Try.prog Try.f5 false true false false) := by
  refine returnsInHanded_of_change (C := Try.checked) own started (by kernel_rfl) Try.func5
    (ChangeSpec.witness6 (enc := enc) (C := Try.checked) false ⟨#[], #[.int .u32 0, .int .u16 0, .int .u64 0, .int .u64 0], []⟩ 8 (by kernel_rfl) (by kernel_rfl) (by kernel_rfl) (by kernel_rfl)) ?_
  intro W base args ds gs before hval0 hW hcnd _
  have hval : ∀ (j : Nat) t v, Try.f5.params[j]? = some t → args[j]? = some v → Value.okWide Try.prog W .any base t v := hval0
  have hW' := hW
  obtain ⟨p, q, hA0, hV, rfl, hfz, hnd⟩ := hW
  have hA : DataW.TrodAll enc Try.prog W 0 (fun _ => true) true Try.f5.params.toList args.toList ds p := hA0
  rw [Try.params5] at hA hval
  obtain ⟨v0, vs0, d0, ds0, p0, q0, hargs, rfl, rfl, h0, r0⟩ := trodAll_cons hA
  obtain ⟨v1, vs1, d1, ds1, p1, q1, rfl, rfl, rfl, h1, r1⟩ := trodAll_cons r0
  obtain ⟨v2, vs2, d2, ds2, p2, q2, rfl, rfl, rfl, h2, r2⟩ := trodAll_cons r1
  obtain ⟨v3, vs3, d3, ds3, p3, q3, rfl, rfl, rfl, h3, r3⟩ := trodAll_cons r2
  obtain ⟨rfl, rfl, rfl⟩ := trodAll_nil r3
  obtain rfl : args = #[v0, v1, v2, v3] := by cases args; simp_all
  obtain ⟨rfl, rfl⟩ := trodVars_none hV
  obtain ⟨a0, rfl, rfl, rfl, w0⟩ := open_int Try.underlying22 (hval 0 22 v0 rfl rfl) h0
  obtain ⟨a1, rfl, rfl, rfl, w1⟩ := open_int Try.underlying29 (hval 1 29 v1 rfl rfl) h1
  obtain ⟨a2, rfl, rfl, rfl, w2⟩ := open_int Try.underlying30 (hval 2 30 v2 rfl rfl) h2
  obtain ⟨a3, rfl, rfl, rfl, w3⟩ := open_int Try.underlying30 (hval 3 30 v3 rfl rfl) h3
  clear hA0 hval0
  refine (walk a0 a1 a2 a3 w0 w1 w2 w3 W).mono fun e W' ⟨he, bel⟩ => ?_
  subst he
  exact ⟨_, rfl, _, _, _, [], [], [], hW', trodAll_mk1 (shut_bool Try.underlying4 _), (trodAll_cons_mk (shut_int Try.underlying22 w0) (trodAll_cons_mk (shut_int Try.underlying29 w1) (trodAll_cons_mk (shut_int Try.underlying30 w2) (trodAll_cons_mk (shut_int Try.underlying30 w3) trodAll_mk0)))), rfl, bel.frame _, fun h => by cases h⟩

theorem over : Rows.sumNoughtsRow.holds Try.pinned (OpenSpec.ofChange Rows.sumNoughtsSpec) :=
  OpenClaim.holds_of_wide 5 Try.f5 rfl rfl rfl rfl rfl rfl rfl ⟨rfl, rfl, rfl, rfl, rfl⟩ rfl rfl rfl rfl rfl (by kernel_rfl) Try.func5 (by kernel_rfl)
    (of_decide_eq_true (by kernel_rfl)) (by unfold Func.isWrapper; first | (rw [if_pos (by decide +kernel)]; kernel_rfl) | (rw [if_neg (by decide +kernel)]; exact ⟨rfl, rfl⟩))
    (fun os started H enc _ => lifted os started H enc)

theorem proved : Rows.SumNoughtsSaid :=
  over
#print axioms proved
end Go.Proofs.Ytncaaodiaibacaa.sumNoughts
