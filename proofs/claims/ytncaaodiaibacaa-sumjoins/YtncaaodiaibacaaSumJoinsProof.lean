/-
  For every two texts the law SumJoins of package fretsawlaw03 returns true (the sum of two texts, one behind the other, goes on from the first one's), and the arguments read as before. No condition.
-/
import Derived.Test.YtncaaodiaibacaaRows
import Derived.Test.YtncaaodiaibacaaAlive
import Derived.SizedLaws
import Derived.WalkKit
import Derived.ProofKit
import Derived.OpenShut
import Derived.ShutString
namespace Go.Proofs.Ytncaaodiaibacaa.sumJoins
open Go.ChangeShapes Go.WideShapes Go.ChangeAt Go.RowKit
open Go.ChangeMaps (open_string shut_string)
set_option linter.unusedVariables false

theorem own : ownKnob Try.prog.godebug = none := by kernel_rfl

set_option maxHeartbeats 4000000 in
set_option maxRecDepth 100000 in
theorem walk (a0 : ByteArray) (a1 : ByteArray) (w0 : a0.size ≤ 140737488351232) (w1 : a1.size ≤ 140737488351232) (w : World) :
    Calls Try.prog 4 #[.string a0, .string a1] w fun e w' => e = .returned (.bool true) ∧ Below w.heap.size w w' := by
  obtain ⟨s, hs, hsl⟩ := crc.short_is a0 w0
  obtain ⟨t, ht, htl⟩ := crc.short_is a1 w1
  obtain ⟨n, hn⟩ : ∃ n, n = crc.crc 0 s := ⟨_, rfl⟩
  obtain ⟨m, hm⟩ : ∃ m, m = crc.crc n t := ⟨_, rfl⟩
  have hnl : n < 4294967296 := by rw [hn]; exact crc.crc_lt _ _
  have hj : m = crc.crc 0 (s ++ t) := by rw [hm, hn, crc.crc_join]
  have p1 := crc.of_is (s ++ t) m (by rw [ByteArray.size_append]; omega) hj
  have p2 := crc.of_is s n (by omega) hn
  have p3 := crc.on_is n t m hnl (by omega) hm
  have p4 := crc.of_empty
  have p5 := crc.on_empty n hnl
  clear hn hm hj
  have c1 : ∀ w, Calls Try.prog 9 #[.string a0] w fun e w' => e = .returned (.string s) ∧ w' = w := hs
  have c2 : ∀ w, Calls Try.prog 9 #[.string a1] w fun e w' => e = .returned (.string t) ∧ w' = w := ht
  have q1 : ∀ w, Calls Try.prog 10 #[.string (s ++ t)] w fun e w' => e = .returned (.int .u32 m) ∧ Below w.heap.size w w' := p1
  have q2 : ∀ w, Calls Try.prog 10 #[.string s] w fun e w' => e = .returned (.int .u32 n) ∧ Below w.heap.size w w' := p2
  have q3 : ∀ w, Calls Try.prog 12 #[.int .u32 n, .string t] w fun e w' => e = .returned (.int .u32 m) ∧ Below w.heap.size w w' := p3
  have q4 : ∀ w, Calls Try.prog 10 #[.string ⟨#[]⟩] w fun e w' => e = .returned (.int .u32 0) ∧ Below w.heap.size w w' := p4
  have q5 : ∀ w, Calls Try.prog 12 #[.int .u32 n, .string ⟨#[]⟩] w fun e w' => e = .returned (.int .u32 n) ∧ Below w.heap.size w w' := p5
  clear p1 p2 p3 p4 p5 hs ht
  go_enter Try.func4, Try.ntmps4
  go_wp2_with (first | (go_at_call 14; refine (crc.alive_any _).mono ?_; rintro e w0 ⟨rfl, b0⟩) | (go_at_call 9; with_reducible refine (c1 _).mono ?_; rintro e w1 ⟨rfl, rfl⟩) | (go_at_call 9; with_reducible refine (c2 _).mono ?_; rintro e w1 ⟨rfl, rfl⟩) | (go_at_call 10; with_reducible refine (q1 _).mono ?_; rintro e w1 ⟨rfl, b1⟩) | (go_at_call 10; with_reducible refine (q2 _).mono ?_; rintro e w2 ⟨rfl, b2⟩) | (go_at_call 12; with_reducible refine (q3 _).mono ?_; rintro e w3 ⟨rfl, b3⟩) | (go_at_call 10; with_reducible refine (q4 _).mono ?_; rintro e w4 ⟨rfl, b4⟩) | (go_at_call 12; with_reducible refine (q5 _).mono ?_; rintro e w5 ⟨rfl, b5⟩))
  go_ret
  exact ⟨rfl, crc.chain (crc.chain (crc.chain (crc.chain (crc.chain (crc.chain (crc.chain b0 b1) (by assumption)) b3) b4) (by assumption)) b5) b2⟩

set_option maxRecDepth 100000 in
theorem lifted (os : Os) (started : os.Started) (H : Type) (enc : TypeId × Value → H) :
    ReturnsInHanded {} Try.checked os 4 .any (Rows.sumJoinsSpec.pre6 enc Try.prog Try.f4 Rows.sumJoinsRow.domain false) (Rows.sumJoinsSpec.post enc Try.prog Try.f4 false true false false) := by
  refine returnsInHanded_of_change_sized (C := Try.checked) own started (by kernel_rfl) Try.func4
    (ChangeSpec.witness6 (enc := enc) (C := Try.checked) false ⟨#[], #[.string ByteArray.empty, .string ByteArray.empty], []⟩ 8 (by kernel_rfl) (by kernel_rfl) (by kernel_rfl) (by kernel_rfl)) ?_
  intro W base args ds gs before hval0 hW hcnd hsz0 _
  have hsz : (DataW.weightsEach Try.prog (Try.f4.params.toList ++ Rows.sumJoinsSpec.plain.varTypes Try.prog) (ds ++ gs)).all (· ≤ reachBytes) = true := hsz0
  have hval : ∀ (j : Nat) t v, Try.f4.params[j]? = some t → args[j]? = some v → Value.okWide Try.prog W .any base t v := hval0
  have hW' := hW
  obtain ⟨p, q, hA0, hV, rfl, hfz, hnd⟩ := hW
  have hA : DataW.TrodAll enc Try.prog W 0 (fun _ => true) true Try.f4.params.toList args.toList ds p := hA0
  rw [Try.params4] at hA hval hsz
  obtain ⟨v0, vs0, d0, ds0, p0, q0, hargs, rfl, rfl, h0, r0⟩ := trodAll_cons hA
  obtain ⟨v1, vs1, d1, ds1, p1, q1, rfl, rfl, rfl, h1, r1⟩ := trodAll_cons r0
  obtain ⟨rfl, rfl, rfl⟩ := trodAll_nil r1
  obtain rfl : args = #[v0, v1] := by cases args; simp_all
  obtain ⟨rfl, rfl⟩ := trodVars_none hV
  obtain ⟨a0, rfl, rfl, rfl, w0⟩ := open_string Try.underlying9 (hval 0 9 v0 rfl rfl) h0
  obtain ⟨a1, rfl, rfl, rfl, w1⟩ := open_string Try.underlying9 (hval 1 9 v1 rfl rfl) h1
  clear hA0 hval0
  have z0 : a0.size ≤ 140737488351232 := by
    have := sized_string hsz (j := 0) (t := 9) rfl rfl
    simpa [reachBytes] using this
  have z1 : a1.size ≤ 140737488351232 := by
    have := sized_string hsz (j := 1) (t := 9) rfl rfl
    simpa [reachBytes] using this
  refine (walk a0 a1 z0 z1 W).mono fun e W' ⟨he, bel⟩ => ?_
  subst he
  exact ⟨_, rfl, _, _, _, [], [], [], hW', trodAll_mk1 (shut_bool Try.underlying4 _), (trodAll_cons_mk (shut_string Try.underlying9 w0) (trodAll_cons_mk (shut_string Try.underlying9 w1) trodAll_mk0)), rfl, bel.frame _, fun h => by cases h⟩

theorem over : Rows.sumJoinsRow.holds Try.pinned (OpenSpec.ofChange Rows.sumJoinsSpec) :=
  OpenClaim.holds_of_wide 4 Try.f4 rfl rfl rfl rfl rfl rfl rfl ⟨rfl, rfl, rfl, rfl, rfl⟩ rfl rfl rfl rfl rfl (by kernel_rfl) Try.func4 (by kernel_rfl)
    (of_decide_eq_true (by kernel_rfl)) (by unfold Func.isWrapper; first | (rw [if_pos (by decide +kernel)]; kernel_rfl) | (rw [if_neg (by decide +kernel)]; exact ⟨rfl, rfl⟩))
    (fun os started H enc _ => lifted os started H enc)

theorem proved : Rows.SumJoinsSaid :=
  over
#print axioms proved
end Go.Proofs.Ytncaaodiaibacaa.sumJoins
