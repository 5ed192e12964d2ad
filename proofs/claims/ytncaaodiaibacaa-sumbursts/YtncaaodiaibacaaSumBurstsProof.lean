/-
  For every text, every place and every pattern the law SumBursts of package fretsawlaw03 returns true (a text of which bits within 32 are turned has another sum), and the arguments read as before. No condition.
-/
import Derived.Test.YtncaaodiaibacaaRows
import Derived.Test.YtncaaodiaibacaaBurst
import Derived.SizedLaws
import Derived.WalkKit
import Derived.ProofKit
import Derived.OpenShut
import Derived.ShutString
namespace Go.Proofs.Ytncaaodiaibacaa.sumBursts
open Go.ChangeShapes Go.WideShapes Go.ChangeAt Go.RowKit
open Go.ChangeMaps (open_string shut_string)
set_option linter.unusedVariables false

theorem own : ownKnob Try.prog.godebug = none := by kernel_rfl

theorem from_nat (a : Int) (h1 : -9223372036854775808 ≤ a) (h2 : a < 9223372036854775808) : (∃ q : Nat, a = (q : Int) ∧ q < 9223372036854775808) ∨ (a < 0 ∧ ∃ q : Nat, -(a + 1) = (q : Int) ∧ q < 9223372036854775808) := by
  by_cases h : 0 ≤ a
  · obtain ⟨q, rfl⟩ := Int.eq_ofNat_of_zero_le h
    exact .inl ⟨q, rfl, by omega⟩
  · obtain ⟨q, hq⟩ := Int.eq_ofNat_of_zero_le (show 0 ≤ -(a + 1) by omega)
    exact .inr ⟨by omega, q, hq, by omega⟩

set_option maxHeartbeats 1000000 in
set_option maxRecDepth 100000 in
theorem walk (a0 : ByteArray) (a1 : Int) (a2 : Int) (w0 : a0.size ≤ 140737488351232) (w1 : (Lit.int .i64 a1).wf = true) (w2 : (Lit.int .u32 a2).wf = true) (w : World) :
    Calls Try.prog 6 #[.string a0, .int .i64 a1, .int .u32 a2] w fun e w' => e = .returned (.bool true) ∧ Below w.heap.size w w' := by
  obtain ⟨h1, h1'⟩ := crc.i64_range w1
  obtain ⟨h2, h2'⟩ := crc.u32_range w2
  obtain ⟨p, rfl⟩ := Int.eq_ofNat_of_zero_le h2
  have hp : p < 4294967296 := by omega
  clear h2' h2
  obtain ⟨s, hs, hsl⟩ := crc.short_is a0 w0
  obtain ⟨n, hn⟩ : ∃ n, n = crc.crc 0 s := ⟨_, rfl⟩
  have p1 := crc.of_is s n (by omega) hn
  by_cases h0 : s.size = 0
  · rw [crc.crc_empty s h0] at hn
    rw [hn] at p1
    have hd : ((s.size : Int) == 0) = true := by rw [beq_iff_eq]; omega
    clear hn h0 w1 w2 h1 h1'
    go_enter Try.func6, Try.ntmps6
    go_wp2_with (first | (go_at_call 9; refine (hs _).mono ?_; rintro e w1 ⟨rfl, rfl⟩) | (go_at_call 10; refine (p1 _).mono ?_; rintro e w2 ⟨rfl, b2⟩))
    go_ret
    exact ⟨rfl, b2⟩
  · have hpos : 0 < s.size := by omega
    have hd : ((s.size : Int) == 0) = false := by rw [beq_eq_false_iff_ne]; omega
    have key : ∀ q : Nat, q < 9223372036854775808 → ∃ (f m : Nat) (t : ByteArray), (q : Int) % (8 * (s.size : Int)) = (f : Int) ∧ crc.TurnedIs s f p t ∧ crc.OfIs t m ∧ Hid (n = m ↔ s = t) := by
      intro q hq
      have hf : q % (8 * s.size) < 8 * s.size := Nat.mod_lt _ (by omega)
      obtain ⟨t, ht, hz, hm⟩ := crc.turned_is s (q % (8 * s.size)) p (by omega) (by omega) hp
      refine ⟨q % (8 * s.size), crc.crc 0 t, t, crc.rem_nat q _, ht, crc.of_is t _ (by omega) rfl, ?_⟩
      show _ ↔ _
      exact ⟨fun e => crc.burst_crc s t _ p hp (Nat.le_of_lt hf) hz hm (by rw [← hn, e]), fun e => by rw [hn, e]⟩
    clear hn h0 w1 w2
    rcases from_nat a1 h1 h1' with ⟨q, rfl, hql⟩ | ⟨hneg, q, hq, hql⟩
    · clear h1 h1'
      have hd2 : decide ((q : Int) < 0) = false := by simp
      obtain ⟨f, m, t, hrem, ht, p2, HI⟩ := key q hql
      clear key
      by_cases e : s = t
      · obtain rfl := HI.out.2 e
        subst e
        clear HI
        go_enter Try.func6, Try.ntmps6
        go_wp2_with (first | (go_at_call 9; refine (hs _).mono ?_; rintro e w1 ⟨rfl, rfl⟩) | (go_at_call 17; refine (ht _).mono ?_; rintro e w2 ⟨rfl, b2⟩) | (go_at_call 10; refine (p1 _).mono ?_; rintro e w3 ⟨rfl, b3⟩))
        go_ret
        exact ⟨rfl, crc.chain (crc.chain b2 (by assumption)) b3⟩
      · have hnm := crc.apart (fun h => e (HI.out.1 h))
        have hst := crc.unlike e
        clear HI e
        have q1 : ∀ w, Calls Try.prog 10 #[.string s] w fun e w' => e = .returned (.int .u32 n) ∧ Below w.heap.size w w' := p1
        have q2 : ∀ w, Calls Try.prog 10 #[.string t] w fun e w' => e = .returned (.int .u32 m) ∧ Below w.heap.size w w' := p2
        clear p1 p2
        go_enter Try.func6, Try.ntmps6
        go_wp2_with (first | (go_at_call 9; refine (hs _).mono ?_; rintro e w1 ⟨rfl, rfl⟩) | (go_at_call 17; refine (ht _).mono ?_; rintro e w2 ⟨rfl, b2⟩) | (go_at_call 10; with_reducible refine (q1 _).mono ?_; rintro e w3 ⟨rfl, b3⟩) | (go_at_call 10; with_reducible refine (q2 _).mono ?_; rintro e w4 ⟨rfl, b4⟩))
        go_ret
        exact ⟨rfl, crc.chain (crc.chain b2 b3) b4⟩
    · clear h1 h1'
      obtain ⟨f, m, t, hrem, ht, p2, HI⟩ := key q hql
      clear key
      by_cases e : s = t
      · obtain rfl := HI.out.2 e
        subst e
        clear HI
        go_enter Try.func6, Try.ntmps6
        go_wp2_with (first | (go_at_call 9; refine (hs _).mono ?_; rintro e w1 ⟨rfl, rfl⟩) | (go_at_call 17; refine (ht _).mono ?_; rintro e w2 ⟨rfl, b2⟩) | (go_at_call 10; refine (p1 _).mono ?_; rintro e w3 ⟨rfl, b3⟩))
        go_ret
        exact ⟨rfl, crc.chain (crc.chain b2 (by assumption)) b3⟩
      · have hnm := crc.apart (fun h => e (HI.out.1 h))
        have hst := crc.unlike e
        clear HI e
        have q1 : ∀ w, Calls Try.prog 10 #[.string s] w fun e w' => e = .returned (.int .u32 n) ∧ Below w.heap.size w w' := p1
        have q2 : ∀ w, Calls Try.prog 10 #[.string t] w fun e w' => e = .returned (.int .u32 m) ∧ Below w.heap.size w w' := p2
        clear p1 p2
        go_enter Try.func6, Try.ntmps6
        go_wp2_with (first | (go_at_call 9; refine (hs _).mono ?_; rintro e w1 ⟨rfl, rfl⟩) | (go_at_call 17; refine (ht _).mono ?_; rintro e w2 ⟨rfl, b2⟩) | (go_at_call 10; with_reducible refine (q1 _).mono ?_; rintro e w3 ⟨rfl, b3⟩) | (go_at_call 10; with_reducible refine (q2 _).mono ?_; rintro e w4 ⟨rfl, b4⟩))
        go_ret
        exact ⟨rfl, crc.chain (crc.chain b2 b3) b4⟩

set_option maxRecDepth 100000 in
theorem lifted (os : Os) (started : os.Started) (H : Type) (enc : TypeId × Value → H) :
    ReturnsInHanded {} Try.checked os 6 .any (Rows.sumBurstsSpec.pre6 enc Try.prog Try.f6 Rows.sumBurstsRow.domain false) (Rows.sumBurstsSpec.post enc Try.prog Try.f6 false true false false) := by
  refine returnsInHanded_of_change_sized (C := Try.checked) own started (by kernel_rfl) Try.func6
    (ChangeSpec.witness6 (enc := enc) (C := Try.checked) false ⟨#[], #[.string ByteArray.empty, .int .i64 0, .int .u32 0], []⟩ 8 (by kernel_rfl) (by kernel_rfl) (by kernel_rfl) (by kernel_rfl)) ?_
  intro W base args ds gs before hval0 hW hcnd hsz0 _
  have hsz : (DataW.weightsEach Try.prog (Try.f6.params.toList ++ Rows.sumBurstsSpec.plain.varTypes Try.prog) (ds ++ gs)).all (· ≤ reachBytes) = true := hsz0
  have hval : ∀ (j : Nat) t v, Try.f6.params[j]? = some t → args[j]? = some v → Value.okWide Try.prog W .any base t v := hval0
  have hW' := hW
  obtain ⟨p, q, hA0, hV, rfl, hfz, hnd⟩ := hW
  have hA : DataW.TrodAll enc Try.prog W 0 (fun _ => true) true Try.f6.params.toList args.toList ds p := hA0
  rw [Try.params6] at hA hval hsz
  obtain ⟨v0, vs0, d0, ds0, p0, q0, hargs, rfl, rfl, h0, r0⟩ := trodAll_cons hA
  obtain ⟨v1, vs1, d1, ds1, p1, q1, rfl, rfl, rfl, h1, r1⟩ := trodAll_cons r0
  obtain ⟨v2, vs2, d2, ds2, p2, q2, rfl, rfl, rfl, h2, r2⟩ := trodAll_cons r1
  obtain ⟨rfl, rfl, rfl⟩ := trodAll_nil r2
  obtain rfl : args = #[v0, v1, v2] := by cases args; simp_all
  obtain ⟨rfl, rfl⟩ := trodVars_none hV
  obtain ⟨a0, rfl, rfl, rfl, w0⟩ := open_string Try.underlying9 (hval 0 9 v0 rfl rfl) h0
  obtain ⟨a1, rfl, rfl, rfl, w1⟩ := open_int Try.underlying3 (hval 1 3 v1 rfl rfl) h1
  obtain ⟨a2, rfl, rfl, rfl, w2⟩ := open_int Try.underlying22 (hval 2 22 v2 rfl rfl) h2
  clear hA0 hval0
  have z0 : a0.size ≤ 140737488351232 := by
    have := sized_string hsz (j := 0) (t := 9) rfl rfl
    simpa [reachBytes] using this
  refine (walk a0 a1 a2 z0 w1 w2 W).mono fun e W' ⟨he, bel⟩ => ?_
  subst he
  exact ⟨_, rfl, _, _, _, [], [], [], hW', trodAll_mk1 (shut_bool Try.underlying4 _), (trodAll_cons_mk (shut_string Try.underlying9 w0) (trodAll_cons_mk (shut_int Try.underlying3 w1) (trodAll_cons_mk (shut_int Try.underlying22 w2) trodAll_mk0))), rfl, bel.frame _, fun h => by cases h⟩

theorem over : Rows.sumBurstsRow.holds Try.pinned (OpenSpec.ofChange Rows.sumBurstsSpec) :=
  OpenClaim.holds_of_wide 6 Try.f6 rfl rfl rfl rfl rfl rfl rfl ⟨rfl, rfl, rfl, rfl, rfl⟩ rfl rfl rfl rfl rfl (by kernel_rfl) Try.func6 (by kernel_rfl)
    (of_decide_eq_true (by kernel_rfl)) (by unfold Func.isWrapper; first | (rw [if_pos (by decide +kernel)]; kernel_rfl) | (rw [if_neg (by decide +kernel)]; exact ⟨rfl, rfl⟩))
    (fun os started H enc _ => lifted os started H enc)

theorem proved : Rows.SumBurstsSaid :=
  over
#print axioms proved
end Go.Proofs.Ytncaaodiaibacaa.sumBursts
