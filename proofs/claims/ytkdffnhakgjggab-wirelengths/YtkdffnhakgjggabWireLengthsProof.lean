/-
  For every two numbers of kind uint64 the law WireLengths of package fretsawlaw02 returns true (greater numbers are written no shorter, each with a byte for every seven bits that it needs), and the arguments read as before. No condition.
-/
import Derived.Test.YtkdffnhakgjggabRows
import Derived.Test.YtkdffnhakgjggabLens
import Derived.WalkKit
import Derived.ProofKit
import Derived.OpenShut
import Derived.ShutString
namespace Go.Proofs.Ytkdffnhakgjggab.wireLengths
open Go.ChangeShapes Go.WideShapes Go.ChangeAt Go.RowKit
open Go.ChangeMaps (open_string shut_string)
set_option linter.unusedVariables false

theorem own : ownKnob Try.prog.godebug = none := by kernel_rfl

theorem walk_le (a b : Nat) (h : a ≤ b) (hb : b < 18446744073709551616) (x y : Value) (hxy : (x = .int .u64 a ∧ y = .int .u64 b) ∨ (x = .int .u64 b ∧ y = .int .u64 a)) (w : World) :
    Calls Try.prog 3 #[x, y] w fun e w' => e = .returned (.bool true) ∧ Below w.heap.size w w' := by
  obtain ⟨s, hs⟩ : ∃ s : ByteArray, s.data.toList = num.digs a := ⟨⟨(num.digs a).toArray⟩, by simp⟩
  obtain ⟨t, ht⟩ : ∃ t : ByteArray, t.data.toList = num.digs b := ⟨⟨(num.digs b).toArray⟩, by simp⟩
  have es : s.size = (num.digs a).length := by rw [← hs]; simp
  have et : t.size = (num.digs b).length := by rw [← ht]; simp
  have pa := num.put_is a (by omega) s hs
  have pb := num.put_is b hb t ht
  have h1 := num.digs_pos a
  have h2 := num.digs_mono a b h
  have h3 := num.digs_length b hb
  have HT : Hid (1 + num.rest (b / 128) = t.size) := by
    show _ = _
    rw [et, num.rest_len]
    exact num.digs_rest b
  have hsz : 1 ≤ s.size ∧ s.size ≤ t.size ∧ t.size ≤ 10 := by omega
  obtain ⟨g1, g2, g3⟩ := hsz
  clear es et hs ht h1 h2 h3
  have hxy2 : (b = a ∧ x = .int .u64 b ∧ y = .int .u64 b) ∨ (a < b ∧ x = .int .u64 a ∧ y = .int .u64 b) ∨ (a < b ∧ x = .int .u64 b ∧ y = .int .u64 a) := by
    rcases Nat.lt_or_eq_of_le h with hl | rfl
    · rcases hxy with ⟨rfl, rfl⟩ | ⟨rfl, rfl⟩
      · exact .inr (.inl ⟨hl, rfl, rfl⟩)
      · exact .inr (.inr ⟨hl, rfl, rfl⟩)
    · rcases hxy with ⟨rfl, rfl⟩ | ⟨rfl, rfl⟩ <;> exact .inl ⟨rfl, rfl, rfl⟩
  clear hxy
  rcases hxy2 with ⟨rfl, rfl, rfl⟩ | ⟨hl, rfl, rfl⟩ | ⟨hl, rfl, rfl⟩
  all_goals
    go_enter Try.func3, Try.ntmps3
    go_wp2_with fail
    refine (pa _).mono ?_
    rintro e w1 ⟨rfl, b1⟩
    go_wp2_with fail
    refine (pb _).mono ?_
    rintro e w2 ⟨rfl, b2⟩
    go_wp2
    go_loop [7, 8] (fun u v => ∃ c k : Nat, u = .int .i64 c ∧ v = .int .u64 k ∧ c ≤ 10 ∧ Hid (c + num.rest k = t.size) ∧ k < 18446744073709551616) (fun _ v => (intOf v).toNat)
    case atStart => exact ⟨1, b / 128, rfl, by go_num, by omega, HT, by omega⟩
    case round =>
      obtain ⟨c, k, rfl, rfl, hc, HC, hk⟩ := hrel
      by_cases hz : k = 0
      · subst hz
        have e : c = t.size := by have := HC.out; rw [num.rest_zero] at this; omega
        subst e
        go_wp2
        go_ret
        exact ⟨num.ret_bool (by simp; omega), b1.trans (b2.mono b1.size)⟩
      · have HE : Hid (c + 1 + num.rest (k / 128) = t.size) := by show _ = _; rw [← HC.out, num.rest_pos (k := k) (by omega)]; omega
        have hc2 : c + 1 ≤ 10 := by have := HE.out; omega
        have hpos : 0 < k := by omega
        go_wp2
        go_round
        case rel => exact ⟨c + 1, k / 128, by go_num, by go_num, hc2, HE, by omega⟩
        case measure => simp [intOf]; omega

theorem walk (a0 : Int) (a1 : Int) (w0 : (Lit.int .u64 a0).wf = true) (w1 : (Lit.int .u64 a1).wf = true) (w : World) :
    Calls Try.prog 3 #[.int .u64 a0, .int .u64 a1] w fun e w' => e = .returned (.bool true) ∧ Below w.heap.size w w' := by
  have h0 := num.u64_range w0
  have h1 := num.u64_range w1
  obtain ⟨a, rfl⟩ := Int.eq_ofNat_of_zero_le h0.1
  obtain ⟨b, rfl⟩ := Int.eq_ofNat_of_zero_le h1.1
  by_cases h : a ≤ b
  · exact walk_le a b h (by omega) _ _ (.inl ⟨rfl, rfl⟩) w
  · exact walk_le b a (by omega) (by omega) _ _ (.inr ⟨rfl, rfl⟩) w


set_option maxRecDepth 100000 in
theorem lifted (os : Os) (started : os.Started) (H : Type) (enc : TypeId × Value → H) :
    ReturnsInHanded {} Try.checked os 3 .any (Rows.wireLengthsSpec.pre6 enc Try.prog Try.f3 Rows.wireLengthsRow.domain false) (Rows.wireLengthsSpec.post enc Try.prog Try.f3 false true false false) := by
  refine returnsInHanded_of_change (C := Try.checked) own started (by kernel_rfl) Try.func3
    (ChangeSpec.witness6 (enc := enc) (C := Try.checked) false ⟨#[], #[.int .u64 0, .int .u64 0], []⟩ 8 (by kernel_rfl) (by kernel_rfl) (by kernel_rfl) (by kernel_rfl)) ?_
  intro W base args ds gs before hval0 hW hcnd _
  have hval : ∀ (j : Nat) t v, Try.f3.params[j]? = some t → args[j]? = some v → Value.okWide Try.prog W .any base t v := hval0
  have hW' := hW
  obtain ⟨p, q, hA0, hV, rfl, hfz, hnd⟩ := hW
  have hA : DataW.TrodAll enc Try.prog W 0 (fun _ => true) true Try.f3.params.toList args.toList ds p := hA0
  rw [Try.params3] at hA hval
  obtain ⟨v0, vs0, d0, ds0, p0, q0, hargs, rfl, rfl, h0, r0⟩ := trodAll_cons hA
  obtain ⟨v1, vs1, d1, ds1, p1, q1, rfl, rfl, rfl, h1, r1⟩ := trodAll_cons r0
  obtain ⟨rfl, rfl, rfl⟩ := trodAll_nil r1
  obtain rfl : args = #[v0, v1] := by cases args; simp_all
  obtain ⟨rfl, rfl⟩ := trodVars_none hV
  obtain ⟨a0, rfl, rfl, rfl, w0⟩ := open_int Try.underlying22 (hval 0 22 v0 rfl rfl) h0
  obtain ⟨a1, rfl, rfl, rfl, w1⟩ := open_int Try.underlying22 (hval 1 22 v1 rfl rfl) h1
  clear hA0 hval0
  refine (walk a0 a1 w0 w1 W).mono fun e W' ⟨he, bel⟩ => ?_
  subst he
  exact ⟨_, rfl, _, _, _, [], [], [], hW', trodAll_mk1 (shut_bool Try.underlying4 _), (trodAll_cons_mk (shut_int Try.underlying22 w0) (trodAll_cons_mk (shut_int Try.underlying22 w1) trodAll_mk0)), rfl, bel.frame _, fun h => by cases h⟩

theorem over : Rows.wireLengthsRow.holds Try.pinned (OpenSpec.ofChange Rows.wireLengthsSpec) :=
  OpenClaim.holds_of_wide 3 Try.f3 rfl rfl rfl rfl rfl rfl rfl ⟨rfl, rfl, rfl, rfl, rfl⟩ rfl rfl rfl rfl rfl (by kernel_rfl) Try.func3 (by kernel_rfl)
    (of_decide_eq_true (by kernel_rfl)) (by unfold Func.isWrapper; first | (rw [if_pos (by decide +kernel)]; kernel_rfl) | (rw [if_neg (by decide +kernel)]; exact ⟨rfl, rfl⟩))
    (fun os started H enc _ => lifted os started H enc)

theorem proved : Rows.WireLengthsSaid :=
  over
#print axioms proved
end Go.Proofs.Ytkdffnhakgjggab.wireLengths
