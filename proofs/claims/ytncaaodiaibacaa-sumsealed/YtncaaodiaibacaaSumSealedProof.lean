/-
  For every text, every place and every pattern the law SumSealed of package fretsawlaw03 returns true (bits turned within 32 of a text with its sum behind it leave no text with its sum), and the arguments read as before. No condition.
-/
import Derived.Test.YtncaaodiaibacaaRows
import Derived.Test.YtncaaodiaibacaaFour
import Derived.SizedLaws
import Derived.WalkKit
import Derived.ProofKit
import Derived.OpenShut
import Derived.ShutString
namespace Go.Proofs.Ytncaaodiaibacaa.sumSealed
open Go.ChangeShapes Go.WideShapes Go.ChangeAt Go.RowKit
open Go.ChangeMaps (open_string shut_string)
set_option linter.unusedVariables false

theorem own : ownKnob Try.prog.godebug = none := by kernel_rfl

theorem from_nat (a : Int) (h1 : -9223372036854775808 ≤ a) (h2 : a < 9223372036854775808) : (∃ q : Nat, a = (q : Int) ∧ q < 9223372036854775808) ∨ (a < 0 ∧ ∃ q : Nat, -(a + 1) = (q : Int) ∧ q < 9223372036854775808) := by
  by_cases h : 0 ≤ a
  · obtain ⟨q, rfl⟩ := Int.eq_ofNat_of_zero_le h
    exact .inl ⟨q, rfl, by omega⟩
  · obtain ⟨q, hq⟩ := Int.eq_ofNat_of_zero_le (show 0 ≤ -(a + 1) by omega)
    exact .inr ⟨by omega, q, hq, by omega⟩

theorem drawn {B : Nat} {a w : World} (h : Below B a w) (n : Nat) : Below B a (w.drewN n) := h.trans ⟨rfl, rfl, rfl, Nat.le_refl _, fun _ _ => rfl⟩

/-- all that the walk needs of a text with its sum behind it, and of that with bits turned -/
theorem parts (s : ByteArray) (p : Nat) (hsl : s.size ≤ 20000) (hp : p < 4294967296) :
    ∃ (n : Nat) (g A : ByteArray), crc.OfIs s n ∧ crc.FourIs n g ∧ g.size ≤ 4 ∧ s ++ g = A ∧ A.size = s.size + 4 ∧
      ∀ q : Nat, q < 9223372036854775808 → ∃ (f m : Nat) (t g2 : ByteArray), (q : Int) % (8 * (A.size : Int)) = (f : Int) ∧ crc.TurnedIs A f p t ∧ t.size = s.size + 4 ∧
        crc.OfIs (t.extract 0 s.size) m ∧ crc.FourIs m g2 ∧ (¬ t = A → ¬ t.extract s.size t.size = g2) := by
  obtain ⟨g, hg, hg4, hgn⟩ := crc.four_is (crc.crc 0 s) (crc.crc_lt 0 s)
  have hAs : (s ++ g).size = s.size + 4 := by rw [ByteArray.size_append, hg4]
  refine ⟨crc.crc 0 s, g, s ++ g, crc.of_is s _ (by omega) rfl, hg, by omega, rfl, hAs, fun q hq => ?_⟩
  have hf : q % (8 * (s ++ g).size) < 8 * (s ++ g).size := Nat.mod_lt _ (by omega)
  obtain ⟨t, ht, hz, hm⟩ := crc.turned_is (s ++ g) (q % (8 * (s ++ g).size)) p (by omega) (by omega) hp
  have hue : (t.extract 0 s.size).size = s.size := by rw [ByteArray.size_extract]; omega
  obtain ⟨g2, hg2, hg24, hg2n⟩ := crc.four_is (crc.crc 0 (t.extract 0 s.size)) (crc.crc_lt 0 _)
  refine ⟨_, _, t, g2, crc.rem_nat q _, ht, by omega, crc.of_is _ _ (by omega) rfl, hg2, fun hne e => hne ?_⟩
  refine (crc.burst_reg (s ++ g) t 4294967295 _ p hp (Nat.le_of_lt hf) hz hm ?_).symm
  have e1 : crc.reg 4294967295 (s ++ g).data.toList = crc.nts 32 4294967295 := by
    rw [ByteArray.toList_data_append]
    exact crc.seal_reg _ _ hgn (by rw [crc.size_list, hg4])
  have e2 : t = t.extract 0 s.size ++ g2 := by
    rw [← e, ByteArray.extract_append_extract, show min 0 s.size = 0 from by omega, show max s.size t.size = t.size from by omega, ByteArray.extract_zero_size]
  have e3 : crc.reg 4294967295 t.data.toList = crc.nts 32 4294967295 := by
    rw [e2, ByteArray.toList_data_append]
    exact crc.seal_reg _ _ hg2n (by rw [crc.size_list, hg24])
  rw [e1, e3]

set_option maxHeartbeats 1000000 in
set_option maxRecDepth 100000 in
theorem walk (a0 : ByteArray) (a1 : Int) (a2 : Int) (w0 : a0.size ≤ 140737488351232) (w1 : (Lit.int .i64 a1).wf = true) (w2 : (Lit.int .u32 a2).wf = true) (w : World) :
    Calls Try.prog 7 #[.string a0, .int .i64 a1, .int .u32 a2] w fun e w' => e = .returned (.bool true) ∧ Below w.heap.size w w' := by
  obtain ⟨h1, h1'⟩ := crc.i64_range w1
  obtain ⟨h2, h2'⟩ := crc.u32_range w2
  obtain ⟨p, rfl⟩ := Int.eq_ofNat_of_zero_le h2
  have hp : p < 4294967296 := by omega
  clear h2' h2
  obtain ⟨s, hs, hsl⟩ := crc.short_is a0 w0
  obtain ⟨n, g, A, p1, p2, hg4, hA, hAs, key⟩ := parts s p hsl hp
  have HA : Hid (A.size = s.size + 4) := hAs
  have hApos : 0 < A.size := by omega
  have hAl : A.size ≤ 20004 := by omega
  clear w1 w2 hAs
  rcases from_nat a1 h1 h1' with ⟨q, rfl, hql⟩ | ⟨hneg, q, hq, hql⟩
  · clear h1 h1'
    have hd2 : decide ((q : Int) < 0) = false := by simp
    obtain ⟨f, m, t, g2, hrem, ht, hts, p3, p4, hne⟩ := key q hql
    clear key
    have hlen : (t.size : Int) - 4 = (s.size : Int) := by omega
    have hle : s.size ≤ t.size := by omega
    have htl : t.size ≤ 20004 := by omega
    clear hts
    by_cases e : t = A
    · subst e
      have hu : (t.toList == t.toList) = true := by simp
      clear hne p3 p4 HA
      go_enter Try.func7, Try.ntmps7
      go_wp2_with (first | (go_at_call 9; refine (hs _).mono ?_; rintro e w1 ⟨rfl, rfl⟩) | (go_at_call 17; refine (ht _).mono ?_; rintro e w2 ⟨rfl, b2⟩) | (go_at_call 10; refine (p1 _).mono ?_; rintro e w3 ⟨rfl, b3⟩) | (go_at_call 18; refine (p2 _).mono ?_; rintro e w4 ⟨rfl, b4⟩))
      go_quiet (fail)
      go_wp2
      go_ret
      exact ⟨rfl, drawn (crc.chain (crc.chain b3 b4) b2) _⟩
    · have hu := crc.unlike e
      have hv := crc.unlike (hne e)
      clear hne e HA
      go_enter Try.func7, Try.ntmps7
      go_wp2_with (first | (go_at_call 9; refine (hs _).mono ?_; rintro e w1 ⟨rfl, rfl⟩) | (go_at_call 17; refine (ht _).mono ?_; rintro e w2 ⟨rfl, b2⟩) | (go_at_call 10; refine (p1 _).mono ?_; rintro e w3 ⟨rfl, b3⟩) | (go_at_call 18; refine (p2 _).mono ?_; rintro e w4 ⟨rfl, b4⟩))
      go_region_held3 (fun _ => True) (trivial) (first | (go_at_call 10; refine (p3 _).mono ?_; rintro e w5 ⟨rfl, b5⟩) | (go_at_call 18; refine (p4 _).mono ?_; rintro e w6 ⟨rfl, b6⟩))
      go_wp2
      go_ret
      exact ⟨rfl, crc.chain (crc.chain (crc.chain (crc.chain b3 b4) b2).drew b5) b6⟩
  · clear h1 h1'
    obtain ⟨f, m, t, g2, hrem, ht, hts, p3, p4, hne⟩ := key q hql
    clear key
    have hlen : (t.size : Int) - 4 = (s.size : Int) := by omega
    have hle : s.size ≤ t.size := by omega
    have htl : t.size ≤ 20004 := by omega
    clear hts
    by_cases e : t = A
    · subst e
      have hu : (t.toList == t.toList) = true := by simp
      clear hne p3 p4 HA
      go_enter Try.func7, Try.ntmps7
      go_wp2_with (first | (go_at_call 9; refine (hs _).mono ?_; rintro e w1 ⟨rfl, rfl⟩) | (go_at_call 17; refine (ht _).mono ?_; rintro e w2 ⟨rfl, b2⟩) | (go_at_call 10; refine (p1 _).mono ?_; rintro e w3 ⟨rfl, b3⟩) | (go_at_call 18; refine (p2 _).mono ?_; rintro e w4 ⟨rfl, b4⟩))
      go_quiet (fail)
      go_wp2
      go_ret
      exact ⟨rfl, drawn (crc.chain (crc.chain b3 b4) b2) _⟩
    · have hu := crc.unlike e
      have hv := crc.unlike (hne e)
      clear hne e HA
      go_enter Try.func7, Try.ntmps7
      go_wp2_with (first | (go_at_call 9; refine (hs _).mono ?_; rintro e w1 ⟨rfl, rfl⟩) | (go_at_call 17; refine (ht _).mono ?_; rintro e w2 ⟨rfl, b2⟩) | (go_at_call 10; refine (p1 _).mono ?_; rintro e w3 ⟨rfl, b3⟩) | (go_at_call 18; refine (p2 _).mono ?_; rintro e w4 ⟨rfl, b4⟩))
      go_region_held3 (fun _ => True) (trivial) (first | (go_at_call 10; refine (p3 _).mono ?_; rintro e w5 ⟨rfl, b5⟩) | (go_at_call 18; refine (p4 _).mono ?_; rintro e w6 ⟨rfl, b6⟩))
      go_wp2
      go_ret
      exact ⟨rfl, crc.chain (crc.chain (crc.chain (crc.chain b3 b4) b2).drew b5) b6⟩

set_option maxRecDepth 100000 in
theorem lifted (os : Os) (started : os.Started) (H : Type) (enc : TypeId × Value → H) :
    ReturnsInHanded {} Try.checked os 7 .any (Rows.sumSealedSpec.pre6 enc Try.prog Try.f7 Rows.sumSealedRow.domain false) (Rows.sumSealedSpec.post enc Try.prog Try.f7 false true false false) := by
  refine returnsInHanded_of_change_sized (C := Try.checked) own started (by kernel_rfl) Try.func7
    (ChangeSpec.witness6 (enc := enc) (C := Try.checked) false ⟨#[], #[.string ByteArray.empty, .int .i64 0, .int .u32 0], []⟩ 8 (by kernel_rfl) (by kernel_rfl) (by kernel_rfl) (by kernel_rfl)) ?_
  intro W base args ds gs before hval0 hW hcnd hsz0 _
  have hsz : (DataW.weightsEach Try.prog (Try.f7.params.toList ++ Rows.sumSealedSpec.plain.varTypes Try.prog) (ds ++ gs)).all (· ≤ reachBytes) = true := hsz0
  have hval : ∀ (j : Nat) t v, Try.f7.params[j]? = some t → args[j]? = some v → Value.okWide Try.prog W .any base t v := hval0
  have hW' := hW
  obtain ⟨p, q, hA0, hV, rfl, hfz, hnd⟩ := hW
  have hA : DataW.TrodAll enc Try.prog W 0 (fun _ => true) true Try.f7.params.toList args.toList ds p := hA0
  rw [Try.params7] at hA hval hsz
  obtain ⟨v0, vs0, d0, ds0, p0, q0, hargs, rfl, rfl, h0, r0⟩ := trodAll_cons hA
  obtain ⟨v1, vs1, d1, ds1, p1, q1, rfl, rfl, rfl, h1, r1⟩ := trodAll_cons r0
  obtain ⟨v2, vs2, d2, ds2, p2, q2, rfl, rfl, rfl, h2, r2⟩ := trodAll_cons r1
  obtain ⟨rfl, rfl, rfl⟩ := trodAll_nil r2
  obtain rfl : args = #[v0, v1, v2] := by cases args; simp_all
  obtain ⟨rfl, rfl⟩ := trodVars_none hV
  obtain ⟨a0, rfl, rfl, rfl, w0⟩ := open_string Try.underlying9 (hval 0 9 v0 rfl rfl) h0
  obtain ⟨a1, rfl, rfl, rfl, w1⟩ := open_int Try.underlying3 (hval 1 3 v1 rfl rfl) h1
  obtain ⟨a2, rfl, rfl, rfl, w2⟩ := open_int Try.underlying22 (hval 2 22 v2 rfl rfl) h2
  clear hA0 hval0
  have z0 : a0.size ≤ 140737488351232 := by
    have := sized_string hsz (j := 0) (t := 9) rfl rfl
    simpa [reachBytes] using this
  refine (walk a0 a1 a2 z0 w1 w2 W).mono fun e W' ⟨he, bel⟩ => ?_
  subst he
  exact ⟨_, rfl, _, _, _, [], [], [], hW', trodAll_mk1 (shut_bool Try.underlying4 _), (trodAll_cons_mk (shut_string Try.underlying9 w0) (trodAll_cons_mk (shut_int Try.underlying3 w1) (trodAll_cons_mk (shut_int Try.underlying22 w2) trodAll_mk0))), rfl, bel.frame _, fun h => by cases h⟩

theorem over : Rows.sumSealedRow.holds Try.pinned (OpenSpec.ofChange Rows.sumSealedSpec) :=
  OpenClaim.holds_of_wide 7 Try.f7 rfl rfl rfl rfl rfl rfl rfl ⟨rfl, rfl, rfl, rfl, rfl⟩ rfl rfl rfl rfl rfl (by kernel_rfl) Try.func7 (by kernel_rfl)
    (of_decide_eq_true (by kernel_rfl)) (by unfold Func.isWrapper; first | (rw [if_pos (by decide +kernel)]; kernel_rfl) | (rw [if_neg (by decide +kernel)]; exact ⟨rfl, rfl⟩))
    (fun os started H enc _ => lifted os started H enc)

theorem proved : Rows.SumSealedSaid :=
  over
#print axioms proved
end Go.Proofs.Ytncaaodiaibacaa.sumSealed
