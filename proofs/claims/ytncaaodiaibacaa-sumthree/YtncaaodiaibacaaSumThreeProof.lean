/-
  For every three texts the law SumThree of package fretsawlaw03 returns true (the sums of three texts of one length make that of the bits that are 1 in one or three of them), and the arguments read as before. No condition.
-/
import Derived.Test.YtncaaodiaibacaaRows
import Derived.Test.YtncaaodiaibacaaThree
import Derived.SizedLaws
import Derived.WalkKit
import Derived.ProofKit
import Derived.OpenShut
import Derived.ShutString
namespace Go.Proofs.Ytncaaodiaibacaa.sumThree
open Go.ChangeShapes Go.WideShapes Go.ChangeAt Go.RowKit
open Go.ChangeMaps (open_string shut_string)
set_option linter.unusedVariables false

theorem own : ownKnob Try.prog.godebug = none := by kernel_rfl

set_option maxHeartbeats 2000000 in
set_option maxRecDepth 100000 in
theorem walk (a0 : ByteArray) (a1 : ByteArray) (a2 : ByteArray) (w0 : a0.size ≤ 140737488351232) (w1 : a1.size ≤ 140737488351232) (w2 : a2.size ≤ 140737488351232) (w : World) :
    Calls Try.prog 8 #[.string a0, .string a1, .string a2] w fun e w' => e = .returned (.bool true) ∧ Below w.heap.size w w' := by
  obtain ⟨k, hmin, h0, h1, h2, hk⟩ := crc.min_four a0.size a1.size a2.size
  go_enter Try.func8, Try.ntmps8
  go_wp2_with (first | (go_at_call 14; refine (crc.alive_any _).mono ?_; rintro e w3 ⟨rfl, b0⟩; obtain ⟨W, hmk, hrow, hW⟩ := crc.make_row w3 k hk))
  clear hmin hmk
  go_loopw [22] (fun v wr => ∃ (i : Nat) (l : List UInt8), v = .int .i64 i ∧ i ≤ k ∧ l.length = k ∧ crc.Row w3.heap.size l w3 wr ∧ w3.heap.size < wr.heap.size ∧ Hid (∀ j, j < i → crc.at_ l j = crc.at_ a0.data.toList j ^^^ crc.at_ a1.data.toList j ^^^ crc.at_ a2.data.toList j)) (fun v _ => k - (intOf v).toNat)
  case atStart => exact ⟨0, List.replicate k 0, rfl, by omega, by rw [List.length_replicate], hrow, hW, fun j hj => absurd hj (by omega)⟩
  case round =>
    obtain ⟨i, l, rfl, hi, hl, hr, hgt, HL⟩ := hrel
    clear hrow
    by_cases h : k ≤ i
    · have hcv : ∀ W, crc.Kept w3.heap.size l w3 W → _ := fun W h => crc.row_text h.row k k hl
      have hS : crc.Kept w3.heap.size l w3 wr := ⟨hr, hgt⟩
      have HC := crc.crc_three k l a0 a1 a2 hl h0 h1 h2 (fun j hj => HL.out j (by omega))
      obtain ⟨t, ht⟩ : ∃ t : ByteArray, t = ⟨l.toArray⟩ := ⟨_, rfl⟩
      have hts : t.size = k := by rw [ht, ← hl]; rfl
      rw [← ht] at hcv HC
      obtain ⟨n, hn⟩ : ∃ n, n = crc.crc 0 t := ⟨_, rfl⟩
      obtain ⟨n0, hn0⟩ : ∃ n0, n0 = crc.crc 0 (a0.extract 0 k) := ⟨_, rfl⟩
      obtain ⟨n1, hn1⟩ : ∃ n1, n1 = crc.crc 0 (a1.extract 0 k) := ⟨_, rfl⟩
      obtain ⟨n2, hn2⟩ : ∃ n2, n2 = crc.crc 0 (a2.extract 0 k) := ⟨_, rfl⟩
      have p := crc.of_is t n (by omega) hn
      have p0 := crc.of_is (a0.extract 0 k) n0 (by rw [ByteArray.size_extract]; omega) hn0
      have p1 := crc.of_is (a1.extract 0 k) n1 (by rw [ByteArray.size_extract]; omega) hn1
      have p2 := crc.of_is (a2.extract 0 k) n2 (by rw [ByteArray.size_extract]; omega) hn2
      rw [← hn, ← hn0, ← hn1, ← hn2] at HC
      have l0 : n0 < 4294967296 := by rw [hn0]; exact crc.crc_lt _ _
      have l1 : n1 < 4294967296 := by rw [hn1]; exact crc.crc_lt _ _
      have l2 : n2 < 4294967296 := by rw [hn2]; exact crc.crc_lt _ _
      have l01 := crc.xor_lt l0 l1
      have e1 := u32_xor_nat n0 n1 l0 l1
      have e2 := u32_xor_nat (n0 ^^^ n1) n2 l01 l2
      rw [← HC] at e2
      obtain ⟨m, hm⟩ : ∃ m, m = n0 ^^^ n1 := ⟨_, rfl⟩
      rw [← hm] at e1 e2
      have q : ∀ w, Calls Try.prog 10 #[.string t] w fun e w' => e = .returned (.int .u32 n) ∧ Below w.heap.size w w' := p
      have q0 : ∀ w, Calls Try.prog 10 #[.string (a0.extract 0 k)] w fun e w' => e = .returned (.int .u32 n0) ∧ Below w.heap.size w w' := p0
      have q1 : ∀ w, Calls Try.prog 10 #[.string (a1.extract 0 k)] w fun e w' => e = .returned (.int .u32 n1) ∧ Below w.heap.size w w' := p1
      have q2 : ∀ w, Calls Try.prog 10 #[.string (a2.extract 0 k)] w fun e w' => e = .returned (.int .u32 n2) ∧ Below w.heap.size w w' := p2
      have hb := hr.below
      clear HL HC ht hn hn0 hn1 hn2 p p0 p1 p2 hm hts l01 hr
      go_wp2
      go_region_held3 (fun W => crc.Kept w3.heap.size l w3 W) (first | assumption | exact hS.drawn | exact crc.Kept.next (by assumption) (by assumption)) (first | (go_at_call 10; with_reducible refine (q _).mono ?_; rintro e w4 ⟨rfl, b4⟩) | (go_at_call 10; with_reducible refine (q0 _).mono ?_; rintro e w5 ⟨rfl, b5⟩) | (go_at_call 10; with_reducible refine (q1 _).mono ?_; rintro e w6 ⟨rfl, b6⟩) | (go_at_call 10; with_reducible refine (q2 _).mono ?_; rintro e w7 ⟨rfl, b7⟩))
      go_wp2
      go_ret
      exact ⟨rfl, crc.chain (crc.chain (crc.chain (crc.chain (crc.chain b0 hb).drew b4) b5) b6) b7⟩
    · have i0 : i < a0.size := by omega
      have i1 : i < a1.size := by omega
      have i2 : i < a2.size := by omega
      have hin : i < l.length := by omega
      obtain ⟨u, v, e1, hu, e2, e3⟩ := crc.three_bytes a0[i] a1[i] a2[i]
      have hc := hr.cell i hin
      have hfz := hr.free i hin
      have HR := hr.put i v hin
      have HL2 : Hid (∀ j, j < i + 1 → crc.at_ (l.set i v) j = crc.at_ a0.data.toList j ^^^ crc.at_ a1.data.toList j ^^^ crc.at_ a2.data.toList j) := by
        intro j hj
        rw [crc.at_set l i j v hin]
        by_cases hji : j = i
        · subst hji
          rw [if_pos rfl, e3, crc.at_text a0 j i0, crc.at_text a1 j i1, crc.at_text a2 j i2]
        · rw [if_neg hji]
          exact HL.out j (by omega)
      clear HL e3
      go_wp2
      go_region_held3 (fun _ => True) (trivial) (first | fail)
      all_goals
        go_wp2
        go_roundw
        case rel => exact ⟨i + 1, l.set i v, by go_num, by omega, by rw [List.length_set]; exact hl, HR.drawn, by simpa [World.setCell] using hgt, HL2⟩
        case measure => simp [intOf]; omega

set_option maxRecDepth 100000 in
theorem lifted (os : Os) (started : os.Started) (H : Type) (enc : TypeId × Value → H) :
    ReturnsInHanded {} Try.checked os 8 .any (Rows.sumThreeSpec.pre6 enc Try.prog Try.f8 Rows.sumThreeRow.domain false) (Rows.sumThreeSpec.post enc Try.prog Try.f8 false true false false) := by
  refine returnsInHanded_of_change_sized (C := Try.checked) own started (by kernel_rfl) Try.func8
    (ChangeSpec.witness6 (enc := enc) (C := Try.checked) false ⟨#[], #[.string ByteArray.empty, .string ByteArray.empty, .string ByteArray.empty], []⟩ 8 (by kernel_rfl) (by kernel_rfl) (by kernel_rfl) (by kernel_rfl)) ?_
  intro W base args ds gs before hval0 hW hcnd hsz0 _
  have hsz : (DataW.weightsEach Try.prog (Try.f8.params.toList ++ Rows.sumThreeSpec.plain.varTypes Try.prog) (ds ++ gs)).all (· ≤ reachBytes) = true := hsz0
  have hval : ∀ (j : Nat) t v, Try.f8.params[j]? = some t → args[j]? = some v → Value.okWide Try.prog W .any base t v := hval0
  have hW' := hW
  obtain ⟨p, q, hA0, hV, rfl, hfz, hnd⟩ := hW
  have hA : DataW.TrodAll enc Try.prog W 0 (fun _ => true) true Try.f8.params.toList args.toList ds p := hA0
  rw [Try.params8] at hA hval hsz
  obtain ⟨v0, vs0, d0, ds0, p0, q0, hargs, rfl, rfl, h0, r0⟩ := trodAll_cons hA
  obtain ⟨v1, vs1, d1, ds1, p1, q1, rfl, rfl, rfl, h1, r1⟩ := trodAll_cons r0
  obtain ⟨v2, vs2, d2, ds2, p2, q2, rfl, rfl, rfl, h2, r2⟩ := trodAll_cons r1
  obtain ⟨rfl, rfl, rfl⟩ := trodAll_nil r2
  obtain rfl : args = #[v0, v1, v2] := by cases args; simp_all
  obtain ⟨rfl, rfl⟩ := trodVars_none hV
  obtain ⟨a0, rfl, rfl, rfl, w0⟩ := open_string Try.underlying9 (hval 0 9 v0 rfl rfl) h0
  obtain ⟨a1, rfl, rfl, rfl, w1⟩ := open_string Try.underlying9 (hval 1 9 v1 rfl rfl) h1
  obtain ⟨a2, rfl, rfl, rfl, w2⟩ := open_string Try.underlying9 (hval 2 9 v2 rfl rfl) h2
  clear hA0 hval0
  have z0 : a0.size ≤ 140737488351232 := by
    have := sized_string hsz (j := 0) (t := 9) rfl rfl
    simpa [reachBytes] using this
  have z1 : a1.size ≤ 140737488351232 := by
    have := sized_string hsz (j := 1) (t := 9) rfl rfl
    simpa [reachBytes] using this
  have z2 : a2.size ≤ 140737488351232 := by
    have := sized_string hsz (j := 2) (t := 9) rfl rfl
    simpa [reachBytes] using this
  refine (walk a0 a1 a2 z0 z1 z2 W).mono fun e W' ⟨he, bel⟩ => ?_
  subst he
  exact ⟨_, rfl, _, _, _, [], [], [], hW', trodAll_mk1 (shut_bool Try.underlying4 _), (trodAll_cons_mk (shut_string Try.underlying9 w0) (trodAll_cons_mk (shut_string Try.underlying9 w1) (trodAll_cons_mk (shut_string Try.underlying9 w2) trodAll_mk0))), rfl, bel.frame _, fun h => by cases h⟩

theorem over : Rows.sumThreeRow.holds Try.pinned (OpenSpec.ofChange Rows.sumThreeSpec) :=
  OpenClaim.holds_of_wide 8 Try.f8 rfl rfl rfl rfl rfl rfl rfl ⟨rfl, rfl, rfl, rfl, rfl⟩ rfl rfl rfl rfl rfl (by kernel_rfl) Try.func8 (by kernel_rfl)
    (of_decide_eq_true (by kernel_rfl)) (by unfold Func.isWrapper; first | (rw [if_pos (by decide +kernel)]; kernel_rfl) | (rw [if_neg (by decide +kernel)]; exact ⟨rfl, rfl⟩))
    (fun os started H enc _ => lifted os started H enc)

theorem proved : Rows.SumThreeSaid :=
  over
#print axioms proved
end Go.Proofs.Ytncaaodiaibacaa.sumThree
