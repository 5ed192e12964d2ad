/-
  For every hash and key the law HashSafe of package fretsawlaw15 returns true (any hash tells any key's value only where the key stands), and the arguments read as before. No condition.
-/
import Derived.Test.YtfpkjgalokbkcaaIg
import Derived.ProofKit
import Derived.ShutString
namespace Go.Proofs.Ytfpkjgalokbkcaa.hashSafe
open Go.ChangeShapes Go.WideShapes Go.ChangeAt Go.RowKit Go.Sort
open Go.ChangeMaps (open_string shut_string)
open hs
set_option linter.unusedVariables false

theorem own : ownKnob Try.prog.godebug = none := by kernel_rfl
theorem laidOut : laidOutB Try.prog = true := by kernel_rfl

set_option maxHeartbeats 4000000 in
theorem walk_no {h : Hh} {p : Hp} {w : World} (hM : HAt (In w) w h p) (k : Nat) (c8 : ∀ w, HAt (In w) w h p → Calls Try.prog 8 #[.agg (hv h p), .int .u64 (k : Int)] w fun e w' => e = .returned (.tuple #[.int .u64 0, .bool false]) ∧ Below w.heap.size w w') :
    Calls Try.prog 6 #[.agg (hv h p), .int .u64 (k : Int)] w fun e w' => e = .returned (.bool true) ∧ Below w.heap.size w w' := by
  have B0 := below_alloc w (.cells (hv h p) 25)
  have b0 := box_new w h p
  have HX : Hid (HAt (In (w.alloc (.cells (hv h p) 25))) (w.alloc (.cells (hv h p) 25)) h p) := hM.later B0
  have HB : Hid (Box (w.alloc (.cells (hv h p) 25)) w.heap.size h p) := b0
  have c17 := alive_any (w.alloc (.cells (hv h p) 25))
  clear hM b0
  go_enter Try.func6, Try.ntmps6
  go_wp2_with (fail)
  go_at_call 17
  refine c17.mono ?_
  rintro e w1 ⟨rfl, b1⟩
  have X1 := HB.out.later b1
  have d8 := c8 w1 (HX.out.later b1)
  clear c17
  go_wp2_with (refine wpList_load_row rfl 25 (.tmp 2) rfl w.heap.size rfl 25 (hv h p) (0, 0) _ X1 Try.underlying25 rfl info25 ?_)
  go_at_call 8
  refine d8.mono ?_
  rintro e w2 ⟨rfl, b2⟩
  go_wp2_with (fail)
  go_ret
  exact ⟨rfl, chain (chain B0 b1) b2⟩
set_option maxHeartbeats 4000000 in
theorem walk_yes {h : Hh} {p : Hp} {w : World} (hM : HAt (In w) w h p) (k q v : Nat) (hq : q < h.keys.length) (hl : h.vals.length = h.keys.length) (hqk : h.keys.getD q 0 = k) (hqv : h.vals.getD q 0 = v) (c8 : ∀ w, HAt (In w) w h p → Calls Try.prog 8 #[.agg (hv h p), .int .u64 (k : Int)] w fun e w' => e = .returned (.tuple #[.int .u64 (v : Int), .bool true]) ∧ Below w.heap.size w w') :
    Calls Try.prog 6 #[.agg (hv h p), .int .u64 (k : Int)] w fun e w' => e = .returned (.bool true) ∧ Below w.heap.size w w' := by
  have B0 := below_alloc w (.cells (hv h p) 25)
  have b0 := box_new w h p
  have HX : Hid (HAt (In (w.alloc (.cells (hv h p) 25))) (w.alloc (.cells (hv h p) 25)) h p) := hM.later B0
  have HB : Hid (Box (w.alloc (.cells (hv h p) 25)) w.heap.size h p) := b0
  have c17 := alive_any (w.alloc (.cells (hv h p) 25))
  obtain ⟨g1, g2, g3⟩ := hM.len
  have HL : Hid (h.vals.length = h.keys.length) := hl
  have HQ : Hid (h.keys.getD q 0 = k ∧ h.vals.getD q 0 = v) := ⟨hqk, hqv⟩
  clear hM b0 hl hqk hqv
  go_enter Try.func6, Try.ntmps6
  go_wp2_with (fail)
  go_at_call 17
  refine c17.mono ?_
  rintro e w1 ⟨rfl, b1⟩
  have X1 := HB.out.later b1
  have d8 := c8 w1 (HX.out.later b1)
  clear c17
  go_wp2_with (refine wpList_load_row rfl 25 (.tmp 2) rfl w.heap.size rfl 25 (hv h p) (0, 0) _ X1 Try.underlying25 rfl info25 ?_)
  go_at_call 8
  refine d8.mono ?_
  rintro e w2 ⟨rfl, b2⟩
  have X2 := X1.later b2
  have A2 := (HX.out.later b1).later b2
  have k1 := X2.c1
  have k2 := X2.c2
  have BB : Below w.heap.size w w2 := chain (chain B0 b1) b2
  clear X1 d8 c8 HB HX
  have HA : Hid (HAt (In w2) w2 h p) := A2
  clear A2 X2
  go_wp2_with (fail)
  go_loopw [24] (fun y wr => ∃ i : Nat, y = .int .i64 (i : Int) ∧ i ≤ q ∧ wr = w2) (fun y _ => h.keys.length - (intOf y).toNat)
  case atStart => exact ⟨0, rfl, by omega, rfl⟩
  case round =>
    obtain ⟨i, rfl, hiq, rfl⟩ := hrel
    have hlt : i < h.keys.length := by omega
    obtain ⟨bb, off, ho, hbb, hc⟩ := HA.out.rk.at hlt
    obtain ⟨b2, off2, ho2, hb2, hc2⟩ := HA.out.rv.at (show i < h.vals.length by rw [HL.out]; exact hlt)
    have dl : decide ((i : Int) < (h.vals.length : Int)) = true := by rw [decide_eq_true_iff, HL.out]; omega
    have dl2 : i < h.vals.length := by rw [HL.out]; exact hlt
    generalize hg : h.keys.getD i 0 = x at *
    generalize hg2 : h.vals.getD i 0 = y at *
    have HG : Hid (h.keys.getD i 0 = x ∧ h.vals.getD i 0 = y) := ⟨hg, hg2⟩
    clear hg hg2
    rw [ho]
    rw [ho] at k1
    rw [ho2] at k2
    by_cases hxk : x = k
    · have dx : ((x : Int) == (k : Int)) = true := by rw [hxk]; simp
      have HXK : Hid (x = k) := hxk
      clear hxk
      by_cases hyv : y = v
      · have dy : ((y : Int) == (v : Int)) = true := by rw [hyv]; simp
        clear hyv
        go_wp2_with (fail)
        go_ret
        exact ⟨rfl, BB⟩
      · have dy : ((y : Int) == (v : Int)) = false := by rw [beq_eq_false_iff_ne]; omega
        have hne : i < q := by
          refine Nat.lt_of_le_of_ne hiq (fun e => hyv ?_)
          rw [← HG.out.2, e]; exact HQ.out.2
        go_wp2_with (fail)
        go_roundw
        case rel => exact ⟨i + 1, by go_num, by omega, trivial⟩
        case measure => simp [intOf]; omega
    · have dx : ((x : Int) == (k : Int)) = false := by rw [beq_eq_false_iff_ne]; omega
      have hne : i < q := by
        refine Nat.lt_of_le_of_ne hiq (fun e => hxk ?_)
        rw [← HG.out.1, e]; exact HQ.out.1
      go_wp2_with (fail)
      go_roundw
      case rel => exact ⟨i + 1, by go_num, by omega, trivial⟩
      case measure => simp [intOf]; omega
theorem walk {h : Hh} {p : Hp} {a1 : Int} {w : World} (F0 : HAt (In w) w h p) (S0 : h.keys.length * 8 ≤ 140737488351232) (w1 : (Lit.int .u64 a1).wf = true) (W : World) (hW : W = w) :
    Calls Try.prog 6 #[.agg (hv h p), .int .u64 a1] w fun e w' => e = .returned (.bool true) ∧ Below w.heap.size w w' := by
  have r2 := u64_range w1
  obtain ⟨k, rfl⟩ := Int.eq_ofNat_of_zero_le r2.1
  have hk : k < 18446744073709551616 := by omega
  cases hb : getB h k with
  | true =>
    obtain ⟨h1, h2, h3, h4⟩ := getB_iff.1 hb
    exact walk_yes F0 k (place h k) _ h3 h2 h4 rfl (get_any h k hk _ _ (getV_yes hb).symm hb.symm p)
  | false => exact walk_no F0 k (get_any h k hk 0 _ (getV_no hb).symm hb.symm p)

set_option maxRecDepth 100000 in
theorem lifted (os : Os) (started : os.Started) (H : Type) (enc : TypeId × Value → H) :
    ReturnsInHanded {} Try.checked os 6 .any (Rows.hashSafeSpec.pre6 enc Try.prog Try.f6 Rows.hashSafeRow.domain false) (Rows.hashSafeSpec.post enc Try.prog Try.f6 false true false false) := by
  refine returnsInHanded_of_change_sized (C := Try.checked) own started (by kernel_rfl) Try.func6
    (ChangeSpec.witness6 (enc := enc) (C := Try.checked) false ⟨#[], #[.agg #[.slice none 0 0, .slice none 0 0, .slice none 0 0], .int .u64 0], []⟩ 8 (by kernel_rfl) (by kernel_rfl) (by kernel_rfl) (by kernel_rfl)) ?_
  intro W base args ds gs before hval0 hW hcnd hsz0 _
  have hsz : (DataW.weightsEach Try.prog (Try.f6.params.toList ++ Rows.hashSafeSpec.plain.varTypes Try.prog) (ds ++ gs)).all (· ≤ reachBytes) = true := hsz0
  have hval : ∀ (j : Nat) t v, Try.f6.params[j]? = some t → args[j]? = some v → Value.okWide Try.prog W .any base t v := hval0
  have hW' := hW
  obtain ⟨p, q, hA0, hV, rfl, hfz, hnd⟩ := hW
  have hA : DataW.TrodAll enc Try.prog W 0 (fun _ => true) true Try.f6.params.toList args.toList ds p := hA0
  rw [Try.params6] at hA hval hsz
  obtain ⟨v0, vs0, d0, ds0, p0, q0, hargs, rfl, rfl, h0, r0⟩ := trodAll_cons hA
  obtain ⟨v1, vs1, d1, ds1, p1, q1, rfl, rfl, rfl, h1, r1⟩ := trodAll_cons r0
  obtain ⟨rfl, rfl, rfl⟩ := trodAll_nil r1
  obtain rfl : args = #[v0, v1] := by cases args; simp_all
  obtain ⟨rfl, rfl⟩ := trodVars_none hV
  have k0 := h0
  have lt0 : ∀ x ∈ p0, x.block < W.heap.size := by obtain ⟨m, hm⟩ := k0; exact DataW.trod_lt m _ _ _ hm
  obtain ⟨m0, mp0, rfl, F0, G0⟩ := hs.open25 (hval 0 25 v0 rfl rfl) h0
  have S0 : m0.keys.length * 8 ≤ 140737488351232 := G0 (by
    refine List.all_eq_true.2 fun n hn => List.all_eq_true.1 hsz _ (DataW.weights_mem_each (j := 0) (t := 25) (by rfl) (by rfl) n hn))
  obtain ⟨a1, rfl, rfl, rfl, w1⟩ := open_int Try.underlying27 (hval 1 27 v1 rfl rfl) h1
  clear hA0 hval0
  refine (walk F0 S0 w1 W rfl).mono fun e W' ⟨he, bel⟩ => ?_
  subst he
  exact ⟨_, rfl, _, _, _, [], _, [], hW', trodAll_mk1 (shut_bool Try.underlying4 _), (trodAll_cons_mk (Below.trod laidOut (by kernel_rfl) (of_decide_eq_true (by kernel_rfl)) k0 bel lt0) (trodAll_cons_mk (shut_int Try.underlying27 w1) trodAll_mk0)), rfl, bel.frame _, fun h => by cases h⟩

theorem over : Rows.hashSafeRow.holds Try.pinned (OpenSpec.ofChange Rows.hashSafeSpec) :=
  OpenClaim.holds_of_wide 6 Try.f6 rfl rfl rfl rfl rfl rfl rfl ⟨rfl, rfl, rfl, rfl, rfl⟩ rfl rfl rfl rfl rfl (by kernel_rfl) Try.func6 (by kernel_rfl)
    (of_decide_eq_true (by kernel_rfl)) (by unfold Func.isWrapper; first | (rw [if_pos (by decide +kernel)]; kernel_rfl) | (rw [if_neg (by decide +kernel)]; exact ⟨rfl, rfl⟩))
    (fun os started H enc _ => lifted os started H enc)

theorem proved : Rows.HashSafeSaid :=
  over
#print axioms proved
end Go.Proofs.Ytfpkjgalokbkcaa.hashSafe
