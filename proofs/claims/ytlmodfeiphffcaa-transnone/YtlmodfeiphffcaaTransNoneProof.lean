/-
  For every machine and every text the law TransNone of package fretsawlaw12 returns true (the machine of no rules changes nothing, and makes each byte itself; behind any machine, and ahead of it, it changes nothing of what that puts), and the arguments read as before. No condition.
-/
import Derived.Test.YtlmodfeiphffcaaKTu
import Derived.Test.YtlmodfeiphffcaaKTt
import Derived.Test.YtlmodfeiphffcaaM02
import Derived.ProofKit
import Derived.ShutString
namespace Go.Proofs.Ytlmodfeiphffcaa.transNone
open Go.ChangeShapes Go.WideShapes Go.ChangeAt Go.RowKit
open Go.ChangeMaps (open_string shut_string)
open tr
open ru (Ru Rus)
open tn
set_option linter.unusedVariables false

theorem own : ownKnob Try.prog.godebug = none := by kernel_rfl
theorem laidOut : laidOutB Try.prog = true := by kernel_rfl

def cut (s : ByteArray) : ByteArray := if s.size ≤ 200 then s else s.extract 0 200
theorem cut_size (s : ByteArray) : (cut s).size ≤ 200 := by
  unfold cut
  split
  · assumption
  · simp; omega
/-- what Build answers of no rules -/
theorem build_nil (w : World) : Calls Try.prog 13 #[.slice none 0 0] w fun e w' => ∃ m p, e = .returned (.tuple #[.agg (mv m p), .int .i64 0]) ∧ MAt (In w') w' m p ∧ Right m ∧ (∀ x, tr.total m 0 x = x) ∧ One m ∧ (∀ b, b < 256 → (fb m 0).getD b 0 = b) ∧ Below w.heap.size w w' := by
  refine (ms.build_any [] _ w (.inl ⟨rfl, none, 0, rfl⟩)).mono ?_
  rintro e w' (⟨m, p, rfl, _, hm, hr, ht, ⟨d, rfl, hpl⟩, b⟩ | ⟨n, rfl, hn, b⟩)
  · exact ⟨_, p, rfl, hm, hr, fun x => by rw [ht, ap_nil], one_nil hpl, fun c hc => fb_nil hpl hc, b⟩
  · exfalso
    rcases hn with ⟨h, _⟩ | ⟨_, _, h⟩
    · exact h (by decide)
    · exact absurd h (by decide)
set_option maxHeartbeats 16000000 in
set_option maxRecDepth 100000 in
theorem walk {m : Mc} {p : Mp} {w0 : World} (hM : MAt (In w0) w0 m p) {s : ByteArray} (hs : s.size ≤ 140737488351232) (w : World) (hw0 : w = w0 := by rfl) :
    Calls Try.prog 8 #[.agg (mv m p), .string s] w fun e w' => e = .returned (.bool true) ∧ Below w.heap.size w w' := by
  subst hw0
  have hz48 := zero48
  have hcs48 := cells48_size noughts noughts_len
  obtain ⟨wA, HWA⟩ : ∃ wA, Hid (wA = w.alloc (.cells (mv m p) 26)) := ⟨_, rfl⟩
  have B0 : Below w.heap.size w wA := by rw [HWA.out]; exact below_alloc w _
  have hMA : MAt (In wA) wA m p := hM.later B0
  have hXA : Box wA w.heap.size m p := by rw [HWA.out]; exact box_new w m p
  have HK : Hid (∀ W, Below wA.heap.size wA W → Box W w.heap.size m p ∧ MAt (In W) W m p) := fun W b => ⟨hXA.later b, hMA.later b⟩
  obtain ⟨ab, HAB⟩ : ∃ ab, Hid (ab = w.heap.size) := ⟨_, rfl⟩
  have c17 := large_any m p wA hMA
  rw [← HAB.out] at HK
  rw [← HAB.out] at hXA
  clear hM hMA
  go_enter Try.func8, Try.ntmps8
  go_wp2_with (fail)
  rw [← HWA.out, ← HAB.out]
  clear HWA
  go_wp2_with (refine wpList_load_row rfl 26 (.tmp 2) rfl ab rfl 26 (mv m p) (0, 0) _ hXA Try.underlying26 rfl info26 ?_)
  go_at_call 17
  refine c17.mono ?_
  rintro e w1 ⟨r, rfl, b1⟩
  clear c17 hXA
  cases r with
  | true =>
    go_wp2_with (fail)
    go_ret
    exact ⟨rfl, chain B0 b1⟩
  | false =>
    have c13 := build_nil w1
    go_wp2_with (fail)
    go_at_call 13
    refine c13.mono ?_
    rintro e w2 ⟨nm, np, rfl, hN, hR, hT, hO, hF, b2⟩
    obtain ⟨w3, HW3⟩ : ∃ w3, Hid (w3 = w2.alloc (.cells (mv nm np) 26)) := ⟨_, rfl⟩
    have b3 : Below w2.heap.size w2 w3 := by rw [HW3.out]; exact below_alloc w2 _
    have X3 : Box w3 w2.heap.size nm np := by rw [HW3.out]; exact box_new w2 nm np
    have K3 : Below wA.heap.size wA w3 := chain (chain b1 b2) b3
    have B3 : Below w.heap.size w w3 := B0.trans (K3.mono B0.size)
    obtain ⟨bb, HBB⟩ : ∃ bb, Hid (bb = w2.heap.size) := ⟨_, rfl⟩
    rw [← HBB.out] at X3
    have HX := (show Hid (∀ W, Below w3.heap.size w3 W → (Box W ab m p ∧ MAt (In W) W m p) ∧ Box W bb nm np ∧ MAt (In W) W nm np) from fun W b => ⟨HK.out W (chain K3 b), X3.later b, (hN.later b3).later b⟩)
    have HNN := (show Hid (Right nm ∧ (∀ x, tr.total nm 0 x = x) ∧ One nm ∧ ∀ b, b < 256 → (fb nm 0).getD b 0 = b) from ⟨hR, hT, hO, hF⟩)
    have hz := cut_size s
    have c15 : ∀ w, Calls Try.prog 15 #[.string s, .int .i64 200] w fun e w' => e = .returned (.string (cut s)) ∧ w' = w := fun w => short_any s 200 (by omega) (by omega) w
    generalize cut s = cs at *
    have hcl := list_len cs
    have c11 : Calls Try.prog 11 #[.agg (mv nm np), .string cs] w3 fun e w' => e = .returned (.tuple #[.string cs, .int .i64 0]) ∧ Below w3.heap.size w3 w' := by
      refine run_any nm cs (by omega) cs 0 ?_ ?_ np w3 (HX.out w3 (Below.refl _ _)).2.2
      · unfold tr.runT
        rw [if_pos ⟨right_iff.2 hR, by omega, by rw [hT]; omega⟩, hT]
      · unfold tr.runE
        rw [if_pos (right_iff.2 hR), if_pos ⟨by omega, by rw [hT]; omega⟩]
    clear hN hR hT hO hF c13 b1 b2 b3 K3 HK
    go_wp2_with (fail)
    rw [← HW3.out, ← HBB.out]
    clear HW3
    go_at_call 15
    refine (c15 _).mono ?_
    rintro e w3' ⟨rfl, h⟩
    obtain rfl := h.symm
    clear c15
    go_wp2_with (refine wpList_load_row rfl 26 (.tmp 5) rfl bb rfl 26 (mv nm np) (0, 0) _ X3 Try.underlying26 rfl info26 ?_)
    go_at_call 11
    refine c11.mono ?_
    rintro e w4 ⟨rfl, b4⟩
    have X4 := (HX.out w4 b4).2.1
    have c22 := bytes_any nm np w4 (HX.out w4 b4).2.2
    clear c11 X3
    go_wp2_with (refine wpList_load_row rfl 26 (.tmp 5) rfl bb rfl 26 (mv nm np) (0, 0) _ X4 Try.underlying26 rfl info26 ?_)
    go_at_call 22
    refine c22.mono ?_
    rintro e w5 ⟨xs, ok, rfl, hxl, h1, h0, b5⟩
    obtain rfl : ok = true := by
      cases ok with
      | true => rfl
      | false => exact absurd ⟨right_iff.2 HNN.out.1, HNN.out.2.2.1⟩ (h0 rfl)
    have hst := store_new w5 noughts xs noughts_len hxl
    have hcx := cells48_size xs hxl
    obtain ⟨w6, HW6⟩ : ∃ w6, Hid (w6 = w5.alloc (.cells (cells48 xs) 48)) := ⟨_, rfl⟩
    obtain ⟨tb0, HTB⟩ : ∃ tb0, Hid (tb0 = w5.heap.size) := ⟨_, rfl⟩
    have HA6 := (show Hid (∀ i, i < 256 → w6.cell? ⟨tb0, i, none⟩ = some (.int .u8 (i : Int))) from fun i hi => by
      have hA : Arr w6 tb0 xs := by rw [HW6.out, HTB.out]; exact ⟨heap_alloc_new w5 _, hxl⟩
      rw [hA.cell i hi, (h1 rfl).2.2, HNN.out.2.2.2 i hi])
    have K6 : Below w3.heap.size w3 w6 := chain (chain b4 b5) (by rw [HW6.out]; exact below_alloc w5 _)
    have hce : (cs.toList == cs.toList) = true := by simp
    clear c22 X4 b4 b5 h1 h0
    go_wp2_with (fail)
    rw [← HW6.out, ← HTB.out]
    clear HW6 HTB hst hcx hz48 hcs48
    go_loopw [56] (fun y wr => ∃ i : Nat, y = .int .i64 (i : Int) ∧ i ≤ 256 ∧ wr = w6) (fun y _ => 256 - (intOf y).toNat)
    case atStart => exact ⟨0, rfl, by omega, rfl⟩
    case round =>
      obtain ⟨i, rfl, hi, rfl⟩ := hrel
      by_cases hlt : i < 256
      · have hc := HA6.out i hlt
        have di : ((i : Int) != (i : Int)) = false := by simp
        go_wp2_with (fail)
        go_roundw
        case rel => exact ⟨i + 1, by go_num, by omega, trivial⟩
        case measure => simp [intOf]; omega
      · have B6 : Below w.heap.size w wr := B3.trans (K6.mono B3.size)
        obtain ⟨⟨XA, MA⟩, XB, MB⟩ := HX.out wr K6
        have c18 := then_any MA MB
        clear HA6
        go_wp2_with (first | (refine wpList_load_row rfl 26 (.tmp 2) rfl ab rfl 26 (mv m p) (0, 0) _ XA Try.underlying26 rfl info26 ?_) | (refine wpList_load_row rfl 26 (.tmp 5) rfl bb rfl 26 (mv nm np) (0, 0) _ XB Try.underlying26 rfl info26 ?_))
        go_at_call 18
        refine c18.mono ?_
        rintro e w7 ⟨c1, p1, x1, rfl, M1, hT1, hx1, hi1, b7⟩
        obtain ⟨w8, HW8⟩ : ∃ w8, Hid (w8 = w7.alloc (.cells (mv c1 p1) 26)) := ⟨_, rfl⟩
        obtain ⟨cb, HCB⟩ : ∃ cb, Hid (cb = w7.heap.size) := ⟨_, rfl⟩
        have b8 : Below w7.heap.size w7 w8 := by rw [HW8.out]; exact below_alloc w7 _
        have X8 : Box w8 cb c1 p1 := by rw [HW8.out, HCB.out]; exact box_new w7 c1 p1
        have K8 : Below wr.heap.size wr w8 := chain b7 b8
        have B8 : Below w.heap.size w w8 := B6.trans (K8.mono B6.size)
        obtain ⟨⟨XA8, MA8⟩, XB8, MB8⟩ := HX.out w8 (chain K6 K8)
        have d18 := then_any MB8 MA8
        have HC1 := (show Hid (∀ W, Below w8.heap.size w8 W → Box W cb c1 p1 ∧ MAt (In W) W c1 p1) from fun W b => ⟨X8.later b, (M1.later b8).later b⟩)
        have HT1 := (show Hid ((x1 = 0 → Right c1 ∧ ∀ s, tr.total c1 0 s = tr.total nm 0 (tr.total m 0 s)) ∧ (x1 = 120 ↔ ¬ (right m = true ∧ right nm = true))) from ⟨hT1, hi1⟩)
        clear c18 XA MA XB MB M1 hT1 hi1 X8 MA8 MB8
        rw [HW8.out] at XA8 XB8
        go_wp2_with (first | (refine wpList_load_row rfl 26 (.tmp 2) rfl ab rfl 26 (mv m p) (0, 0) _ XA8 Try.underlying26 rfl info26 ?_) | (refine wpList_load_row rfl 26 (.tmp 5) rfl bb rfl 26 (mv nm np) (0, 0) _ XB8 Try.underlying26 rfl info26 ?_))
        rw [← HW8.out, ← HCB.out]
        clear HW8
        go_at_call 18
        refine d18.mono ?_
        rintro e w9 ⟨c2, p2, x2, rfl, M2, hT2, hx2, hi2, b9⟩
        obtain ⟨wz, HWZ⟩ : ∃ wz, Hid (wz = w9.alloc (.cells (mv c2 p2) 26)) := ⟨_, rfl⟩
        obtain ⟨db, HDB⟩ : ∃ db, Hid (db = w9.heap.size) := ⟨_, rfl⟩
        have bz : Below w9.heap.size w9 wz := by rw [HWZ.out]; exact below_alloc w9 _
        have XZ : Box wz db c2 p2 := by rw [HWZ.out, HDB.out]; exact box_new w9 c2 p2
        have KZ : Below w8.heap.size w8 wz := chain b9 bz
        have BZ : Below w.heap.size w wz := B8.trans (KZ.mono B8.size)
        have HXZ := (show Hid (∀ W, Below wz.heap.size wz W → (Box W ab m p ∧ MAt (In W) W m p) ∧ (Box W cb c1 p1 ∧ MAt (In W) W c1 p1) ∧ Box W db c2 p2 ∧ MAt (In W) W c2 p2) from fun W b => ⟨(HX.out W (chain (chain K6 K8) (chain KZ b))).1, HC1.out W (chain KZ b), XZ.later b, (M2.later bz).later b⟩)
        have HT2 := (show Hid ((x2 = 0 → Right c2 ∧ ∀ s, tr.total c2 0 s = tr.total m 0 (tr.total nm 0 s)) ∧ (x2 = 120 ↔ ¬ (right nm = true ∧ right m = true))) from ⟨hT2, hi2⟩)
        clear d18 XA8 XB8 M2 hT2 hi2 XZ HC1
        by_cases hm : right m = true
        · have hx1' : x1 = 0 ∨ x1 = 80 := by
            rcases hx1 with h | h | h
            · exact .inl h
            · exact .inr h
            · exact absurd ⟨hm, right_iff.2 HNN.out.1⟩ (HT1.out.2.1 h)
          have hx2' : x2 = 0 ∨ x2 = 80 := by
            rcases hx2 with h | h | h
            · exact .inl h
            · exact .inr h
            · exact absurd ⟨right_iff.2 HNN.out.1, hm⟩ (HT2.out.2.1 h)
          clear hx1 hx2
          by_cases h00 : x1 = 0 ∧ x2 = 0
          · obtain ⟨rfl, rfl⟩ := h00
            have r1 := (HT1.out.1 rfl)
            have r2 := (HT2.out.1 rfl)
            have t1 : ∀ s, tr.total c1 0 s = tr.total m 0 s := fun s => by rw [r1.2, HNN.out.2.1]
            have t2 : ∀ s, tr.total c2 0 s = tr.total m 0 s := fun s => by rw [r2.2, HNN.out.2.1]
            have hm1 : right c1 = true := right_iff.2 r1.1
            have hm2 : right c2 = true := right_iff.2 r2.1
            have e1 : tr.runT m cs = tr.runT c1 cs ∧ tr.runE m cs = tr.runE c1 cs := by unfold tr.runT tr.runE; rw [hm, hm1, t1]; exact ⟨rfl, rfl⟩
            have e2 : tr.runT m cs = tr.runT c2 cs ∧ tr.runE m cs = tr.runE c2 cs := by unfold tr.runT tr.runE; rw [hm, hm2, t2]; exact ⟨rfl, rfl⟩
            have HR0 := (show Hid (RunIs m cs (tr.runT m cs) (tr.runE m cs)) from run_any m cs (by omega) _ _ rfl rfl)
            have HR1 := (show Hid (RunIs c1 cs (tr.runT m cs) (tr.runE m cs)) from run_any c1 cs (by omega) _ _ e1.1 e1.2)
            have HR2 := (show Hid (RunIs c2 cs (tr.runT m cs) (tr.runE m cs)) from run_any c2 cs (by omega) _ _ e2.1 e2.2)
            generalize tr.runT m cs = T at *
            generalize tr.runE m cs = E at *
            have hee : ((E : Int) == (E : Int)) = true := by simp
            have hTT : (T.toList == T.toList) = true := by simp
            have XA0 := (HXZ.out wz (Below.refl _ _)).1.1
            have c11 := HR0.out p wz (HXZ.out wz (Below.refl _ _)).1.2
            clear r1 r2 t1 t2 hm1 hm2 e1 e2 HT1 HT2 hx1' hx2' hm
            rw [HWZ.out] at XA0
            go_wp2_with (refine wpList_load_row rfl 26 (.tmp 2) rfl ab rfl 26 (mv m p) (0, 0) _ XA0 Try.underlying26 rfl info26 ?_)
            rw [← HWZ.out, ← HDB.out]
            clear HWZ
            go_at_call 11
            refine c11.mono ?_
            rintro e v1 ⟨rfl, bv1⟩
            have X1 := (HXZ.out v1 bv1).2.1.1
            have d11 := HR1.out p1 v1 (HXZ.out v1 bv1).2.1.2
            clear c11 XA0
            go_wp2_with (refine wpList_load_row rfl 26 (.tmp 12) rfl cb rfl 26 (mv c1 p1) (0, 0) _ X1 Try.underlying26 rfl info26 ?_)
            go_at_call 11
            refine d11.mono ?_
            rintro e v2 ⟨rfl, bv2⟩
            have kv2 := chain bv1 bv2
            have X2 := (HXZ.out v2 kv2).2.2.1
            have f11 := HR2.out p2 v2 (HXZ.out v2 kv2).2.2.2
            clear d11 X1
            go_wp2_with (refine wpList_load_row rfl 26 (.tmp 14) rfl db rfl 26 (mv c2 p2) (0, 0) _ X2 Try.underlying26 rfl info26 ?_)
            go_at_call 11
            refine f11.mono ?_
            rintro e v3 ⟨rfl, bv3⟩
            clear f11 X2
            go_wp2_with (fail)
            go_ret
            exact ⟨rfl, BZ.trans ((chain kv2 bv3).mono BZ.size)⟩
          · have hne : (x1 = 80 ∨ x2 = 80) := by omega
            have q1 : ((x1 : Int) == 120) = false := by rw [beq_eq_false_iff_ne]; omega
            clear HT1 HT2 hm
            by_cases h8 : x1 = 80
            · subst h8
              rcases hx2' with rfl | rfl
              · go_wp2_with (fail)
                rw [← HWZ.out]
                go_ret
                exact ⟨rfl, BZ⟩
              · go_wp2_with (fail)
                rw [← HWZ.out]
                go_ret
                exact ⟨rfl, BZ⟩
            · obtain rfl : x1 = 0 := by omega
              obtain rfl : x2 = 80 := by omega
              go_wp2_with (fail)
              rw [← HWZ.out]
              go_ret
              exact ⟨rfl, BZ⟩
        · obtain rfl : x1 = 120 := HT1.out.2.2 (fun h => hm h.1)
          obtain rfl : x2 = 120 := HT2.out.2.2 (fun h => hm h.2)
          have hm0 : right m = false := Bool.eq_false_iff.2 hm
          have XA0 := (HXZ.out wz (Below.refl _ _)).1.1
          have c10 : Calls Try.prog 10 #[.agg (mv m p)] wz fun e w' => e = .returned (.bool false) ∧ Below wz.heap.size wz w' := tr.rright_any m false hm0.symm p wz (HXZ.out wz (Below.refl _ _)).1.2
          rw [HWZ.out] at XA0 c10
          clear HT1 HT2 hm hm0 hx1 hx2
          go_wp2_with (refine mk.load_if (by kernel_rfl) 26 (.tmp 2) rfl ab rfl 26 (mv m p) (0, 0) _ XA0 Try.underlying26 rfl info26 ?_)
          go_at_call 10
          refine c10.mono ?_
          rintro e v1 ⟨rfl, bv1⟩
          rw [← HWZ.out] at bv1
          clear c10 XA0
          go_wp2_with (fail)
          go_ret
          exact ⟨rfl, BZ.trans (bv1.mono BZ.size)⟩

set_option maxRecDepth 100000 in
theorem lifted (os : Os) (started : os.Started) (H : Type) (enc : TypeId × Value → H) :
    ReturnsInHanded {} Try.checked os 8 .any (Rows.transNoneSpec.pre6 enc Try.prog Try.f8 Rows.transNoneRow.domain false) (Rows.transNoneSpec.post enc Try.prog Try.f8 false true false false) := by
  refine returnsInHanded_of_change_sized (C := Try.checked) own started (by kernel_rfl) Try.func8
    (ChangeSpec.witness6 (enc := enc) (C := Try.checked) false ⟨#[], #[.agg #[.slice none 0 0, .slice none 0 0, .slice none 0 0, .slice none 0 0], .string ByteArray.empty], []⟩ 8 (by kernel_rfl) (by kernel_rfl) (by kernel_rfl) (by kernel_rfl)) ?_
  intro W base args ds gs before hval0 hW hcnd hsz0 _
  have hsz : (DataW.weightsEach Try.prog (Try.f8.params.toList ++ Rows.transNoneSpec.plain.varTypes Try.prog) (ds ++ gs)).all (· ≤ reachBytes) = true := hsz0
  have hval : ∀ (j : Nat) t v, Try.f8.params[j]? = some t → args[j]? = some v → Value.okWide Try.prog W .any base t v := hval0
  have hW' := hW
  obtain ⟨p, q, hA0, hV, rfl, hfz, hnd⟩ := hW
  have hA : DataW.TrodAll enc Try.prog W 0 (fun _ => true) true Try.f8.params.toList args.toList ds p := hA0
  rw [Try.params8] at hA hval hsz
  obtain ⟨v0, vs0, d0, ds0, p0, q0, hargs, rfl, rfl, h0, r0⟩ := trodAll_cons hA
  obtain ⟨v1, vs1, d1, ds1, p1, q1, rfl, rfl, rfl, h1, r1⟩ := trodAll_cons r0
  obtain ⟨rfl, rfl, rfl⟩ := trodAll_nil r1
  obtain rfl : args = #[v0, v1] := by cases args; simp_all
  obtain ⟨rfl, rfl⟩ := trodVars_none hV
  have k0 := h0
  have lt0 : ∀ x ∈ p0, x.block < W.heap.size := by obtain ⟨m, hm⟩ := k0; exact DataW.trod_lt m _ _ _ hm
  obtain ⟨m0, mp0, rfl, F0⟩ := tr.open26 (hval 0 26 v0 rfl rfl) h0
  obtain ⟨a1, rfl, rfl, rfl, w1⟩ := open_string Try.underlying9 (hval 1 9 v1 rfl rfl) h1
  have F1 : a1.size ≤ 140737488351232 := by
    have := sized_string hsz (j := 1) (t := 9) rfl rfl
    simpa [reachBytes] using this
  clear hA0 hval0
  refine (walk F0 F1 W).mono fun e W' ⟨he, bel⟩ => ?_
  subst he
  exact ⟨_, rfl, _, _, _, [], _, [], hW', trodAll_mk1 (shut_bool Try.underlying4 _), (trodAll_cons_mk (Below.trod laidOut (by kernel_rfl) (of_decide_eq_true (by kernel_rfl)) k0 bel lt0) (trodAll_cons_mk (shut_string Try.underlying9 w1) trodAll_mk0)), rfl, bel.frame _, fun h => by cases h⟩

theorem over : Rows.transNoneRow.holds Try.pinned (OpenSpec.ofChange Rows.transNoneSpec) :=
  OpenClaim.holds_of_wide 8 Try.f8 rfl rfl rfl rfl rfl rfl rfl ⟨rfl, rfl, rfl, rfl, rfl⟩ rfl rfl rfl rfl rfl (by kernel_rfl) Try.func8 (by kernel_rfl)
    (of_decide_eq_true (by kernel_rfl)) (by unfold Func.isWrapper; first | (rw [if_pos (by decide +kernel)]; kernel_rfl) | (rw [if_neg (by decide +kernel)]; exact ⟨rfl, rfl⟩))
    (fun os started H enc _ => lifted os started H enc)

theorem proved : Rows.TransNoneSaid :=
  over
#print axioms proved
end Go.Proofs.Ytlmodfeiphffcaa.transNone
