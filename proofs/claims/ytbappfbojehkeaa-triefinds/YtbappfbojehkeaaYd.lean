/-
  Over this program: the iterator that hands on the states that one goes through, at a trie that may be.
-/
import Derived.Test.YtbappfbojehkeaaYc
namespace Go.Proofs.Ytbappfbojehkeaa.ti
open Go.RowKit Go.Shelf Go.Sort
set_option linter.unusedVariables false
attribute [local go_sem] Oper.semAt_some

theorem ev_zero {m n : Nat} (h0 : 0 < m) (h : 0 < n) : ev m n (0, 0) = #[.int .i64 0, .int .i64 0] := by rw [ev_lt h0 h]; rfl
theorem ev_step {m n r i : Nat} (h0 : i + 1 < m) (h : r < n) : ev m n (i + 1, r) = #[.int .i64 ((i : Int) + 1), .int .i64 (r : Int)] := by rw [ev_lt h0 h]; rfl
theorem prs_head (t : Tr) (f : Nat → Nat) (k e q : Nat) : prs t f k e q = (e, q) :: (prs t f k e q).tail := by
  cases k <;> simp [prs]
theorem tail_end {t : Tr} {f : Nat → Nat} {n e q : Nat} (h : e = n) : (prs t f (n - e) e q).tail = [] := by rw [h, Nat.sub_self]; rfl
theorem tail_no {t : Tr} {f : Nat → Nat} {n e q : Nat} (h : e < n) (h2 : ¬ 0 ≤ fro t q (f e)) : (prs t f (n - e) e q).tail = [] := by
  rw [show n - e = (n - (e + 1)) + 1 by omega, prs_no h2]; rfl
theorem tail_yes {t : Tr} {f : Nat → Nat} {n e q r : Nat} (h : e < n) (h2 : fro t q (f e) = (r : Int)) : (prs t f (n - e) e q).tail = (e + 1, r) :: (prs t f (n - (e + 1)) (e + 1) r).tail := by
  rw [show n - e = (n - (e + 1)) + 1 by omega, prs_yes (by omega), List.tail_cons, h2, Int.toNat_natCast]
  exact prs_head _ _ _ _ _
set_option maxRecDepth 100000 in
set_option maxHeartbeats 4000000 in
theorem walk1_yes (P : Nat → Prop) (l gd gs : Nat) (t : Tr) (p : Tp) (s : ByteArray) (J Jx : List (Nat × Nat) → World → Prop)
    (hr : right t = true) (hs : s.size ≤ 1000000)
    (hY : ∀ pre x W, J pre W → pre.length < s.size + 1 → YieldAt Fence.wide 4 Try.prog l (ev (s.size + 1) t.word.length x) W fun e W' =>
      (e = .returned (.bool true) ∧ J (pre ++ [x]) W' ∧ Kp P W W') ∨ (e = .returned (.bool false) ∧ Jx (pre ++ [x]) W'))
    (W : World) (hM : Mem P W t p s gd gs) (hJ : AbidesFrom W.heap.size J) (h0 : J [] W) :
    CallsIn Fence.wide 5 Try.prog 25 #[.func (.yield l) #[] #[], .pointer (some ⟨gd, 0, none⟩), .pointer (some ⟨gs, 0, none⟩)] W fun e W' => (∃ v, e = .returned v) ∧
      ((∃ ys, ys = prs t (byte s) s.size 0 0 ∧ J ys W') ∨ (∃ pre, pre <+: prs t (byte s) s.size 0 0 ∧ Jx pre W')) := by
  obtain ⟨g1, g2, g3, g4⟩ := (right_iff t).1 hr
  have HG : Hid (t.check.length = t.base.length ∧ t.word.length = t.base.length) := ⟨g3, g4⟩
  clear g3 g4
  have hcall := right_any t p W hM.in
  rw [hr] at hcall
  have bx := hM.bx
  have HM : Hid (Mem P W t p s gd gs) := hM
  have HL : Hid ((prs t (byte s) s.size 0 0).length ≤ s.size + 1) := prs_len _ _ _ _ _
  obtain ⟨full, hfull⟩ : ∃ full, full = prs t (byte s) s.size 0 0 := ⟨_, rfl⟩
  have HI : Hid (full = [(0, 0)] ++ (prs t (byte s) (s.size - 0) 0 0).tail) := by show _ = _; rw [hfull]; exact prs_head _ _ _ _ _
  rw [← hfull] at HL ⊢
  have HF : Hid (∀ q e, q < t.base.length → e < s.size → FrIs t q (byte s e) (fro t q (byte s e))) := fun q e hq he => from_any t hr q hq _ (byte_lt _ _)
  clear hM hfull
  refine callsIn_of_wp Try.func25 rfl trivial ?_ rfl
  simp only [Try.ntmps25, List.size_toArray, List.length_cons, List.length_nil, Nat.reduceAdd, Nat.reduceSub, Array.replicate_succ, Array.replicate_zero, List.push_toArray, List.append_toArray, List.nil_append, List.cons_append]
  gi_wp2_with (refine wpListIn_load_row rfl 24 (.tmp 1) rfl gd rfl 24 (tv t p) (0, 0) _ bx Try.underlying24 rfl info24 ?_)
  refine ⟨trivial, ?_⟩
  gi_at_call 6
  refine (callsIn_wide.2 hcall).mono ?_
  rintro e w1 ⟨rfl, b1⟩
  obtain ⟨fn, tmps, assign, body, hy, hR⟩ := hY [] (0, 0) w1 (hJ _ _ _ none h0 (grown_of b1) (fun r e => by cases e)) (by simp)
  rw [ev_zero (by omega) (show 0 < t.word.length by have := HG.out; omega)] at hy
  gi_wp2
  refine hR.mono ?_
  have HM1 : Hid (Mem P w1 t p s gd gs) := HM.out.carry (Kp.below b1 b1.size HM.out.lt)
  rintro e W3 (⟨rfl, hJ3, hk3⟩ | ⟨rfl, hJx3⟩)
  · have HM3 : Hid (Mem P W3 t p s gd gs) := HM1.out.carry hk3
    have k3 := HM3.out.sx.cell
    clear bx hcall
    gi_wp2
    gi_loopw [4, 18] (fun y z wr => ∃ (q i : Nat) (pre : List (Nat × Nat)), y = .int .i64 q ∧ z = .int .i64 i ∧ q < t.base.length ∧ i ≤ s.size ∧ Hid (full = pre ++ (prs t (byte s) (s.size - i) i q).tail) ∧ J pre wr ∧ Hid (Mem P wr t p s gd gs) ∧ W.heap.size ≤ wr.heap.size)
      (fun _ z _ => s.size - (intOf z).toNat)
    case atStart => exact ⟨0, 0, [(0, 0)], rfl, rfl, by omega, by omega, HI, hJ3, HM3, Nat.le_trans b1.size hk3.1⟩
    case round =>
      obtain ⟨q, i, pre, rfl, rfl, hq, hi, HE, hJs, HMr, hsz⟩ := hrel
      by_cases hend : i = s.size
      · have HX : Hid (full = pre) := by show _ = _; rw [HE.out, tail_end hend, List.append_nil]
        clear HE
        gi_wp2
        go_end0
        exact ⟨⟨_, rfl⟩, .inl ⟨pre, HX.out.symm, hJs⟩⟩
      · have hlt : i < s.size := by omega
        have hb8 : s[i].toNat < 256 := UInt8.toNat_lt _
        have hF := HF.out q i hq hlt
        have A2 := HMr.out.in
        have x0 := HMr.out.bx.c0
        have x1 := HMr.out.bx.c1
        have x2 := HMr.out.bx.c2
        have z0 := cell_regrown x0
        have z1 := cell_regrown x1
        have z2 := cell_regrown x2
        have z3 := cell_regrown HMr.out.sx.cell
        clear x0 x1 x2 hend
        rw [byte_eq s i hlt] at hF
        by_cases hfr : 0 ≤ fro t q s[i].toNat
        · obtain ⟨r, hrr⟩ : ∃ r : Nat, fro t q s[i].toNat = (r : Int) := ⟨(fro t q s[i].toNat).toNat, by omega⟩
          have hrl : r < t.base.length := by have := (fro_lt t q s[i].toNat).2 hfr; have := HG.out; omega
          have HX : Hid (full = (pre ++ [(i + 1, r)]) ++ (prs t (byte s) (s.size - (i + 1)) (i + 1) r).tail) := by
            show _ = _
            rw [HE.out, tail_yes hlt (by rw [byte_eq s i hlt]; exact hrr)]
            simp
          rw [hrr] at hF
          clear HE hfr hrr
          have g26 : ∀ d os, CallsIn Fence.wide 4 Try.prog 26 #[.agg (tv t p), .int .i64 (q : Int), .int .u8 (s[i].toNat : Int)] (grow (redrawn wr d) os) fun e w'' => e = .returned (.tuple #[.int .i64 (r : Int), .bool true]) ∧ ∃ p : Regrown, w'' = grow (redrawn wr p.d) p.os := fun d os => CallsIn.regrown_of (callsIn_wide.2 ((hF p _ (A2.later (below_regrown wr d os))).mono (fun e w' hh => ⟨by rw [hh.1, if_pos (by omega), decide_eq_true (by omega)], hh.2⟩)))
          clear hF A2
          gi_wp2
          refine wpIn_region_quiet_below rfl (by kernel_rfl) (by kernel_rfl) ?_
          repeat (gi_big_quiet_step (fail))
          refine BigFrame.wpQuietIn_want (fun _ _ _ _ => trivial) rfl (fun K hK => ?_)
          gi_big_quiet_op
          apply Exists.intro
          refine ⟨fun _ => ?_, hK _ ?_⟩
          · exact g26 _ _
          clear hK K
          repeat (gi_big_quiet_step (fail))
          refine wpQuietIn_nil ?_
          intro _ hw'
          obtain ⟨⟨dq, osq⟩, hw''⟩ := hw'
          subst hw''
          have b3 := below_regrown wr dq osq
          clear z0 z1 z2 z3 g26
          generalize grow (redrawn wr dq) osq = w5 at *
          have hJ5 := hJ _ _ _ none hJs (grown_of b3) (fun r e => by cases e)
          obtain ⟨fn2, tmps2, assign2, body2, hy2, hR2⟩ := hY pre (i + 1, r) w5 hJ5 (by have := HL.out; rw [HX.out] at this; simp at this; omega)
          rw [ev_step (by omega) (show r < t.word.length by have := HG.out; omega)] at hy2
          have HM5 : Hid (Mem P w5 t p s gd gs) := HMr.out.carry (Kp.below b3 b3.size HMr.out.lt)
          gi_wp2
          refine hR2.mono ?_
          rintro e W6 (⟨rfl, hJ6, hk6⟩ | ⟨rfl, hJx6⟩)
          · gi_wp2
            go_roundw
            case rel => exact ⟨r, i + 1, _, rfl, by go_num, by omega, by omega, HX, hJ6, HM5.out.carry hk6, Nat.le_trans hsz (Nat.le_trans b3.size hk6.1)⟩
            case measure => simp [intOf]; omega
          · gi_wp2
            refine bodyPost_ret (results_none rfl _ _ _) rfl ?_
            exact ⟨⟨_, rfl⟩, .inr ⟨_, ⟨_, HX.out.symm⟩, hJx6⟩⟩
        · have HX : Hid (full = pre) := by
            show _ = _
            rw [HE.out, tail_no hlt (by rw [byte_eq s i hlt]; exact hfr), List.append_nil]
          clear HE
          have g26 : ∀ d os, CallsIn Fence.wide 4 Try.prog 26 #[.agg (tv t p), .int .i64 (q : Int), .int .u8 (s[i].toNat : Int)] (grow (redrawn wr d) os) fun e w'' => e = .returned (.tuple #[.int .i64 0, .bool false]) ∧ ∃ p : Regrown, w'' = grow (redrawn wr p.d) p.os := fun d os => CallsIn.regrown_of (callsIn_wide.2 ((hF p _ (A2.later (below_regrown wr d os))).mono (fun e w' hh => ⟨by rw [hh.1, if_neg hfr, decide_eq_false hfr], hh.2⟩)))
          clear hF A2 hfr
          gi_wp2
          refine wpIn_region_quiet_below rfl (by kernel_rfl) (by kernel_rfl) ?_
          repeat (gi_big_quiet_step (fail))
          refine BigFrame.wpQuietIn_want (fun _ _ _ _ => trivial) rfl (fun K hK => ?_)
          gi_big_quiet_op
          apply Exists.intro
          refine ⟨fun _ => ?_, hK _ ?_⟩
          · exact g26 _ _
          clear hK K
          repeat (gi_big_quiet_step (fail))
          refine wpQuietIn_nil ?_
          intro _ hw'
          obtain ⟨⟨dq, osq⟩, hw''⟩ := hw'
          subst hw''
          have b3 := below_regrown wr dq osq
          clear z0 z1 z2 z3 g26
          generalize grow (redrawn wr dq) osq = w5 at *
          have hJ5 := hJ _ _ _ none hJs (grown_of b3) (fun r e => by cases e)
          gi_wp2
          refine ⟨fun _ h => (by cases h), ?_⟩
          gi_wp2
          refine bodyPost_ret (results_none rfl _ _ _) rfl ?_
          exact ⟨⟨_, rfl⟩, .inl ⟨pre, HX.out.symm, hJ5⟩⟩
  · gi_wp2
    refine bodyPost_ret (results_none rfl _ _ _) rfl ?_
    exact ⟨⟨_, rfl⟩, .inr ⟨_, ⟨_, HI.out.symm⟩, hJx3⟩⟩
end Go.Proofs.Ytbappfbojehkeaa.ti
