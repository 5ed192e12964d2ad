/-
  Contracts over this program: tok.check, tok.Normal, tok.Tok, at texts that are not too long.
-/
import Derived.Test.YthmecbonjkcnmaaGreatKKo
import Derived.Test.YthmecbonjkcnmaaGreatKKl
import Derived.Test.YthmecbonjkcnmaaGreatM16
namespace Go.Proofs.YthmecbonjkcnmaaGreat.tk
open Go.ChangeShapes Go.WideShapes Go.ChangeAt Go.RowKit
open cf (Cf Cp cv CfAt CBox cfE cbox_new)
open mg (Row In app idsOf Mgs IntsV)
open nb (built)
set_option linter.unusedVariables false
set_option maxRecDepth 100000

def e0 : ByteArray := ⟨#[]⟩
theorem info34 (c : Cf) (p : Cp) : (Tryz.prog.info? 34).map (·.size) = some (cv c p).size := by
  have : (Tryz.prog.info? 34).map (·.size) = some 13 := by kernel_rfl
  rw [this]; rfl
theorem chain {w w1 w2 : World} (h1 : Below w.heap.size w w1) (h2 : Below w1.heap.size w1 w2) : Below w.heap.size w w2 := h1.trans (h2.mono h1.size)
set_option maxHeartbeats 2000000 in
theorem check_any (c : Cf) (p : Cp) (s : ByteArray) (hs : s.size ≤ 4096) (w : World) (hv : CfAt w c p) (r : Nat) (hr : r = cfE c) : Calls Tryz.prog 21 #[.agg (cv c p), .string s] w fun e w' => e = .returned (.int .i64 (r : Int)) ∧ Below w.heap.size w w' := by
  obtain ⟨wA, hwA⟩ : ∃ wA, wA = w.alloc (.cells (cv c p) 34) := ⟨_, rfl⟩
  have B0 : Below w.heap.size w wA := by rw [hwA]; exact below_alloc w _
  have hX0 : (w.alloc (.cells (cv c p) 34)).heap[w.heap.size]? = some (.cells (cv c p) 34 (0, 0)) := cbox_new w c p
  have hi34 := info34 c p
  have c34 := cf.right_any c p wA (hv.later B0) r hr
  clear hv hr
  by_cases h0 : r = 0
  · subst h0
    go_enter Tryz.func21, Tryz.ntmps21
    go_wp2_with (first | (refine wpList_load_row rfl 34 (.tmp 2) rfl w.heap.size rfl 34 (cv c p) (0, 0) _ hX0 Tryz.underlying34 rfl hi34 ?_))
    rw [← hwA]
    go_at_call 34
    refine c34.mono ?_
    rintro e w1 ⟨rfl, b1⟩
    clear c34 hX0 hwA
    go_wp2_with (fail)
    go_ret
    exact ⟨rfl, chain B0 b1⟩
  · have hne : (((r : Nat) : Int) == 0) = false := beq_eq_false_iff_ne.2 (by omega)
    have hne2 : (((r : Nat) : Int) != 0) = true := by rw [bne_iff_ne]; omega
    go_enter Tryz.func21, Tryz.ntmps21
    go_wp2_with (first | (refine wpList_load_row rfl 34 (.tmp 2) rfl w.heap.size rfl 34 (cv c p) (0, 0) _ hX0 Tryz.underlying34 rfl hi34 ?_))
    rw [← hwA]
    go_at_call 34
    refine c34.mono ?_
    rintro e w1 ⟨rfl, b1⟩
    clear c34 hX0 hwA
    go_wp2_with (fail)
    go_ret
    exact ⟨rfl, chain B0 b1⟩
def NormOut (c : Cf) (s : ByteArray) (w : World) (e : Ending) (w' : World) : Prop :=
  ∃ (r : Nat) (t : ByteArray), e = .returned (.tuple #[.string t, .int .i64 (r : Int)]) ∧ r = cfE c ∧ (r = 0 → t = nrm c.ps s) ∧ (r ≠ 0 → t = e0) ∧ Below w.heap.size w w'
set_option maxHeartbeats 2000000 in
theorem norm_any (c : Cf) (p : Cp) (s : ByteArray) (hs : s.size ≤ 4096) (w : World) (hv : CfAt w c p) : Calls Tryz.prog 8 #[.agg (cv c p), .string s] w (NormOut c s w) := by
  obtain ⟨wA, hwA⟩ : ∃ wA, wA = w.alloc (.cells (cv c p) 34) := ⟨_, rfl⟩
  have B0 : Below w.heap.size w wA := by rw [hwA]; exact below_alloc w _
  have hX0 : (w.alloc (.cells (cv c p) 34)).heap[w.heap.size]? = some (.cells (cv c p) 34 (0, 0)) := cbox_new w c p
  have HX := (show Hid (CBox wA w.heap.size c p) from by rw [hwA]; exact cbox_new w c p)
  have hi34 := info34 c p
  have HC := (show Hid (CfAt wA c p) from hv.later B0)
  obtain ⟨r, hr⟩ : ∃ r, r = cfE c := ⟨_, rfl⟩
  have c21 := check_any c p s hs wA (hv.later B0) r hr
  have HR := (show Hid (r = cfE c) from hr)
  clear hv hr
  by_cases h0 : r = 0
  · subst h0
    go_enter Tryz.func8, Tryz.ntmps8
    go_wp2_with (first | (refine wpList_load_row rfl 34 (.tmp 2) rfl w.heap.size rfl 34 (cv c p) (0, 0) _ hX0 Tryz.underlying34 rfl hi34 ?_))
    rw [← hwA]
    go_at_call 21
    refine c21.mono ?_
    rintro e w1 ⟨rfl, b1⟩
    clear c21 hX0 hwA
    have hX1 : w1.heap[w.heap.size]? = some (.cells (cv c p) 34 (0, 0)) := HX.out.later b1
    have c23 := normal_any c p s hs w1 (HC.out.later b1) HR.out.symm
    obtain ⟨t, ht⟩ : ∃ t, t = nrm c.ps s := ⟨_, rfl⟩
    have htz : t.size ≤ 262144 := by rw [ht]; exact (fit_of HR.out.symm hs).nrm (passes_ok HR.out.symm).2.1
    rw [← ht] at c23
    have HT := (show Hid (t = nrm c.ps s) from ht)
    clear ht
    go_wp2_with (first | (refine wpList_load_row rfl 34 (.tmp 2) rfl w.heap.size rfl 34 (cv c p) (0, 0) _ hX1 Tryz.underlying34 rfl hi34 ?_))
    go_at_call 23
    refine c23.mono ?_
    rintro e w2 ⟨rfl, b2⟩
    have c22 := mg.clone_any t (by omega) w2
    clear c23 hX1
    go_wp2_with (fail)
    go_at_call 22
    refine c22.mono ?_
    rintro e w3 ⟨rfl, b3⟩
    clear c22
    go_wp2_with (fail)
    go_ret2
    exact ⟨0, t, rfl, HR.out, fun _ => HT.out, fun h => absurd rfl h, chain B0 (chain b1 (chain b2 b3))⟩
  · have hne : (((r : Nat) : Int) == 0) = false := beq_eq_false_iff_ne.2 (by omega)
    have hne2 : (((r : Nat) : Int) != 0) = true := by rw [bne_iff_ne]; omega
    go_enter Tryz.func8, Tryz.ntmps8
    go_wp2_with (first | (refine wpList_load_row rfl 34 (.tmp 2) rfl w.heap.size rfl 34 (cv c p) (0, 0) _ hX0 Tryz.underlying34 rfl hi34 ?_))
    rw [← hwA]
    go_at_call 21
    refine c21.mono ?_
    rintro e w1 ⟨rfl, b1⟩
    clear c21 hX0 hwA
    go_wp2_with (fail)
    go_ret2
    exact ⟨r, e0, rfl, HR.out, fun h => absurd h h0, fun _ => rfl, chain B0 b1⟩
theorem cells13 {W : World} {g : Nat} {c : Cf} {p : Cp} (h : W.heap[g]? = some (.cells (cv c p) 34 (0, 0))) : W.cell? ⟨g, 0, none⟩ = some (.slice p.po c.ps.length p.pc) ∧ W.cell? ⟨g, 1, none⟩ = some (.int .i64 c.t.kind) ∧ W.cell? ⟨g, 2, none⟩ = some (.int .u64 c.t.set.a) ∧ W.cell? ⟨g, 3, none⟩ = some (.int .u64 c.t.set.b) ∧ W.cell? ⟨g, 4, none⟩ = some (.int .u64 c.t.set.c) ∧ W.cell? ⟨g, 5, none⟩ = some (.int .u64 c.t.set.d) ∧ W.cell? ⟨g, 6, none⟩ = some (.int .i64 c.t.min) ∧ W.cell? ⟨g, 7, none⟩ = some (.int .i64 c.t.max) ∧ W.cell? ⟨g, 8, none⟩ = some (.slice p.ko c.t.kids.length p.kc) ∧ W.cell? ⟨g, 9, none⟩ = some (.slice p.mo c.ms.length p.mc) ∧ W.cell? ⟨g, 10, none⟩ = some (.slice p.no c.ns.length p.nc) ∧ W.cell? ⟨g, 11, none⟩ = some (.slice p.bo c.bf.length p.bc) ∧ W.cell? ⟨g, 12, none⟩ = some (.slice p.ao c.af.length p.ac) := by
  refine ⟨?_, ?_, ?_, ?_, ?_, ?_, ?_, ?_, ?_, ?_, ?_, ?_, ?_⟩ <;> (rw [Lib.cell_of_heap h]; rfl)
theorem below_of {w W W' : World} {v : Value} {l : List Int} (hb : Below w.heap.size w W) (hi : Ids W w.heap.size v l) (ch : Chr v.ownBlock W W') : Below w.heap.size w W' :=
  ⟨ch.os.trans hb.os, ch.tape.trans hb.tape, ch.output.trans hb.output, Nat.le_trans hb.size ch.size, fun k hk => (ch.block k (Nat.lt_of_lt_of_le hk hb.size) (fun e => by have := (ow.lt hi e).1; omega)).trans (hb.block k hk)⟩
theorem conf_kept {c : Cf} {p : Cp} {w W W' : World} {v : Value} {l : List Int} (hb : Below w.heap.size w W) (hx : W.heap[w.heap.size]? = some (.cells (cv c p) 34 (0, 0))) (hi : Ids W w.heap.size v l) (ch : Chr v.ownBlock W W') : Below w.heap.size w W' ∧ W'.heap[w.heap.size]? = some (.cells (cv c p) 34 (0, 0)) :=
  ⟨below_of hb hi ch, (ch.block _ (Array.getElem?_eq_some_iff.1 hx).1 (fun e => ow.type hi hx (by decide) e.symm)).trans hx⟩
def TokOut (c : Cf) (s : ByteArray) (w : World) (e : Ending) (w' : World) : Prop :=
  ∃ (r : Nat) (v : Value) (l : List Int), e = .returned (.tuple #[v, .int .i64 (r : Int)]) ∧ r = cfE c ∧ Ids w' w.heap.size v l ∧ (r ≠ 0 → l = []) ∧ (r = 0 → ∃ mid, Mids (built c.t).es (nrm c.ps s) c.ms 0 mid ∧ mid.length ≤ (nrm c.ps s).size ∧ l = nameIds c c.bf ++ mid ++ nameIds c c.af) ∧ Below w.heap.size w w'
theorem frame_ok {c : Cf} (h : cfE c = 0) : (c.bf.length ≤ 64 ∧ ∀ x ∈ c.bf, 0 ≤ x ∧ x ≤ 1000) ∧ (c.af.length ≤ 64 ∧ ∀ x ∈ c.af, 0 ≤ x ∧ x ≤ 1000) := by
  obtain ⟨h1, h2, h3, h4⟩ := split_ok h
  rw [cf.cfE_eq] at h
  have g1 : cf.passE c.ps = 0 := by
    by_cases e : cf.passE c.ps = 0
    · exact e
    · rw [if_pos e] at h; exact absurd h e
  rw [if_neg (by simp [g1])] at h
  have g2 : cf.splitE c.t = 0 := by
    by_cases e : cf.splitE c.t = 0
    · exact e
    · rw [if_pos e] at h; exact absurd h e
  rw [if_neg (by simp [g2]), if_neg (by simp [h4])] at h
  unfold cf.rest at h
  split at h
  · rename_i hl
    obtain ⟨q1, q2, q3⟩ := hl
    have hn := q1.1
    exact ⟨⟨by have := q2.1; omega, fun x hx => by have := q2.2 x hx; omega⟩, ⟨by have := q3.1; omega, fun x hx => by have := q3.2 x hx; omega⟩⟩
  · cases h
set_option maxHeartbeats 4000000 in
theorem tok_any (c : Cf) (p : Cp) (s : ByteArray) (hs : s.size ≤ 4096) (hsane : c.t.sane) (w : World) (hv : CfAt w c p) : Calls Tryz.prog 9 #[.agg (cv c p), .string s] w (TokOut c s w) := by
  obtain ⟨wA, hwA⟩ : ∃ wA, wA = w.alloc (.cells (cv c p) 34) := ⟨_, rfl⟩
  have B0 : Below w.heap.size w wA := by rw [hwA]; exact below_alloc w _
  have hX0 : (w.alloc (.cells (cv c p) 34)).heap[w.heap.size]? = some (.cells (cv c p) 34 (0, 0)) := cbox_new w c p
  have HX := (show Hid (CBox wA w.heap.size c p) from by rw [hwA]; exact cbox_new w c p)
  have hi34 := info34 c p
  have HC := (show Hid (CfAt wA c p) from hv.later B0)
  have HC0 := (show Hid (CfAt w c p) from hv)
  obtain ⟨r, hr⟩ : ∃ r, r = cfE c := ⟨_, rfl⟩
  have c21 := check_any c p s hs wA (hv.later B0) r hr
  have HR := (show Hid (r = cfE c) from hr)
  clear hv hr
  by_cases h0 : r = 0
  · subst h0
    obtain ⟨⟨f1, f2⟩, ⟨f3, f4⟩⟩ := frame_ok HR.out.symm
    have hms := (mg.ok_run (split_ok HR.out.symm).2.2.2).1
    go_enter Tryz.func9, Tryz.ntmps9
    go_wp2_with (first | (refine wpList_load_row rfl 34 (.tmp 2) rfl w.heap.size rfl 34 (cv c p) (0, 0) _ hX0 Tryz.underlying34 rfl hi34 ?_))
    rw [← hwA]
    go_at_call 21
    refine c21.mono ?_
    rintro e w1 ⟨rfl, b1⟩
    clear c21 hX0 hwA
    have hX1 : w1.heap[w.heap.size]? = some (.cells (cv c p) 34 (0, 0)) := HX.out.later b1
    have B1 := chain B0 b1
    have k11 := (HX.out.later b1).c11
    have c24 := named_any c p c.bf f1 f2 hms p.bo p.bc w.heap.size w1 B1.size ((HC0.out.bf).carry (fun b hb => B1.block b hb) (fun b hb => hb)) (.slice none 0 0) [] ⟨rfl, .inl ⟨rfl, rfl⟩⟩ (by simp)
    go_wp2_with (first | (refine wpList_load_row rfl 34 (.tmp 2) rfl w.heap.size rfl 34 (cv c p) (0, 0) _ hX1 Tryz.underlying34 rfl hi34 ?_))
    go_at_call 24
    refine c24.mono ?_
    rintro e w2 ⟨v2, rfl, i2, ch2, sm2⟩
    clear c24 k11 hX1
    have W2 : w.heap.size ≤ w2.heap.size := Nat.le_trans B1.size ch2.size
    have b2 : Below w1.heap.size w1 w2 := ⟨ch2.os, ch2.tape, ch2.output, ch2.size, fun k hk => ch2.block k hk (by simp [Value.ownBlock])⟩
    have B2 := chain B1 b2
    have hX2 : w2.heap[w.heap.size]? = some (.cells (cv c p) 34 (0, 0)) := HX.out.later (chain b1 b2)
    obtain ⟨t, ht⟩ : ∃ t, t = nrm c.ps s := ⟨_, rfl⟩
    have htz : t.size ≤ 262144 := by rw [ht]; exact (fit_of HR.out.symm hs).nrm (passes_ok HR.out.symm).2.1
    have H23 := (show Hid (∀ W, Below w2.heap.size w2 W → Calls Tryz.prog 23 #[.agg (cv c p), .string s] W fun e w' => e = .returned (.string t) ∧ Below W.heap.size W w') from fun W b => by rw [ht]; exact normal_any c p s hs W (HC.out.later (chain (chain b1 b2) b)) HR.out.symm)
    have HT := (show Hid (t = nrm c.ps s) from ht)
    have HIDS := (show Hid (Ids w2 w.heap.size v2 ([] ++ nameIds c c.bf)) from i2)
    have H25 := (show Hid (∀ W, Below w2.heap.size w2 W → Calls Tryz.prog 25 #[v2, .agg (cv c p), .string t] W (MergedOut c t w.heap.size v2 ([] ++ nameIds c c.bf) W)) from fun W b => merged_any c p t htz W (HC.out.later (chain (chain b1 b2) b)) HR.out.symm hsane w.heap.size (Nat.le_trans W2 b.size) v2 _ (ow.later HIDS.out b) (by simp [nameIds]; omega))
    have HALL := (show Hid (∀ W, Below w2.heap.size w2 W → W.heap[w.heap.size]? = some (.cells (cv c p) 34 (0, 0))) from fun W b => HX.out.later (chain (chain b1 b2) b))
    obtain ⟨q0, q1, q2, q3, q4, q5, q6, q7, q8, q9, q10, q11, q12⟩ := cells13 hX2
    clear ht i2 sm2
    go_wp2_with (fail)
    unfold cv at H23 H25
    go_region_with (first | (have hh := H23; clear H23; go_at_call 23; refine (hh.out _ (Below.drew (Below.refl _ _))).mono ?_; rintro e w3 ⟨rfl, b3⟩; have bb3 := (Below.drew (Below.refl w2.heap.size w2)).trans b3; obtain ⟨u0, u1, u2, u3, u4, u5, u6, u7, u8, u9, u10, u11, u12⟩ := cells13 (HALL.out _ bb3)) | (go_at_call 25; refine (H25.out _ bb3).mono ?_; rintro e w4 ⟨mid, hm1, hm2, v4, rfl, i4, ch4, sm4⟩))
    all_goals (
      rename_i K9 hK9
      refine hK9 _ _ ?_
      clear hK9
      generalize hact : Act.put _ _ _ = act
      simp [Act.put] at hact
      subst hact
      obtain ⟨B4, hX4⟩ := conf_kept (chain B2 bb3) (HALL.out _ bb3) (ow.later HIDS.out bb3) ch4
      have I4 := i4
      have HFIN := (show Hid (mid.length ≤ t.size ∧ Mids (built c.t).es t c.ms 0 mid) from ⟨hm2, hm1⟩)
      have k12 := (show CBox w4 w.heap.size c p from hX4).c12
      have c24 := named_any c p c.af f3 f4 hms p.ao p.ac w.heap.size w4 B4.size ((HC0.out.af).carry (fun b hb => B4.block b hb) (fun b hb => hb)) v4 _ i4 (by simp [nameIds]; omega)
      clear q0 q1 q2 q3 q4 q5 q6 q7 q8 q9 q10 q11 q12 u0 u1 u2 u3 u4 u5 u6 u7 u8 u9 u10 u11 u12 H25 hh HALL HIDS i4 ch4 sm4 bb3 b3 hX2
      go_wp2_with (first | (refine wpList_load_row rfl 34 (.tmp 2) rfl w.heap.size rfl 34 (cv c p) (0, 0) _ hX4 Tryz.underlying34 rfl hi34 ?_))
      go_at_call 24
      refine c24.mono ?_
      rintro e w5 ⟨v5, rfl, i5, ch5, sm5⟩
      have HE5 := (show Hid (Ids w5 w.heap.size v5 ([] ++ nameIds c c.bf ++ mid ++ nameIds c c.af) ∧ Below w.heap.size w w5) from ⟨i5, below_of B4 I4 ch5⟩)
      clear c24 i5 ch5 sm5
      go_wp2_with (fail)
      go_ret2
      refine ⟨0, v5, _, rfl, HR.out, HE5.out.1, fun h => absurd rfl h, fun _ => ⟨mid, by rw [← HT.out]; exact HFIN.out.2, by rw [← HT.out]; exact HFIN.out.1, by simp⟩, HE5.out.2⟩)
  · have hne : (((r : Nat) : Int) == 0) = false := beq_eq_false_iff_ne.2 (by omega)
    have hne2 : (((r : Nat) : Int) != 0) = true := by rw [bne_iff_ne]; omega
    go_enter Tryz.func9, Tryz.ntmps9
    go_wp2_with (first | (refine wpList_load_row rfl 34 (.tmp 2) rfl w.heap.size rfl 34 (cv c p) (0, 0) _ hX0 Tryz.underlying34 rfl hi34 ?_))
    rw [← hwA]
    go_at_call 21
    refine c21.mono ?_
    rintro e w1 ⟨rfl, b1⟩
    clear c21 hX0 hwA
    go_wp2_with (fail)
    go_ret2
    exact ⟨r, .slice none 0 0, [], rfl, HR.out, ⟨rfl, .inl ⟨rfl, rfl⟩⟩, fun _ => rfl, fun h => absurd h h0, chain B0 b1⟩
end Go.Proofs.YthmecbonjkcnmaaGreat.tk
