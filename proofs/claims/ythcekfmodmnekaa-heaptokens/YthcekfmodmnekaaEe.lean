/-
  Contracts over this program: signs are merged till no pair is left (row.merge).
-/
import Derived.Test.YthcekfmodmnekaaEd
import Derived.Deep.LoopGhost
namespace Go.Proofs.Ythcekfmodmnekaa.en
open Go.ChangeShapes Go.WideShapes Go.ChangeAt Go.RowKit Go.Shelf Go.Maps
open mg (Mg iv OkM I64 below_alloc chain rk nx joinAt joinAt_len joinAt_get app app_some app_none)
open pp (Pr plt Pil cs2)
open hp (RMap Heap Mv own_keep)
set_option linter.unusedVariables false
set_option maxRecDepth 100000

def MergeOut (W : World) (B rb mb : Nat) (vs : Value) (K : List Mg) (S : List Sg) (ids : List Int) (e : Ending) (W' : World) : Prop :=
  ∃ vp' S' ps', e = .returned (.tuple #[]) ∧ Rw W' B rb mb vs vp' K S' [] ∧ Inv K S' ps' (app K ids) [] ∧ S'.length = S.length ∧ Ch B W W'
set_option maxHeartbeats 4000000 in
theorem merge_any {W : World} {B rb mb : Nat} {vs vp : Value} {K : List Mg} {S : List Sg} {L : List Pr} {ps : List Nat} {ids : List Int} (h : Rw W B rb mb vs vp K S L) (hB : B ≤ W.heap.size) (hh : Heap plt L) (hn : S.length ≤ 1000000) (hK : K.length ≤ 1024) (I : Inv K S ps ids L) (hsm : AllSm ids) (hl : L.length + 2 * ps.length ≤ 999000) :
    Calls Try.prog 27 #[.pointer (some ⟨rb, 0, none⟩)] W (MergeOut W B rb mb vs K S ids) := by
  have HR := (show Hid (Rw W B rb mb vs vp K S L) from h)
  have HI := (show Hid (Inv K S ps ids L) from I)
  have HH := (show Hid (Heap plt L) from hh)
  have HS := (show Hid (AllSm ids) from hsm)
  have HL := (show Hid (L.length + 2 * ps.length ≤ 999000) from hl)
  clear h I hh hsm hl
  go_enter Try.func27, Try.ntmps27
  go_wp2_with (fail)
  go_loopg [2] (L.length + 2 * ps.length) (fun k y wr => ∃ (vp' : Value) (S' : List Sg) (L' : List Pr) (ps' : List Nat) (ids' : List Int), Hid (k = L'.length + 2 * ps'.length) ∧ Hid (k ≤ 999000) ∧ Hid (Rw wr B rb mb vs vp' K S' L') ∧ Hid (Inv K S' ps' ids' L') ∧ Hid (Heap plt L') ∧ Hid (AllSm ids') ∧ Hid (app K ids' = app K ids) ∧ Hid (S'.length = S.length) ∧ Hid (Ch B W wr))
  case atStart => exact ⟨vp, S, L, ps, ids, rfl, HL, HR, HI, HH, HS, rfl, rfl, Ch.refl _ _⟩
  case round =>
    clear HR HI HH HS HL
    obtain ⟨vp1, S1, L1, ps1, ids1, HK1, HKL, HR, HI, HH, HS, HA, HN, HC⟩ := hrel
    have hc2 := HR.out.c2
    have c39 := pp.empty_any L1 HR.out.pil
    by_cases hz : L1.length = 0
    · have e : L1 = [] := List.length_eq_zero_iff.1 hz
      rw [decide_eq_true hz] at c39
      have HF := (show Hid (MergeOut W B rb mb vs K S ids (.returned (.tuple #[])) wr) from by
        subst e
        refine ⟨vp1, S1, ps1, rfl, HR.out, ?_, HN.out, HC.out⟩
        rw [← HA.out, app_none HI.out.done]
        exact HI.out)
      clear hz e
      go_wp2_with (go_at_call 39; refine c39.mono ?_; rintro e w' ⟨rfl, h⟩; obtain rfl := h.symm)
      first | go_end0 | refine bodyPost_ret (results_none rfl _ _ _) rfl ?_
      exact HF.out
    · rw [decide_eq_false hz] at c39
      have hlp : 0 < L1.length := by omega
      have hl1 : L1.length ≤ 999000 := by have := HK1.out; have := HKL.out; omega
      have c40 := pp.take_any (by omega) hlp HR.out.pil HH.out
      clear hz
      go_wp2_with (go_at_call 39; refine c39.mono ?_; rintro e w' ⟨rfl, h⟩; obtain rfl := h.symm)
      go_at_call 40
      refine c40.mono ?_
      rintro e w1 ⟨vp2, ⟨r, pz⟩, L2, rfl, t1, t2, t3, t4, t5, t6⟩
      obtain ⟨R2, C2⟩ := HR.out.piled t1 t5
      have hmem : (r, pz) ∈ L1 := t3.symm.subset List.mem_cons_self
      obtain ⟨hr0, p, hp, hpl⟩ := HI.out.pok _ hmem
      simp only at hr0 hp
      subst hp
      obtain ⟨s, hs⟩ : ∃ s, S1[p]? = some s := ⟨_, List.getElem?_eq_getElem hpl⟩
      have bA := below_alloc w1 (.cells #[.int .i64 r, .int .i64 (p : Int)] 87)
      have R3 := R2.later bA
      have hBw : B ≤ w1.heap.size := Nat.le_trans hB (Nat.le_trans HC.out.size C2.size)
      have C3 := (show Hid (Ch B W (w1.alloc (.cells #[.int .i64 r, .int .i64 (p : Int)] 87))) from (HC.out.trans C2).trans (Ch.of_below bA hBw))
      have hbox : (w1.alloc (.cells #[.int .i64 r, .int .i64 (p : Int)] 87)).heap[w1.heap.size]? = some (.cells #[.int .i64 r, .int .i64 (p : Int)] 87 (0, 0)) := World.alloc_heap_new w1 _
      have HR3 := (show Hid _ from R3)
      have HL2 := (show Hid (L1.length = L2.length + 1) from by show _ = _; have := t3.length_eq; simpa using this)
      have HT3 := (show Hid (L1.Perm ((r, (p : Int)) :: L2)) from t3)
      have HT4 := (show Hid (∀ y ∈ L1, plt y (r, (p : Int)) = false) from t4)
      have HT2 := (show Hid (Heap plt L2) from t2)
      have HSS := (show Hid (S1[p]? = some s) from hs)
      have HBOX := (show Hid _ from hbox)
      have HPL := (show Hid (p < S1.length) from hpl)
      have HBW := (show Hid (B ≤ (w1.alloc (.cells #[.int .i64 r, .int .i64 (p : Int)] 87)).heap.size) from Nat.le_trans hB C3.out.size)
      clear c39 c40 t1 t2 t3 t4 t5 t6 R2 C2 hmem hs bA R3 hbox hc2 hBw hpl
      go_wp2_with (fail)
      obtain ⟨xb, HXB⟩ : ∃ xb, Hid (xb = w1.heap.size) := ⟨_, rfl⟩
      rw [← HXB.out] at HBOX ⊢
      generalize w1.alloc (.cells #[.int .i64 r, .int .i64 (p : Int)] 87) = w2 at *
      clear HXB
      obtain ⟨gs, cap, hvs⟩ := HR3.out.full (by have := HPL.out; omega)
      have HVS := (show Hid (vs = .slice (some ⟨gs, 0, none⟩) S1.length cap) from hvs)
      clear hvs
      have x0 : w2.cell? ⟨xb, 0, none⟩ = some (.int .i64 r) := by rw [Lib.cell_of_heap HBOX.out]; rfl
      have x1 : w2.cell? ⟨xb, 1, none⟩ = some (.int .i64 (p : Int)) := by rw [Lib.cell_of_heap HBOX.out]; rfl
      have r1 : w2.cell? ⟨rb, 1, none⟩ = some (.slice (some ⟨gs, 0, none⟩) S1.length cap) := by rw [← HVS.out]; exact HR3.out.c1
      have RR : Rw w2 B rb mb (.slice (some ⟨gs, 0, none⟩) S1.length cap) vp2 K S1 L2 := by rw [← HVS.out]; exact HR3.out
      obtain ⟨-, -, -, k3, -, -, c1, c2⟩ := RR.sign HSS.out
      have hpl := HPL.out
      have hn1 : S1.length ≤ 1000000 := by rw [HN.out]; exact hn
      clear RR
      by_cases he : s.rank = r
      · obtain ⟨i, k, j1, j2, j3, j4, j5⟩ := HI.out.next (HT3.out.symm.subset List.mem_cons_self) HT4.out HSS.out he
        subst j3
        have c41 : ∀ W', W'.heap = w2.heap → W'.os = w2.os → W'.tape = w2.tape → W'.output = w2.output → Calls Try.prog 41 #[.pointer (some ⟨rb, 0, none⟩), iv p] W' (fun e W'' => ∃ vp' S' L', e = .returned (.tuple #[]) ∧ Rw W'' B rb mb vs vp' K S' L' ∧ Heap plt L' ∧ Inv K S' (ps1.eraseIdx (i + 1)) (joinAt ids1 i k) L' ∧ L'.length ≤ L2.length + 2 ∧ S'.length = S1.length ∧ Ch B W W'') := fun W' hW o1 o2 o3 => by
          have := join_any (HR3.out.keep (W' := W') fun x _ => by rw [hW]) (by rw [hW]; exact HBW.out) HT2.out (by have := HL2.out; omega) hn1 hK HI.out HS.out j1 j4 (by rw [j2]; exact HT3.out)
          rw [j2] at this
          refine this.mono ?_
          rintro e W'' ⟨vp', S', L', rfl, a1, a2, a3, a4, a5, a6⟩
          exact ⟨vp', S', L', rfl, a1, a2, a3, a4, a5, Ch.trans ⟨o1.trans C3.out.os, o2.trans C3.out.tape, o3.trans C3.out.output, by rw [hW]; exact C3.out.size, fun x hx => by rw [hW]; exact C3.out.low x hx, fun x ob b0 b1 b2 b3 => by rw [hW]; exact C3.out.oth x ob b0 b1 b2 b3⟩ a6⟩
        have C41 := (show Hid _ from c41)
        have hi2 : i + 1 < ps1.length := by
          apply Classical.byContradiction
          intro hh
          rw [rkI_last (by have := HI.out.lk.len; omega)] at j4
          omega
        have HJ := (show Hid (i + 1 < ps1.length) from hi2)
        have HJ5 := (show Hid (nx K ids1 = some (i, k)) from j5)
        have hk2 : k ≤ 1023 := by
          obtain ⟨q1, q2⟩ := rkI_nat j4 (by omega)
          omega
        rw [he] at k3
        have d1 : ((k : Int) == (k : Int)) = true := beq_self_eq_true _
        clear c41 he j1 j2 j4 j5 hi2
        go_quiet (fail)
        go_wp2_with (fail)
        go_at_call 41
        refine (C41.out _ (by rfl) (by rfl) (by rfl) (by rfl)).mono ?_
        rintro e w3 ⟨vp', S', L', rfl, a1, a2, a3, a4, a5, a6⟩
        have A1 := (show Hid _ from a1)
        have A2 := (show Hid _ from a2)
        have A3 := (show Hid _ from a3)
        have A4 := (show Hid _ from a4)
        have A5 := (show Hid _ from a5)
        have A6 := (show Hid _ from a6)
        clear a1 a2 a3 a4 a5 a6
        go_wp2_with (fail)
        go_roundg (L'.length + 2 * (ps1.eraseIdx (i + 1)).length)
        case rel => exact ⟨vp', S', L', _, _, rfl, by show _ ≤ _; have := HK1.out; have := HKL.out; have := HL2.out; have := A4.out; have := erase_len ps1 (i + 1) HJ.out; omega, A1, A3, A2, HS.out.join (by have := HI.out.lk.len; have := HJ.out; omega) hk2, by show _ = _; rw [← app_some HJ5.out]; exact HA.out, A5.out.trans HN.out, A6⟩
        case measure => have := HK1.out; have := HL2.out; have := A4.out; have := erase_len ps1 (i + 1) HJ.out; omega
      · have HI2 := (show Hid (Inv K S1 ps1 ids1 L2) from HI.out.drop HT3.out HSS.out he)
        have he' : (s.rank == r) = false := by simp [he]
        clear he
        go_quiet (fail)
        go_wp2_with (fail)
        go_roundg (L2.length + 2 * ps1.length)
        case rel => exact ⟨vp2, S1, L2, ps1, ids1, rfl, by show _ ≤ _; have := HK1.out; have := HKL.out; have := HL2.out; omega, HR3.out.keep (fun _ _ => rfl), HI2, HT2, HS, HA, HN, C3.out.drewN _⟩
        case measure => have := HK1.out; have := HL2.out; omega
end Go.Proofs.Ythcekfmodmnekaa.en
