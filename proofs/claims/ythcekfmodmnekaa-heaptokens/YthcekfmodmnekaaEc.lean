/-
  Contracts over this program: a sign and the one after it are looked up (row.look).
-/
import Derived.Test.YthcekfmodmnekaaEb
namespace Go.Proofs.Ythcekfmodmnekaa.en
open Go.ChangeShapes Go.WideShapes Go.ChangeAt Go.RowKit Go.Shelf Go.Maps
open mg (Mg iv OkM I64 below_alloc chain)
open pp (Pr plt Pil cs2)
open hp (RMap Heap Mv own_keep)
set_option linter.unusedVariables false
set_option maxRecDepth 100000

def Sm (x : Int) : Prop := 0 ≤ x ∧ x ≤ 1000000
theorem Sm.ok {x y : Int} (h : Sm x) (k : Sm y) : OkM (x, y) := by unfold Sm at h k; unfold OkM I64; simp only; omega
def LookOut (W : World) (B rb mb : Nat) (vs : Value) (K : List Mg) (S : List Sg) (L : List Pr) (p : Nat) (s : Sg) (r : Int) (e : Ending) (W' : World) : Prop :=
  ∃ vp' L', e = .returned (.tuple #[]) ∧ Rw W' B rb mb vs vp' K (S.set p { s with rank := r }) L' ∧ Looked r p L L' ∧ Heap plt L' ∧ Ch B W W'
set_option maxHeartbeats 4000000 in
theorem look_any {W : World} {B rb mb : Nat} {vs vp : Value} {K : List Mg} {S : List Sg} {L : List Pr} (h : Rw W B rb mb vs vp K S L) (hB : B ≤ W.heap.size) (hh : Heap plt L) (hl : L.length ≤ 999998) (hn : S.length ≤ 1000000) (hK : K.length ≤ 1024) (p : Nat) (s : Sg) (hs : S[p]? = some s) (r : Int) (hsm : Sm s.id)
    (hr : (s.after = -1 ∧ r = -1) ∨ ∃ (q : Nat) (t : Sg), s.after = (q : Int) ∧ q ≠ p ∧ S[q]? = some t ∧ Sm t.id ∧ r = lookR K s.id t.id) :
    Calls Try.prog 38 #[.pointer (some ⟨rb, 0, none⟩), iv p] W (LookOut W B rb mb vs K S L p s r) := by
  have hpl := (List.getElem?_eq_some_iff.1 hs).1
  obtain ⟨gs, cap, rfl⟩ := h.full (by omega)
  obtain ⟨k0, k1, k2, k3, kf, -, c1, c2⟩ := h.sign hs
  have kf3 := kf (p * 4 + 3)
  have b1 := h.c1
  have rk1 := h.put (p * 4 + 3) (.int .i64 (-1)) (S' := S.set p { s with rank := -1 }) (by simp) ((cs4_set S p s hs (-1)).2.2.2)
  obtain ⟨R1, C1⟩ := rk1
  have hs1 : (S.set p { s with rank := -1 })[p]? = some { s with rank := -1 } := by rw [set_at _ _ _ _ hpl, if_pos rfl]
  obtain ⟨j0, j1, j2, j3, jf, -, -, -⟩ := R1.sign hs1
  simp only at j0 j1 j2 j3
  have a1 := R1.c1
  have a0 := R1.c0
  rcases hr with ⟨ha, rfl⟩ | ⟨q, t, ha, hqp, ht, htm, rfl⟩
  · have R1' := (show Hid (Rw (W.setCell ⟨gs, p * 4 + 3, none⟩ (.int .i64 (-1))) B rb mb (.slice (some ⟨gs, 0, none⟩) S.length cap) vp K (S.set p { s with rank := -1 }) L) from R1)
    have C1' := (show Hid _ from C1)
    have HH := (show Hid (Heap plt L) from hh)
    rw [ha] at k2 j2
    clear R1 C1 h hs hs1 hh jf kf ha
    generalize S.length = n at *
    go_enter Try.func38, Try.ntmps38
    go_wp2_with (fail)
    refine bodyPost_ret (results_none rfl _ _ _) rfl ?_
    exact ⟨vp, L, rfl, R1'.out, .inl ⟨rfl, rfl⟩, HH.out, C1'.out⟩
  · have hql := (List.getElem?_eq_some_iff.1 ht).1
    have ht1 : (S.set p { s with rank := -1 })[q]? = some t := by rw [set_at _ _ _ _ hpl, if_neg (Ne.symm hqp)]; exact ht
    obtain ⟨i0, -, -, -, -, -, -, -⟩ := R1.sign ht1
    obtain ⟨c, hlk, hcv⟩ := R1.map.look (s.id, t.id) (hsm.ok htm) hsm.1
    simp only at hlk
    rw [ha] at k2 j2
    have hq1 : ((q : Int) == -1) = false := beq_eq_false_iff_ne.2 (by omega)
    by_cases hm : (s.id, t.id) ∈ K
    · have hr : lookR K s.id t.id = c := by unfold lookR; rw [if_pos hm, hcv hm]
      have hc : c = ((K.idxOf (s.id, t.id) : Nat) : Int) := hcv hm
      obtain ⟨cn, hcn⟩ : ∃ cn : Nat, c = (cn : Int) := ⟨_, hc⟩
      have hcl : cn ≤ 1024 := by have := List.idxOf_lt_length_of_mem hm; omega
      rw [hr]
      rw [decide_eq_true hm] at hlk
      subst hcn
      have rk2 := R1.put (p * 4 + 3) (.int .i64 (cn : Int)) (S' := (S.set p { s with rank := -1 }).set p { s with rank := (cn : Int) }) (by simp) ((cs4_set _ p _ hs1 _).2.2.2)
      obtain ⟨R2, C2⟩ := rk2
      rw [List.set_set] at R2
      have jf3 := jf (p * 4 + 3)
      have c49 : ∀ W2, W2.heap = ((W.setCell ⟨gs, p * 4 + 3, none⟩ (.int .i64 (-1))).setCell ⟨gs, p * 4 + 3, none⟩ (.int .i64 (cn : Int))).heap → W2.os = W.os → W2.tape = W.tape → W2.output = W.output → Calls Try.prog 49 #[.pointer (some ⟨rb, 2, none⟩), pp.pv ((cn : Int), (p : Int))] W2 (fun e W' => LookOut W B rb mb (.slice (some ⟨gs, 0, none⟩) S.length cap) K S L p s (cn : Int) e W') := fun W2 hW o1 o2 o3 => by
        have R2' : Rw W2 B rb mb (.slice (some ⟨gs, 0, none⟩) S.length cap) vp K (S.set p { s with rank := (cn : Int) }) L := R2.keep fun k _ => by rw [hW]
        refine (pp.put_any (cn : Int) (p : Int) hl R2'.pil h.bb hh).mono ?_
        rintro e W3 ⟨vp', L', rfl, t1, t2, t3, t4, -⟩
        obtain ⟨R3, C3⟩ := R2'.piled t1 t4
        have C12 := C1.trans C2
        exact ⟨vp', L', rfl, R3, .inr ⟨by omega, t3⟩, t2, Ch.trans ⟨o1, o2, o3, by rw [hW]; exact C12.size, fun k hk => by rw [hW]; exact C12.low k hk, fun k ob h0 h1 h2 h3 => by rw [hW]; exact C12.oth k ob h0 h1 h2 h3⟩ C3⟩
      have C49 := (show Hid _ from c49)
      clear R1 R2 C1 C2 h hs hs1 hh jf kf ha hm hr hcv c49 ht ht1 htm hc
      generalize S.length = n at *
      go_enter Try.func38, Try.ntmps38
      go_wp2_with (fail)
      go_quiet (fail)
      go_wp2_with (fail)
      go_at_call 49
      refine (C49.out _ (by rfl) (by rfl) (by rfl) (by rfl)).mono ?_
      rintro e w3 ⟨vp', L', rfl, q1, q2, q3, q4⟩
      go_wp2_with (fail)
      first | go_end0 | refine bodyPost_ret (results_none rfl _ _ _) rfl ?_
      exact ⟨vp', L', rfl, q1, q2, q3, q4⟩
    · have hr : lookR K s.id t.id = -1 := by unfold lookR; rw [if_neg hm]
      rw [hr]
      rw [decide_eq_false hm] at hlk
      have R1' := (show Hid (Rw (W.setCell ⟨gs, p * 4 + 3, none⟩ (.int .i64 (-1))) B rb mb (.slice (some ⟨gs, 0, none⟩) S.length cap) vp K (S.set p { s with rank := -1 }) L) from R1)
      have C1' := (show Hid _ from C1)
      have HH := (show Hid (Heap plt L) from hh)
      clear R1 C1 h hs hs1 hh jf kf ha hm hr hcv ht ht1 htm
      generalize S.length = n at *
      go_enter Try.func38, Try.ntmps38
      go_wp2_with (fail)
      go_quiet (fail)
      go_wp2_with (fail)
      first | go_end0 | refine bodyPost_ret (results_none rfl _ _ _) rfl ?_
      exact ⟨vp, L, rfl, R1'.out.keep (fun _ _ => rfl), .inl ⟨rfl, rfl⟩, HH.out, Ch.drewN C1'.out _⟩
end Go.Proofs.Ythcekfmodmnekaa.en
