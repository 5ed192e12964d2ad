/-
  Texts put together: Contracts over this program: one sign of two (row.join). Contracts over this program: signs are merged till no pair is left (row.merge).
-/
import Derived.Test.YtmmlibehihknbaaM08
import Derived.Deep.LoopGhost
namespace Go.Proofs.Ytmmlibehihknbaa.en
open Go.ChangeShapes Go.WideShapes Go.ChangeAt Go.RowKit Go.Shelf Go.Maps
open mg (Mg iv OkM I64 below_alloc chain rk nx joinAt joinAt_len joinAt_get)
open pp (Pr plt Pil cs2)
open hp (RMap Heap Mv own_keep)
set_option linter.unusedVariables false
set_option maxRecDepth 100000

def AllSm (ids : List Int) : Prop := ∀ i, i < ids.length → Sm (ids.getD i 0)
def JoinOut (W : World) (B rb mb : Nat) (vs : Value) (K : List Mg) (S : List Sg) (ps : List Nat) (ids : List Int) (L : List Pr) (i k : Nat) (e : Ending) (W' : World) : Prop :=
  ∃ vp' S' L', e = .returned (.tuple #[]) ∧ Rw W' B rb mb vs vp' K S' L' ∧ Heap plt L' ∧ Inv K S' (ps.eraseIdx (i + 1)) (joinAt ids i k) L' ∧ L'.length ≤ L.length + 2 ∧ S'.length = S.length ∧ Ch B W W'
theorem Looked.len {r : Int} {p : Nat} {L L' : List Pr} (h : Looked r p L L') : L'.length ≤ L.length + 1 := by
  rcases h with ⟨_, rfl⟩ | ⟨_, h⟩
  · omega
  · have := h.length_eq; simp at this; omega
theorem AllSm.join {ids : List Int} (h : AllSm ids) {i k : Nat} (hi : i + 1 < ids.length) (hk : k ≤ 1023) : AllSm (joinAt ids i k) := by
  intro x hx
  have hl := joinAt_len ids i k hi
  rw [joinAt_get _ _ _ _ hi]
  split
  · exact h x (by omega)
  · split
    · unfold Sm; omega
    · exact h (x + 1) (by omega)
def AliveOut (W : World) (B rb mb : Nat) (vs : Value) (K : List Mg) (S : List Sg) (ps : List Nat) (ids : List Int) (L : List Pr) (X : Nat → Prop) (i : Nat) (e : Ending) (W' : World) : Prop :=
  ∃ vp' S' L', e = .returned (.tuple #[]) ∧ Rw W' B rb mb vs vp' K S' L' ∧ Half K S' ps ids L' (fun j => X j ∧ j ≠ i) ∧ Heap plt L' ∧ L'.length ≤ L.length + 1 ∧ S'.length = S.length ∧ Ch B W W'
/-- a sign that is alive is looked at -/
theorem look_alive {W : World} {B rb mb : Nat} {vs vp : Value} {K : List Mg} {S : List Sg} {L : List Pr} {ps : List Nat} {ids : List Int} {X : Nat → Prop} (h : Rw W B rb mb vs vp K S L) (hB : B ≤ W.heap.size) (hh : Heap plt L) (hl : L.length ≤ 999998) (hn : S.length ≤ 1000000) (hK : K.length ≤ 1024) (H : Half K S ps ids L X) (hsm : AllSm ids) {i : Nat} (hi : i < ps.length) :
    Calls Try.prog 98 #[.pointer (some ⟨rb, 0, none⟩), iv (pl ps i : Nat)] W (AliveOut W B rb mb vs K S ps ids L X i) := by
  have hlen := H.lk.len
  obtain ⟨s, h1, h2, h3, h4⟩ := H.seen hK hi
  refine (look_any h hB hh hl hn hK (pl ps i) s h1 (rkI K ids i) (by rw [h2]; exact hsm i (by omega)) ?_).mono ?_
  · rcases h4 with h4 | ⟨t, a1, a2, a3, a4, a5⟩
    · exact .inl h4
    · exact .inr ⟨pl ps (i + 1), t, a1, fun e => by have := inj H.lk a4 hi e; omega, a2, by rw [a3]; exact hsm (i + 1) (by omega), a5⟩
  · rintro e W' ⟨vp', L', rfl, q1, q2, q3, q4⟩
    exact ⟨vp', _, L', rfl, q1, H.look hK hi h1 q2, q3, q2.len, by simp, q4⟩
set_option maxHeartbeats 4000000 in
theorem join_any {W : World} {B rb mb : Nat} {vs vp : Value} {K : List Mg} {S : List Sg} {L L0 : List Pr} {ps : List Nat} {ids : List Int} (h : Rw W B rb mb vs vp K S L) (hB : B ≤ W.heap.size) (hh : Heap plt L) (hl : L.length ≤ 999990) (hn : S.length ≤ 1000000) (hK : K.length ≤ 1024) (I : Inv K S ps ids L0) (hsm : AllSm ids) {i k : Nat} (hi : i < ps.length) (hk : rkI K ids i = (k : Int)) (hp : L0.Perm (((k : Int), (pl ps i : Int)) :: L)) :
    Calls Try.prog 101 #[.pointer (some ⟨rb, 0, none⟩), iv (pl ps i : Nat)] W (JoinOut W B rb mb vs K S ps ids L i k) := by
  have hlen := I.lk.len
  have hi2 : i + 1 < ps.length := by
    apply Classical.byContradiction
    intro hn
    rw [rkI_last (by omega)] at hk
    omega
  have hk2 : k ≤ 1023 := by
    obtain ⟨h1, h2⟩ := rkI_nat hk (by omega)
    omega
  obtain ⟨s, hs, e1, e2, e3⟩ := I.lk.at' i hi
  obtain ⟨g, hg, e4, e5, e6⟩ := I.lk.at' (i + 1) hi2
  have e7 : s.after = (pl ps (i + 1) : Int) := by rw [e3]; unfold nextOf; rw [if_pos hi2]
  have e8 : s.rank = (k : Int) := by rw [I.rank i hi s hs]; exact hk
  obtain ⟨c, J⟩ : ∃ c, Joins S ps i s g (pl ps (i + 1)) c := by
    by_cases h2 : i + 2 < ps.length
    · obtain ⟨t, ht, -⟩ := I.lk.at' (i + 2) h2
      exact ⟨some (pl ps (i + 2), t), hi2, hs, rfl, hg, .inr ⟨t, rfl, by rw [e6]; unfold nextOf; rw [if_pos h2], ht, h2⟩⟩
    · exact ⟨none, hi2, hs, rfl, hg, .inl ⟨rfl, by rw [e6]; unfold nextOf; rw [if_neg h2], h2⟩⟩
  have HH := I.half J k hp
  have hps := I.lk.inc i (i + 1) (by omega) hi2
  have hpb := I.lk.bnd i hi
  have hqb := I.lk.bnd (i + 1) hi2
  obtain ⟨gs, cap, rfl⟩ := h.full (by omega)
  have HI := (show Hid (Half K (S3 S (pl ps i) s k (pl ps (i + 1)) g c) (ps.eraseIdx (i + 1)) (joinAt ids i k) L (fun x => x = i ∨ x + 1 = i)) from HH)
  have HSM := (show Hid (AllSm (joinAt ids i k)) from hsm.join (by omega) hk2)
  have hpi : pl (ps.eraseIdx (i + 1)) i = pl ps i := by rw [erase_get, if_pos (by omega)]
  have hel := erase_len ps (i + 1) hi2
  have hjl := joinAt_len ids i k (by omega)
  have HQI := (show Hid (i + 2 < ps.length → pl ps (i + 1) < pl ps (i + 2)) from fun h4 => I.lk.inc (i + 1) (i + 2) (by omega) h4)
  generalize hP : pl ps i = p at *
  generalize hQ : pl ps (i + 1) = q at *
  have HPI := (show Hid (pl (ps.eraseIdx (i + 1)) i = p) from hpi)
  obtain ⟨k0, k1, k2, k3, kf, -, c1, c2⟩ := h.sign hs
  have b1 := h.c1
  rw [e7] at k2
  rw [e8] at k3
  have HR := (show Hid (Rw W B rb mb (.slice (some ⟨gs, 0, none⟩) S.length cap) vp K S L) from h)
  have HS := (show Hid (S[p]? = some s) from hs)
  have HG := (show Hid (S[q]? = some g) from hg)
  have HE8 := (show Hid (s.rank = (k : Int)) from e8)
  have HE7 := (show Hid (s.after = (q : Int)) from e7)
  have HJ := (show Hid (Joins S ps i s g q c) from by rw [← hQ]; rw [hQ]; exact J)
  clear I hp hk HH hi hi2 e1 e2 e3 e4 e5 e6 e7 e8 h hs hg J hpi hsm hP hQ hlen
  go_enter Try.func101, Try.ntmps101
  go_wp2_with (fail)
  go_quiet (fail)
  have R0 : Rw (W.drewN nq) B rb mb (.slice (some ⟨gs, 0, none⟩) S.length cap) vp K S L := HR.out.keep (fun _ _ => rfl)
  have C0 := (show Hid (Ch B W (W.drewN nq)) from (Ch.refl B W).drewN nq)
  clear b1 k0 k1 k2 k3 kf
  generalize W.drewN nq = W0 at *
  obtain ⟨k0, k1, k2, k3, kf, -, -, -⟩ := R0.sign HS.out
  obtain ⟨g0, g1, g2, g3, -, -, -, -⟩ := R0.sign HG.out
  rw [HE8.out] at k3
  have f1 := kf (p * 4)
  have f2 := kf (p * 4 + 2)
  have b1 := R0.c1
  have HR0 := (show Hid _ from R0)
  clear kf R0
  go_wp2_with (fail)
  go_region
  have R1 : Rw ((W0.setCell ⟨gs, p * 4, none⟩ (.int .i64 (256 + (k : Int)))).setCell ⟨gs, p * 4 + 2, none⟩ (.int .i64 g.after)).drew B rb mb (.slice (some ⟨gs, 0, none⟩) S.length cap) vp K (S1 S p s k g.after) L ∧ Ch B W0 ((W0.setCell ⟨gs, p * 4, none⟩ (.int .i64 (256 + (k : Int)))).setCell ⟨gs, p * 4 + 2, none⟩ (.int .i64 g.after)).drew := by
    obtain ⟨r1, r2⟩ := HR0.out.put (p * 4) (.int .i64 (256 + (k : Int))) (S' := S.set p { s with id := 256 + (k : Int) }) (by simp) ((cs4_set S p s HS.out _).1)
    obtain ⟨r3, r4⟩ := r1.put (p * 4 + 2) (.int .i64 g.after) (S' := (S.set p { s with id := 256 + (k : Int) }).set p { s with id := 256 + (k : Int), after := g.after }) (by simp) ((cs4_set _ p { s with id := 256 + (k : Int) } (by rw [set_at _ _ _ _ hpb, if_pos rfl]) g.after).2.2.1)
    rw [List.set_set] at r3
    exact ⟨r3.keep (fun _ _ => rfl), (r2.trans r4).drewN 1⟩
  obtain ⟨R1, C1⟩ := R1
  have C1 := (show Hid (Ch B W _) from C0.out.trans C1)
  clear k0 k1 k2 k3 g0 g1 g2 g3 f1 f2 b1 HR0 C0
  generalize ((W0.setCell ⟨gs, p * 4, none⟩ (.int .i64 (256 + (k : Int)))).setCell ⟨gs, p * 4 + 2, none⟩ (.int .i64 g.after)).drew = W1 at *
  have hg1 : (S1 S p s k g.after)[q]? = some g := by unfold S1; rw [set_at _ _ _ _ hpb, if_neg (by omega)]; exact HG.out
  have hp1 : (S1 S p s k g.after)[p]? = some { s with id := 256 + (k : Int), after := g.after } := by unfold S1; rw [set_at _ _ _ _ hpb, if_pos rfl]
  obtain ⟨-, -, -, g3, gf, -, -, -⟩ := R1.sign hg1
  have gf3 := gf (q * 4 + 3)
  obtain ⟨R2, C2⟩ := R1.put (q * 4 + 3) (.int .i64 (-1)) (S' := S2 S p s k q g) (by simp [S2]) ((cs4_set _ q g hg1 (-1)).2.2.2)
  have C2 := (show Hid (Ch B W _) from C1.out.trans C2)
  have hp2 : (S2 S p s k q g)[p]? = some { s with id := 256 + (k : Int), after := g.after } := by unfold S2; rw [set_at _ _ _ _ (by simp [S1]; omega), if_neg (by omega)]; exact hp1
  obtain ⟨-, -, m2, -, -, -, -, -⟩ := R2.sign hp2
  simp only at m2
  have hS2 : (S2 S p s k q g).length = S.length := by simp [S2, S1]
  have R2' := (show Hid (Rw (W1.setCell ⟨gs, q * 4 + 3, none⟩ (.int .i64 (-1))) B rb mb (.slice (some ⟨gs, 0, none⟩) S.length cap) vp K (S2 S p s k q g) L) from R2)
  have HS2 := (show Hid _ from hS2)
  have HP2 := (show Hid _ from hp2)
  have b2 := R2.c1
  -- what is behind
  have rest : ∀ (W3 : World), Rw W3 B rb mb (.slice (some ⟨gs, 0, none⟩) S.length cap) vp K (S3 S p s k q g c) L → Ch B W W3 → Calls Try.prog 98 #[.pointer (some ⟨rb, 0, none⟩), iv p] W3 (AliveOut W3 B rb mb (.slice (some ⟨gs, 0, none⟩) S.length cap) K (S3 S p s k q g c) (ps.eraseIdx (i + 1)) (joinAt ids i k) L (fun x => x = i ∨ x + 1 = i) i) := fun W3 r3 c3 => by
    have := look_alive r3 (Nat.le_trans hB c3.size) hh (by omega) (by rw [S3_len]; exact hn) hK HI.out HSM.out (i := i) (by have := HJ.out.hi; omega)
    rw [HPI.out] at this
    exact this
  have REST := (show Hid _ from rest)
  clear hg1 hp1 gf R1 R2 C1 hp2 hS2 rest
  rcases HJ.out.hc with ⟨ec, ea, h4⟩ | ⟨t, ec, ea, ht, h4⟩
  · rw [ea] at m2
    have c38 := REST.out _ (by rw [ec]; exact R2'.out) C2.out
    have HC2 := C2
    rw [ea]
    clear ea REST
    go_wp2_with (fail)
    go_at_call 98
    refine c38.mono ?_
    rintro e W4 ⟨vp4, S4, L4, rfl, r4, H4, q4, l4, n4, ch4⟩
    have C4 := (show Hid (Ch B W W4) from HC2.out.trans ch4)
    have hi4 : i < (ps.eraseIdx (i + 1)).length := by have := HJ.out.hi; omega
    obtain ⟨s4, z1, -, z3, -⟩ := H4.lk.at' i hi4
    rw [HPI.out] at z1
    obtain ⟨-, y1, -, -, -, -, -, -⟩ := r4.sign z1
    rw [z3] at y1
    have HR4 := (show Hid _ from r4)
    have HH4 := (show Hid (Half K S4 (ps.eraseIdx (i + 1)) (joinAt ids i k) L4 (fun j => (j = i ∨ j + 1 = i) ∧ j ≠ i)) from H4)
    have HQ4 := (show Hid (Heap plt L4) from q4)
    have HN4 := (show Hid (S4.length = S.length) from n4.trans (S3_len _ _ _ _ _ _ _))
    clear r4 H4 q4 n4 ch4 z1 z3 c38 m2 g3 gf3 b2
    rcases i with _ | m
    · have y0 : prevOf (ps.eraseIdx (0 + 1)) 0 = -1 := rfl
      rw [y0] at y1
      clear y0
      go_wp2_with (fail)
      first | go_end0 | refine bodyPost_ret (results_none rfl _ _ _) rfl ?_
      exact ⟨vp4, S4, L4, rfl, HR4.out, HQ4.out, HH4.out.inv (fun j _ hj => hj.2 (by omega)), by omega, HN4.out, C4.out⟩
    · have y0 : prevOf (ps.eraseIdx (m + 1 + 1)) (m + 1) = ((pl (ps.eraseIdx (m + 1 + 1)) m : Nat) : Int) := by
        unfold prevOf
        rw [if_neg (by omega)]
        rfl
      rw [y0] at y1
      clear y0
      have c38 := look_alive HR4.out (Nat.le_trans hB C4.out.size) HQ4.out (by omega) (by rw [HN4.out]; exact hn) hK HH4.out HSM.out (i := m) (by omega)
      have hne : (((pl (ps.eraseIdx (m + 1 + 1)) m : Nat) : Int) != -1) = true := bne_iff_ne.2 (by omega)
      generalize hZ : pl (ps.eraseIdx (m + 1 + 1)) m = z at *
      clear hZ
      go_wp2_with (fail)
      go_at_call 98
      refine c38.mono ?_
      rintro e W5 ⟨vp5, S5, L5, rfl, r5, H5, q5, l5, n5, ch5⟩
      have HF := (show Hid (JoinOut W B rb mb (.slice (some ⟨gs, 0, none⟩) S.length cap) K S ps ids L (m + 1) k (.returned (.tuple #[])) W5) from ⟨vp5, S5, L5, rfl, r5, q5, H5.inv (fun j _ hj => by have := hj.1.1; have := hj.1.2; have := hj.2; omega), by omega, n5.trans HN4.out, C4.out.trans ch5⟩)
      clear r5 H5 q5 l5 n5 ch5 c38
      go_wp2_with (fail)
      first | go_end0 | refine bodyPost_ret (results_none rfl _ _ _) rfl ?_
      exact HF.out
  · have hcb : pl ps (i + 2) < S.length := (List.getElem?_eq_some_iff.1 ht).1
    have hl2 : p < pl ps (i + 2) ∧ q < pl ps (i + 2) := by
      have h0 := HJ.out
      constructor
      · have := HI.out.lk.inc i (i + 1) (by omega) (by omega)
        rw [HPI.out, erase_get, if_neg (by omega)] at this
        exact this
      · exact HQI.out h4
    generalize hCC : pl ps (i + 2) = cc at *
    clear hCC
    have ht2 : (S2 S p s k q g)[cc]? = some t := by unfold S2 S1; rw [set_at _ _ _ _ (by simp; omega), if_neg (by omega), set_at _ _ _ _ hpb, if_neg (by omega)]; exact ht
    obtain ⟨-, t1, -, -, tf, -, c1', c2'⟩ := R2'.out.sign ht2
    have tf1 := tf (cc * 4 + 1)
    obtain ⟨R3, C3⟩ := R2'.out.put (cc * 4 + 1) (.int .i64 (p : Int)) (S' := (S2 S p s k q g).set cc { t with before := (p : Int) }) (by simp) ((cs4_set _ cc t ht2 _).2.1)
    have HC3 := (show Hid (Ch B W ((W1.setCell ⟨gs, q * 4 + 3, none⟩ (.int .i64 (-1))).setCell ⟨gs, cc * 4 + 1, none⟩ (.int .i64 (p : Int))).drew) from (C2.out.trans C3).drewN 1)
    have c38 := REST.out ((W1.setCell ⟨gs, q * 4 + 3, none⟩ (.int .i64 (-1))).setCell ⟨gs, cc * 4 + 1, none⟩ (.int .i64 (p : Int))).drew (by rw [ec]; exact R3.keep (fun _ _ => rfl)) HC3.out
    rw [ea] at m2 ⊢
    have hne : ((cc : Int) != -1) = true := bne_iff_ne.2 (by omega)
    clear ea REST R3 C3 tf ht2 ht
    go_wp2_with (fail)
    go_region
    go_wp2_with (fail)
    go_at_call 98
    refine c38.mono ?_
    rintro e W4 ⟨vp4, S4, L4, rfl, r4, H4, q4, l4, n4, ch4⟩
    have C4 := (show Hid (Ch B W W4) from HC3.out.trans ch4)
    have hi4 : i < (ps.eraseIdx (i + 1)).length := by have := HJ.out.hi; omega
    obtain ⟨s4, z1, -, z3, -⟩ := H4.lk.at' i hi4
    rw [HPI.out] at z1
    obtain ⟨-, y1, -, -, -, -, -, -⟩ := r4.sign z1
    rw [z3] at y1
    have HR4 := (show Hid _ from r4)
    have HH4 := (show Hid (Half K S4 (ps.eraseIdx (i + 1)) (joinAt ids i k) L4 (fun j => (j = i ∨ j + 1 = i) ∧ j ≠ i)) from H4)
    have HQ4 := (show Hid (Heap plt L4) from q4)
    have HN4 := (show Hid (S4.length = S.length) from n4.trans (S3_len _ _ _ _ _ _ _))
    clear r4 H4 q4 n4 ch4 z1 z3 c38 m2 g3 gf3 b2
    rcases i with _ | m
    · have y0 : prevOf (ps.eraseIdx (0 + 1)) 0 = -1 := rfl
      rw [y0] at y1
      clear y0
      go_wp2_with (fail)
      first | go_end0 | refine bodyPost_ret (results_none rfl _ _ _) rfl ?_
      exact ⟨vp4, S4, L4, rfl, HR4.out, HQ4.out, HH4.out.inv (fun j _ hj => hj.2 (by omega)), by omega, HN4.out, C4.out⟩
    · have y0 : prevOf (ps.eraseIdx (m + 1 + 1)) (m + 1) = ((pl (ps.eraseIdx (m + 1 + 1)) m : Nat) : Int) := by
        unfold prevOf
        rw [if_neg (by omega)]
        rfl
      rw [y0] at y1
      clear y0
      have c38 := look_alive HR4.out (Nat.le_trans hB C4.out.size) HQ4.out (by omega) (by rw [HN4.out]; exact hn) hK HH4.out HSM.out (i := m) (by omega)
      have hne : (((pl (ps.eraseIdx (m + 1 + 1)) m : Nat) : Int) != -1) = true := bne_iff_ne.2 (by omega)
      generalize hZ : pl (ps.eraseIdx (m + 1 + 1)) m = z at *
      clear hZ
      go_wp2_with (fail)
      go_at_call 98
      refine c38.mono ?_
      rintro e W5 ⟨vp5, S5, L5, rfl, r5, H5, q5, l5, n5, ch5⟩
      have HF := (show Hid (JoinOut W B rb mb (.slice (some ⟨gs, 0, none⟩) S.length cap) K S ps ids L (m + 1) k (.returned (.tuple #[])) W5) from ⟨vp5, S5, L5, rfl, r5, q5, H5.inv (fun j _ hj => by have := hj.1.1; have := hj.1.2; have := hj.2; omega), by omega, n5.trans HN4.out, C4.out.trans ch5⟩)
      clear r5 H5 q5 l5 n5 ch5 c38
      go_wp2_with (fail)
      first | go_end0 | refine bodyPost_ret (results_none rfl _ _ _) rfl ?_
      exact HF.out
end Go.Proofs.Ytmmlibehihknbaa.en

namespace Go.Proofs.Ytmmlibehihknbaa.en
open Go.ChangeShapes Go.WideShapes Go.ChangeAt Go.RowKit Go.Shelf Go.Maps
open mg (Mg iv OkM I64 below_alloc chain rk nx joinAt joinAt_len joinAt_get app app_some app_none)
open pp (Pr plt Pil cs2)
open hp (RMap Heap Mv own_keep)
set_option linter.unusedVariables false
set_option maxRecDepth 100000

def MergeOut (W : World) (B rb mb : Nat) (vs : Value) (K : List Mg) (S : List Sg) (ids : List Int) (e : Ending) (W' : World) : Prop :=
  ∃ vp' S' ps', e = .returned (.tuple #[]) ∧ Rw W' B rb mb vs vp' K S' [] ∧ Inv K S' ps' (app K ids) [] ∧ S'.length = S.length ∧ Ch B W W'
set_option maxHeartbeats 4000000 in
theorem merge_any {W : World} {B rb mb : Nat} {vs vp : Value} {K : List Mg} {S : List Sg} {L : List Pr} {ps : List Nat} {ids : List Int} (h : Rw W B rb mb vs vp K S L) (hB : B ≤ W.heap.size) (hh : Heap plt L) (hn : S.length ≤ 1000000) (hK : K.length ≤ 1024) (I : Inv K S ps ids L) (hsm : AllSm ids) (hl : L.length + 2 * ps.length ≤ 999000) :
    Calls Try.prog 93 #[.pointer (some ⟨rb, 0, none⟩)] W (MergeOut W B rb mb vs K S ids) := by
  have HR := (show Hid (Rw W B rb mb vs vp K S L) from h)
  have HI := (show Hid (Inv K S ps ids L) from I)
  have HH := (show Hid (Heap plt L) from hh)
  have HS := (show Hid (AllSm ids) from hsm)
  have HL := (show Hid (L.length + 2 * ps.length ≤ 999000) from hl)
  clear h I hh hsm hl
  go_enter Try.func93, Try.ntmps93
  go_wp2_with (fail)
  go_loopg [2] (L.length + 2 * ps.length) (fun k y wr => ∃ (vp' : Value) (S' : List Sg) (L' : List Pr) (ps' : List Nat) (ids' : List Int), Hid (k = L'.length + 2 * ps'.length) ∧ Hid (k ≤ 999000) ∧ Hid (Rw wr B rb mb vs vp' K S' L') ∧ Hid (Inv K S' ps' ids' L') ∧ Hid (Heap plt L') ∧ Hid (AllSm ids') ∧ Hid (app K ids' = app K ids) ∧ Hid (S'.length = S.length) ∧ Hid (Ch B W wr))
  case atStart => exact ⟨vp, S, L, ps, ids, rfl, HL, HR, HI, HH, HS, rfl, rfl, Ch.refl _ _⟩
  case round =>
    clear HR HI HH HS HL
    obtain ⟨vp1, S1, L1, ps1, ids1, HK1, HKL, HR, HI, HH, HS, HA, HN, HC⟩ := hrel
    have hc2 := HR.out.c2
    have c39 := pp.empty_any L1 HR.out.pil
    by_cases hz : L1.length = 0
    · have e : L1 = [] := List.length_eq_zero_iff.1 hz
      rw [decide_eq_true hz] at c39
      have HF := (show Hid (MergeOut W B rb mb vs K S ids (.returned (.tuple #[])) wr) from by
        subst e
        refine ⟨vp1, S1, ps1, rfl, HR.out, ?_, HN.out, HC.out⟩
        rw [← HA.out, app_none HI.out.done]
        exact HI.out)
      clear hz e
      go_wp2_with (go_at_call 99; refine c39.mono ?_; rintro e w' ⟨rfl, h⟩; obtain rfl := h.symm)
      first | go_end0 | refine bodyPost_ret (results_none rfl _ _ _) rfl ?_
      exact HF.out
    · rw [decide_eq_false hz] at c39
      have hlp : 0 < L1.length := by omega
      have hl1 : L1.length ≤ 999000 := by have := HK1.out; have := HKL.out; omega
      have c40 := pp.take_any (by omega) hlp HR.out.pil HH.out
      clear hz
      go_wp2_with (go_at_call 99; refine c39.mono ?_; rintro e w' ⟨rfl, h⟩; obtain rfl := h.symm)
      go_at_call 100
      refine c40.mono ?_
      rintro e w1 ⟨vp2, ⟨r, pz⟩, L2, rfl, t1, t2, t3, t4, t5, t6⟩
      obtain ⟨R2, C2⟩ := HR.out.piled t1 t5
      have hmem : (r, pz) ∈ L1 := t3.symm.subset List.mem_cons_self
      obtain ⟨hr0, p, hp, hpl⟩ := HI.out.pok _ hmem
      simp only at hr0 hp
      subst hp
      obtain ⟨s, hs⟩ : ∃ s, S1[p]? = some s := ⟨_, List.getElem?_eq_getElem hpl⟩
      have bA := below_alloc w1 (.cells #[.int .i64 r, .int .i64 (p : Int)] 165)
      have R3 := R2.later bA
      have hBw : B ≤ w1.heap.size := Nat.le_trans hB (Nat.le_trans HC.out.size C2.size)
      have C3 := (show Hid (Ch B W (w1.alloc (.cells #[.int .i64 r, .int .i64 (p : Int)] 165))) from (HC.out.trans C2).trans (Ch.of_below bA hBw))
      have hbox : (w1.alloc (.cells #[.int .i64 r, .int .i64 (p : Int)] 165)).heap[w1.heap.size]? = some (.cells #[.int .i64 r, .int .i64 (p : Int)] 165 (0, 0)) := World.alloc_heap_new w1 _
      have HR3 := (show Hid _ from R3)
      have HL2 := (show Hid (L1.length = L2.length + 1) from by show _ = _; have := t3.length_eq; simpa using this)
      have HT3 := (show Hid (L1.Perm ((r, (p : Int)) :: L2)) from t3)
      have HT4 := (show Hid (∀ y ∈ L1, plt y (r, (p : Int)) = false) from t4)
      have HT2 := (show Hid (Heap plt L2) from t2)
      have HSS := (show Hid (S1[p]? = some s) from hs)
      have HBOX := (show Hid _ from hbox)
      have HPL := (show Hid (p < S1.length) from hpl)
      have HBW := (show Hid (B ≤ (w1.alloc (.cells #[.int .i64 r, .int .i64 (p : Int)] 165)).heap.size) from Nat.le_trans hB C3.out.size)
      clear c39 c40 t1 t2 t3 t4 t5 t6 R2 C2 hmem hs bA R3 hbox hc2 hBw hpl
      go_wp2_with (fail)
      obtain ⟨xb, HXB⟩ : ∃ xb, Hid (xb = w1.heap.size) := ⟨_, rfl⟩
      rw [← HXB.out] at HBOX ⊢
      generalize w1.alloc (.cells #[.int .i64 r, .int .i64 (p : Int)] 165) = w2 at *
      clear HXB
      obtain ⟨gs, cap, hvs⟩ := HR3.out.full (by have := HPL.out; omega)
      have HVS := (show Hid (vs = .slice (some ⟨gs, 0, none⟩) S1.length cap) from hvs)
      clear hvs
      have x0 : w2.cell? ⟨xb, 0, none⟩ = some (.int .i64 r) := by rw [Lib.cell_of_heap HBOX.out]; rfl
      have x1 : w2.cell? ⟨xb, 1, none⟩ = some (.int .i64 (p : Int)) := by rw [Lib.cell_of_heap HBOX.out]; rfl
      have r1 : w2.cell? ⟨rb, 1, none⟩ = some (.slice (some ⟨gs, 0, none⟩) S1.length cap) := by rw [← HVS.out]; exact HR3.out.c1
      have RR : Rw w2 B rb mb (.slice (some ⟨gs, 0, none⟩) S1.length cap) vp2 K S1 L2 := by rw [← HVS.out]; exact HR3.out
      obtain ⟨-, -, -, k3, -, -, c1, c2⟩ := RR.sign HSS.out
      have hpl := HPL.out
      have hn1 : S1.length ≤ 1000000 := by rw [HN.out]; exact hn
      clear RR
      by_cases he : s.rank = r
      · obtain ⟨i, k, j1, j2, j3, j4, j5⟩ := HI.out.next (HT3.out.symm.subset List.mem_cons_self) HT4.out HSS.out he
        subst j3
        have c41 : ∀ W', W'.heap = w2.heap → W'.os = w2.os → W'.tape = w2.tape → W'.output = w2.output → Calls Try.prog 101 #[.pointer (some ⟨rb, 0, none⟩), iv p] W' (fun e W'' => ∃ vp' S' L', e = .returned (.tuple #[]) ∧ Rw W'' B rb mb vs vp' K S' L' ∧ Heap plt L' ∧ Inv K S' (ps1.eraseIdx (i + 1)) (joinAt ids1 i k) L' ∧ L'.length ≤ L2.length + 2 ∧ S'.length = S1.length ∧ Ch B W W'') := fun W' hW o1 o2 o3 => by
          have := join_any (HR3.out.keep (W' := W') fun x _ => by rw [hW]) (by rw [hW]; exact HBW.out) HT2.out (by have := HL2.out; omega) hn1 hK HI.out HS.out j1 j4 (by rw [j2]; exact HT3.out)
          rw [j2] at this
          refine this.mono ?_
          rintro e W'' ⟨vp', S', L', rfl, a1, a2, a3, a4, a5, a6⟩
          exact ⟨vp', S', L', rfl, a1, a2, a3, a4, a5, Ch.trans ⟨o1.trans C3.out.os, o2.trans C3.out.tape, o3.trans C3.out.output, by rw [hW]; exact C3.out.size, fun x hx => by rw [hW]; exact C3.out.low x hx, fun x ob b0 b1 b2 b3 => by rw [hW]; exact C3.out.oth x ob b0 b1 b2 b3⟩ a6⟩
        have C41 := (show Hid _ from c41)
        have hi2 : i + 1 < ps1.length := by
          apply Classical.byContradiction
          intro hh
          rw [rkI_last (by have := HI.out.lk.len; omega)] at j4
          omega
        have HJ := (show Hid (i + 1 < ps1.length) from hi2)
        have HJ5 := (show Hid (nx K ids1 = some (i, k)) from j5)
        have hk2 : k ≤ 1023 := by
          obtain ⟨q1, q2⟩ := rkI_nat j4 (by omega)
          omega
        rw [he] at k3
        have d1 : ((k : Int) == (k : Int)) = true := beq_self_eq_true _
        clear c41 he j1 j2 j4 j5 hi2
        go_quiet (fail)
        go_wp2_with (fail)
        go_at_call 101
        refine (C41.out _ (by rfl) (by rfl) (by rfl) (by rfl)).mono ?_
        rintro e w3 ⟨vp', S', L', rfl, a1, a2, a3, a4, a5, a6⟩
        have A1 := (show Hid _ from a1)
        have A2 := (show Hid _ from a2)
        have A3 := (show Hid _ from a3)
        have A4 := (show Hid _ from a4)
        have A5 := (show Hid _ from a5)
        have A6 := (show Hid _ from a6)
        clear a1 a2 a3 a4 a5 a6
        go_wp2_with (fail)
        go_roundg (L'.length + 2 * (ps1.eraseIdx (i + 1)).length)
        case rel => exact ⟨vp', S', L', _, _, rfl, by show _ ≤ _; have := HK1.out; have := HKL.out; have := HL2.out; have := A4.out; have := erase_len ps1 (i + 1) HJ.out; omega, A1, A3, A2, HS.out.join (by have := HI.out.lk.len; have := HJ.out; omega) hk2, by show _ = _; rw [← app_some HJ5.out]; exact HA.out, A5.out.trans HN.out, A6⟩
        case measure => have := HK1.out; have := HL2.out; have := A4.out; have := erase_len ps1 (i + 1) HJ.out; omega
      · have HI2 := (show Hid (Inv K S1 ps1 ids1 L2) from HI.out.drop HT3.out HSS.out he)
        have he' : (s.rank == r) = false := by simp [he]
        clear he
        go_quiet (fail)
        go_wp2_with (fail)
        go_roundg (L2.length + 2 * ps1.length)
        case rel => exact ⟨vp2, S1, L2, ps1, ids1, rfl, by show _ ≤ _; have := HK1.out; have := HKL.out; have := HL2.out; omega, HR3.out.keep (fun _ _ => rfl), HI2, HT2, HS, HA, HN, C3.out.drewN _⟩
        case measure => have := HK1.out; have := HL2.out; omega
end Go.Proofs.Ytmmlibehihknbaa.en
