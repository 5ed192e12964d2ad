/-
  Contracts over this program: the ids of a text (Engine.Tokens).
-/
import Derived.Test.YthcekfmodmnekaaEj
namespace Go.Proofs.Ythcekfmodmnekaa.en
open Go.ChangeShapes Go.WideShapes Go.ChangeAt Go.RowKit Go.MuLone
open mg (Mg iv below_alloc chain app idsOf idsOf_len IntsV RowV)
open pp (Pr plt)
open hp (RMap Heap own_keep ecells muLib)
set_option linter.unusedVariables false
set_option maxRecDepth 100000

/-- below B nothing changes but one block -/
structure EB (B eb : Nat) (W W' : World) : Prop where
  os : W'.os = W.os
  tape : W'.tape = W.tape
  output : W'.output = W.output
  size : W.heap.size ≤ W'.heap.size
  oth : ∀ k, k < B → k ≠ eb → W'.heap[k]? = W.heap[k]?
theorem EB.trans {B eb : Nat} {W W1 W2 : World} (h : EB B eb W W1) (k : EB B eb W1 W2) : EB B eb W W2 := ⟨k.os.trans h.os, k.tape.trans h.tape, k.output.trans h.output, Nat.le_trans h.size k.size, fun x hx hne => (k.oth x hx hne).trans (h.oth x hx hne)⟩
theorem EB.below {B B' eb : Nat} {W W' : World} (h : EB B eb W W') (h1 : B' ≤ B) (h2 : B' ≤ eb) : Below B' W W' := ⟨h.os, h.tape, h.output, h.size, fun k hk => h.oth k (by omega) (by omega)⟩
theorem EB.of_below {B eb : Nat} {W W' : World} (h : Below B W W') : EB B eb W W' := ⟨h.os, h.tape, h.output, h.size, fun k hk _ => h.block k hk⟩
/-- an engine, between two calls -/
def Eng (W : World) (B eb mb : Nat) (K : List Mg) : Prop := ∃ sp, W.heap[eb]? = some (.cells (ecells mb sp) 60 (0, 0)) ∧ RMap W mb K ∧ (sp = .pointer none ∨ ∃ rb vs vp S, sp = .pointer (some ⟨rb, 0, none⟩) ∧ Rw W B rb mb vs vp K S [])
theorem Eng.later {W W' : World} {B eb mb : Nat} {K : List Mg} (h : Eng W B eb mb K) (b : Below W.heap.size W W') : Eng W' B eb mb K := by
  obtain ⟨sp, h1, h2, h4⟩ := h
  refine ⟨sp, (b.block eb (Array.getElem?_eq_some_iff.1 h1).1).trans h1, h2.keep (b.block mb h2.lt), ?_⟩
  rcases h4 with h4 | ⟨rb, vs, vp, S, e, r⟩
  · exact .inl h4
  · exact .inr ⟨rb, vs, vp, S, e, r.later b⟩
theorem lend_any {W : World} {B eb mb : Nat} {K : List Mg} (h : Eng W B eb mb K) (hB : B ≤ W.heap.size) : Calls Try.prog 24 #[.pointer (some ⟨eb, 0, none⟩)] W (LendOut B eb mb K W) := by
  obtain ⟨sp, h1, h2, h4⟩ := h
  rcases h4 with rfl | ⟨rb, vs, vp, S, rfl, r⟩
  · exact lend_new h1 h2 hB
  · exact lend_old h1 r
def TokOut (B eb mb : Nat) (K : List Mg) (s : ByteArray) (W : World) (e : Ending) (W' : World) : Prop :=
  ∃ v, e = .returned (.tuple #[v, .int .i64 0]) ∧ W'.ownsRow B 3 1 v (app K (idsOf s)).length ((app K (idsOf s)).map iv) ∧ Eng W' B eb mb K ∧ EB B eb W W' ∧ (∀ (k : Nat) (cs : Array Value) (fr : Nat × Nat), W.heap[k]? = some (Obj.cells cs 3 fr) → W'.heap[k]? = some (Obj.cells cs 3 fr))
theorem own_base {W : World} {B B' e sz n : Nat} {v : Value} {xs : List Value} (h : W.ownsRow B e sz v n xs) (hb : B' ≤ B) : W.ownsRow B' e sz v n xs := by
  refine ⟨h.1, ?_⟩
  rcases h.2 with h0 | ⟨g, cap, cur, rfl, h1, hr⟩
  · exact .inl h0
  · exact .inr ⟨g, cap, cur, rfl, Nat.le_trans hb h1, hr⟩
set_option maxHeartbeats 4000000 in
theorem tokens_any {W : World} {B eb mb : Nat} {K : List Mg} (h : Eng W B eb mb K) (hB : B ≤ W.heap.size) (hK : K.length ≤ 1024) (s : ByteArray) (hs : s.size ≤ 262144) :
    Calls Try.prog 12 #[.pointer (some ⟨eb, 0, none⟩), .string s] W (TokOut B eb mb K s W) := by
  have c24 := lend_any h hB
  obtain ⟨sp0, hb0, -, -⟩ := h
  have hel := (Array.getElem?_eq_some_iff.1 hb0).1
  have HB0 := (show Hid (W.heap[eb]? = some (.cells (ecells mb sp0) 60 (0, 0))) from hb0)
  clear hb0
  go_enter_defers Try.func12, Try.ntmps12
  go_wp2_with (fail)
  go_at_call 24
  refine c24.mono ?_
  rintro e w1 ⟨rb, vs, vp, S, rfl, R1, e1, ec1⟩
  have c26 := fill_any R1 (Nat.le_trans hB ec1.size) hK s (by omega)
  have E1 := (show Hid (w1.heap[eb]? = some (.cells (ecells mb (.pointer none)) 60 (0, 0))) from e1)
  have EC1 := (show Hid (ECh eb W w1) from ec1)
  clear c24 R1 e1 ec1
  go_wp2_with (fail)
  go_at_call 26
  refine c26.mono ?_
  rintro e w2 ⟨vs2, vp2, S2, L2, rfl, R2, I2, P2, l2, n2, ch2⟩
  have c27 := merge_any R2 (Nat.le_trans hB (Nat.le_trans EC1.out.size ch2.size)) P2 (by omega) hK I2 (allSm s) (by rw [List.length_range]; omega)
  have CH2 := (show Hid (Ch B w1 w2) from ch2)
  have N2 := (show Hid (S2.length = s.size) from n2)
  clear c26 R2 I2 P2 l2 n2 ch2
  go_wp2_with (fail)
  go_at_call 27
  refine c27.mono ?_
  rintro e w3 ⟨vp3, S3, ps3, rfl, R3, I3, n3, ch3⟩
  have hlen3 := I3.lk.len
  have hpl3 : ps3.length ≤ S3.length := by
    have := mg.app_len K (idsOf s)
    rw [idsOf_len] at this
    have := N2.out
    omega
  have c28 := ids_any R3 (by have := N2.out; omega) I3.lk I3.first (fun h0 => by
    have := app_pos K (idsOf s) (by rw [idsOf_len]; have := N2.out; omega)
    omega) hpl3
  have CH3 := (show Hid (Ch B w2 w3) from ch3)
  have R3' := (show Hid _ from R3)
  clear c27 R3 I3 n3 ch3 hlen3 hpl3
  go_wp2_with (fail)
  go_at_call 28
  refine c28.mono ?_
  rintro e w4 ⟨v4, rfl, o4, b4⟩
  have E4 : w4.heap[eb]? = some (.cells (ecells mb (.pointer none)) 60 (0, 0)) := by
    have q1 := (CH2.out.trans CH3.out).oth eb _ E1.out (fun _ _ e => by cases e) (fun _ _ e => by cases e) (fun _ _ e => by cases e)
    exact (b4.block eb (Array.getElem?_eq_some_iff.1 q1).1).trans q1
  have R4 := R3'.out.later b4
  have HF := (show Hid (∀ W', W'.heap[eb]? = some (.cells (ecells mb (.pointer (some ⟨rb, 0, none⟩))) 60 (0, 0)) → ECh eb w4 W' → TokOut B eb mb K s W (.returned (.tuple #[v4, .int .i64 0])) W') from by
    intro W' h1 h2
    have hw3 : B ≤ w3.heap.size := Nat.le_trans hB (Nat.le_trans EC1.out.size (Nat.le_trans CH2.out.size CH3.out.size))
    have heb3 : eb < w3.heap.size := Nat.lt_of_lt_of_le hel (Nat.le_trans EC1.out.size (Nat.le_trans CH2.out.size CH3.out.size))
    have chw := CH2.out.trans CH3.out
    refine ⟨v4, rfl, own_base (own_keep o4 fun g eg => h2.oth g (o4.lt g eg).2 (fun e => by have := (o4.lt g eg).1; omega)) hw3, ⟨_, h1, (R4.keepE E4 h2).map, .inr ⟨rb, vs2, vp3, S3, rfl, R4.keepE E4 h2⟩⟩, ?_, fun k cs fr hk => ?_⟩
    · have b1 : EB B eb W w1 := ⟨EC1.out.os, EC1.out.tape, EC1.out.output, EC1.out.size, fun k hk hne => EC1.out.oth k (by omega) hne⟩
      have b5 : EB B eb w4 W' := ⟨h2.os, h2.tape, h2.output, h2.size, fun k hk hne => h2.oth k (Nat.lt_of_lt_of_le (Nat.lt_of_lt_of_le hk hw3) b4.size) hne⟩
      exact (b1.trans (EB.of_below (chw.below.trans (b4.mono hw3)))).trans b5
    · have hkl := (Array.getElem?_eq_some_iff.1 hk).1
      have hke : k ≠ eb := fun e => by subst e; rw [HB0.out] at hk; cases hk
      have k1 := (EC1.out.oth k hkl hke).trans hk
      have k2 := chw.oth k _ k1 (fun _ _ e => by cases e) (fun _ _ e => by cases e) (fun _ _ e => by cases e)
      have k4 := (b4.block k (Array.getElem?_eq_some_iff.1 k2).1).trans k2
      exact (h2.oth k (Array.getElem?_eq_some_iff.1 k4).1 hke).trans k4)
  have HE4 := (show Hid _ from E4)
  clear c28 o4 b4 R3' R4 E4
  go_wp2_with (fail)
  refine leaves_cons (f := 25) (args := #[.pointer (some ⟨eb, 0, none⟩), .pointer (some ⟨rb, 0, none⟩)]) (by simp) (by simp [go_sem]) ?_
  refine (back_any (rb := rb) .returning HE4.out).mono ?_
  rintro e u' w5 ⟨rfl, rfl, h1, h2⟩
  refine ⟨_, results_tmp2 rfl _ _ _, ?_⟩
  exact HF.out w5 h1 h2
end Go.Proofs.Ythcekfmodmnekaa.en
