/-
  For every text, any two bytes and every set the law SetMakes of package fretsawlaw05 returns true (set.Of, set.Range, set.Bytes, set.Count and set.Has tell what the document says), and the arguments read as before. No condition.
-/
import Derived.Test.YtfpihoghpogblaaRows
import Derived.Test.YtfpihoghpogblaaRef
import Derived.Test.YtfpihoghpogblaaEq
import Derived.WalkKit
import Derived.ProofKit
import Derived.OpenShut
import Derived.ChangeOld
import Derived.SizedLaws
import Derived.ShutString
import Derived.Deep.RegionHeld3
import Derived.Below
namespace Go.Proofs.Ytfpihoghpogblaa.setMakes
open Go.ChangeShapes Go.WideShapes Go.ChangeAt Go.RowKit
open Go.ChangeMaps (open_string shut_string)
set_option linter.unusedVariables false

theorem own : ownKnob Try.prog.godebug = none := by kernel_rfl
theorem laidOut : laidOutB Try.prog = true := by kernel_rfl

theorem one_all {g : Nat} {a : st.Q4} {W : World} (ba : st.Blk W g a) : W.cell? ⟨g, 0, none⟩ = some (.int .u64 a.a) ∧ W.cell? ⟨g, 1, none⟩ = some (.int .u64 a.b) ∧ W.cell? ⟨g, 2, none⟩ = some (.int .u64 a.c) ∧ W.cell? ⟨g, 3, none⟩ = some (.int .u64 a.d) ∧ st.Blk W g a := ⟨ba.c0, ba.c1, ba.c2, ba.c3, ba⟩
theorem one_next {g : Nat} {a : st.Q4} {W W' : World} (hh : W.cell? ⟨g, 0, none⟩ = some (.int .u64 a.a) ∧ W.cell? ⟨g, 1, none⟩ = some (.int .u64 a.b) ∧ W.cell? ⟨g, 2, none⟩ = some (.int .u64 a.c) ∧ W.cell? ⟨g, 3, none⟩ = some (.int .u64 a.d) ∧ st.Blk W g a) (l : Below W.heap.size W W') : W'.cell? ⟨g, 0, none⟩ = some (.int .u64 a.a) ∧ W'.cell? ⟨g, 1, none⟩ = some (.int .u64 a.b) ∧ W'.cell? ⟨g, 2, none⟩ = some (.int .u64 a.c) ∧ W'.cell? ⟨g, 3, none⟩ = some (.int .u64 a.d) ∧ st.Blk W' g a := one_all (hh.2.2.2.2.later l)

set_option maxHeartbeats 4000000 in
set_option maxRecDepth 100000 in
theorem walk (s : ByteArray) (lo hi : Int) (a : st.Q4) (hs : s.size ≤ 140737488351232) (wl : (Lit.int .u8 lo).wf = true) (wh : (Lit.int .u8 hi).wf = true) (ha : st.Fits a) (w : World) :
    Calls Try.prog 3 #[.string s, .int .u8 lo, .int .u8 hi, .agg #[.int .u64 a.a, .int .u64 a.b, .int .u64 a.c, .int .u64 a.d]] w fun e w' => e = .returned (.bool true) ∧ Below w.heap.size w w' := by
  obtain ⟨l0, l1⟩ := st.u8_range wl
  obtain ⟨m0, m1⟩ := st.u8_range wh
  obtain ⟨x, rfl⟩ := Int.eq_ofNat_of_zero_le l0
  obtain ⟨y, rfl⟩ := Int.eq_ofNat_of_zero_le m0
  have e23 := st.eq23
  have h8 := st.of_any s (by omega) _ rfl
  have h9 := st.rof_any s (by omega) _ rfl
  have h10 := st.range_any x y (by omega) (by omega) _ rfl
  have h11 := st.rrange_any x y (by omega) (by omega) _ rfl
  have h12 := st.bytes_any a ha _ rfl
  have h13 := st.rbytes_any a ha _ rfl
  have h14 := st.count_any a (st.text a).size ha (st.text_size a)
  have h15 := st.has_any a ha x (by omega) _ rfl
  have h16 := st.rhas_any a ha x (by omega) _ rfl
  generalize st.ofl (st.codes s) = q1 at *
  generalize st.rng x y = q2 at *
  generalize st.text a = t at *
  generalize st.has a x = r at *
  clear wl wh l0 l1 m0 m1 hs
  obtain ⟨w0, hw0⟩ : ∃ w0, w0 = w.alloc (.cells #[.int .u64 a.a, .int .u64 a.b, .int .u64 a.c, .int .u64 a.d] 25) := ⟨_, rfl⟩
  have hB : Below w.heap.size w w0 := by rw [hw0]; exact (Below.refl _ _).alloc (Nat.le_refl _) _
  have ba : st.Blk w0 w.heap.size a := by rw [hw0]; exact st.blk_new w a
  have hS := one_all ba
  go_enter Try.func3, Try.ntmps3
  go_wp2
  rw [← hw0]
  clear hw0 ba
  go_region_held3 (fun W => W.cell? ⟨w.heap.size, 0, none⟩ = some (.int .u64 a.a) ∧ W.cell? ⟨w.heap.size, 1, none⟩ = some (.int .u64 a.b) ∧ W.cell? ⟨w.heap.size, 2, none⟩ = some (.int .u64 a.c) ∧ W.cell? ⟨w.heap.size, 3, none⟩ = some (.int .u64 a.d) ∧ st.Blk W w.heap.size a) (first | assumption | exact hS | exact one_next (by assumption) (by assumption)) (first | (go_at_call 8; refine (h8 _).mono ?_; rintro e w1 ⟨rfl, b1⟩; replace hB := st.chain hB.drew b1) | (go_at_call 9; refine (h9 _).mono ?_; rintro e w2 ⟨rfl, b2⟩; replace hB := st.chain hB b2) | (go_at_call 10; refine (h10 _).mono ?_; rintro e w3 ⟨rfl, b3⟩; replace hB := st.chain hB b3) | (go_at_call 11; refine (h11 _).mono ?_; rintro e w4 ⟨rfl, b4⟩; replace hB := st.chain hB b4) | (go_at_call 12; refine (h12 _).mono ?_; rintro e w5 ⟨rfl, b5⟩; replace hB := st.chain hB b5) | (go_at_call 13; refine (h13 _).mono ?_; rintro e w6 ⟨rfl, b6⟩; replace hB := st.chain hB b6) | (go_at_call 14; refine (h14 _).mono ?_; rintro e w7 ⟨rfl, b7⟩; replace hB := st.chain hB b7) | (go_at_call 15; refine (h15 _).mono ?_; rintro e w8 ⟨rfl, b8⟩; replace hB := st.chain hB b8) | (go_at_call 16; refine (h16 _).mono ?_; rintro e w9 ⟨rfl, b9⟩; replace hB := st.chain hB b9))
  go_wp2
  go_ret
  exact ⟨rfl, hB⟩

set_option maxRecDepth 100000 in
theorem lifted (os : Os) (started : os.Started) (H : Type) (enc : TypeId × Value → H) :
    ReturnsInHanded {} Try.checked os 3 .any (Rows.setMakesSpec.pre6 enc Try.prog Try.f3 Rows.setMakesRow.domain false) (Rows.setMakesSpec.post enc Try.prog Try.f3 false true false false) := by
  refine returnsInHanded_of_change_sized (C := Try.checked) own started (by kernel_rfl) Try.func3
    (ChangeSpec.witness6 (enc := enc) (C := Try.checked) false ⟨#[], #[.string ByteArray.empty, .int .u8 0, .int .u8 0, .agg #[.int .u64 0, .int .u64 0, .int .u64 0, .int .u64 0]], []⟩ 8 (by kernel_rfl) (by kernel_rfl) (by kernel_rfl) (by kernel_rfl)) ?_
  intro W base args ds gs before hval0 hW hcnd hsz0 _
  have hsz : (DataW.weightsEach Try.prog (Try.f3.params.toList ++ Rows.setMakesSpec.plain.varTypes Try.prog) (ds ++ gs)).all (· ≤ reachBytes) = true := hsz0
  have hval : ∀ (j : Nat) t v, Try.f3.params[j]? = some t → args[j]? = some v → Value.okWide Try.prog W .any base t v := hval0
  have hW' := hW
  obtain ⟨p, q, hA0, hV, rfl, hfz, hnd⟩ := hW
  have hA : DataW.TrodAll enc Try.prog W 0 (fun _ => true) true Try.f3.params.toList args.toList ds p := hA0
  rw [Try.params3] at hA hval hsz
  obtain ⟨v0, vs0, d0, ds0, p0, q0, hargs, rfl, rfl, h0, r0⟩ := trodAll_cons hA
  obtain ⟨v1, vs1, d1, ds1, p1, q1, rfl, rfl, rfl, h1, r1⟩ := trodAll_cons r0
  obtain ⟨v2, vs2, d2, ds2, p2, q2, rfl, rfl, rfl, h2, r2⟩ := trodAll_cons r1
  obtain ⟨v3, vs3, d3, ds3, p3, q3, rfl, rfl, rfl, h3, r3⟩ := trodAll_cons r2
  obtain ⟨rfl, rfl, rfl⟩ := trodAll_nil r3
  obtain rfl : args = #[v0, v1, v2, v3] := by cases args; simp_all
  obtain ⟨rfl, rfl⟩ := trodVars_none hV
  obtain ⟨a0, rfl, rfl, rfl, w0⟩ := open_string Try.underlying9 (hval 0 9 v0 rfl rfl) h0
  have z0 : a0.size ≤ 140737488351232 := by
    have := sized_string hsz (j := 0) (t := 9) rfl rfl
    simpa [reachBytes] using this
  obtain ⟨a1, rfl, rfl, rfl, w1⟩ := open_int Try.underlying5 (hval 1 5 v1 rfl rfl) h1
  obtain ⟨a2, rfl, rfl, rfl, w2⟩ := open_int Try.underlying5 (hval 2 5 v2 rfl rfl) h2
  have k3 := h3
  have lt3 : ∀ x ∈ p3, x.block < W.heap.size := by obtain ⟨m, hm⟩ := k3; exact DataW.trod_lt m _ _ _ hm
  obtain ⟨a3, f3, rfl⟩ := st.open25 (hval 3 25 v3 rfl rfl) h3
  clear hA0 hval0
  refine (walk a0 a1 a2 a3 z0 w1 w2 f3 W).mono fun e W' ⟨he, bel⟩ => ?_
  subst he
  exact ⟨_, rfl, _, _, _, [], _, [], hW', trodAll_mk1 (shut_bool Try.underlying4 _), (trodAll_cons_mk (shut_string Try.underlying9 w0) (trodAll_cons_mk (shut_int Try.underlying5 w1) (trodAll_cons_mk (shut_int Try.underlying5 w2) (trodAll_cons_mk (Below.trod laidOut (by kernel_rfl) (of_decide_eq_true (by kernel_rfl)) k3 bel lt3) trodAll_mk0)))), rfl, bel.frame _, fun h => by cases h⟩

theorem over : Rows.setMakesRow.holds Try.pinned (OpenSpec.ofChange Rows.setMakesSpec) :=
  OpenClaim.holds_of_wide 3 Try.f3 rfl rfl rfl rfl rfl rfl rfl ⟨rfl, rfl, rfl, rfl, rfl⟩ rfl rfl rfl rfl rfl (by kernel_rfl) Try.func3 (by kernel_rfl)
    (of_decide_eq_true (by kernel_rfl)) (by unfold Func.isWrapper; first | (rw [if_pos (by decide +kernel)]; kernel_rfl) | (rw [if_neg (by decide +kernel)]; exact ⟨rfl, rfl⟩))
    (fun os started H enc _ => lifted os started H enc)

theorem proved : Rows.SetMakesSaid :=
  over
#print axioms proved
end Go.Proofs.Ytfpihoghpogblaa.setMakes
