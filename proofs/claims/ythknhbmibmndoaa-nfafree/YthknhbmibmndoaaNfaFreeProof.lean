/-
  For every nfa and every list the law NfaFree of package fretsawlaw07 returns true (nfa.Free tells the states that the document says), and the arguments read as before. No condition.
-/
import Derived.Test.YthknhbmibmndoaaNm
import Derived.Test.YthknhbmibmndoaaNn
import Derived.Test.YthknhbmibmndoaaNo
import Derived.Test.YthknhbmibmndoaaDk
import Derived.WalkKit
import Derived.ProofKit
import Derived.OpenShut
import Derived.ChangeOld
import Derived.SizedLaws
import Derived.Below
namespace Go.Proofs.Ythknhbmibmndoaa.nfaFree
open Go.ChangeShapes Go.WideShapes Go.ChangeAt Go.RowKit
open Go.ChangeMaps (open_string shut_string)
open nf (Nfa Ed Eds nfaV Box IsFree IsMarks)
open df (Row iv In IntsV Owns)
set_option linter.unusedVariables false

theorem own : ownKnob Try.prog.godebug = none := by kernel_rfl
theorem laidOut : laidOutB Try.prog = true := by kernel_rfl

/-- the states that are marked, rising -/
def listOf (M : List Int) (i : Nat) : List Int := ((List.range i).filter fun j => decide (M[j]? = some 1)).map fun j : Nat => (j : Int)
theorem listOf_zero (M : List Int) : listOf M 0 = [] := rfl
theorem listOf_yes (M : List Int) (i : Nat) (h : M[i]? = some 1) : listOf M (i + 1) = listOf M i ++ [(i : Int)] := by
  unfold listOf
  rw [List.range_succ, List.filter_append, List.map_append]
  simp [h]
theorem listOf_no (M : List Int) (i : Nat) (h : M[i]? ≠ some 1) : listOf M (i + 1) = listOf M i := by
  unfold listOf
  rw [List.range_succ, List.filter_append, List.map_append]
  simp [h]
theorem listOf_len (M : List Int) (i : Nat) : (listOf M i).length ≤ i := by
  unfold listOf
  rw [List.length_map]
  exact Nat.le_trans (List.length_filter_le _ _) (by simp)
theorem free_of {x : Nfa} {n : Nat} (R : nf.Rt x n) {l M : List Int} (h : IsMarks x n (fun s => s ∈ l ∧ 0 ≤ s ∧ s < x.n) M) : IsFree x l (listOf M n) := by
  have hl := h.base.len
  refine ⟨?_, fun t => ?_⟩
  · unfold listOf
    rw [List.pairwise_map]
    exact (List.pairwise_lt_range.filter _).imp (fun h => by omega)
  · unfold listOf
    simp only [List.mem_map, List.mem_filter, List.mem_range, decide_eq_true_eq]
    constructor
    · rintro ⟨j, ⟨h1, h2⟩, rfl⟩
      rw [List.getElem?_eq_getElem (by omega)] at h2
      exact h.base.reach j (by omega) (by simpa using h2)
    · intro hr
      have hrange : 0 ≤ t ∧ t < (n : Int) := hr.least (Q := fun t => 0 ≤ t ∧ t < (n : Int)) (fun s hs => ⟨hs.2.1, by rw [← R.hx]; exact hs.2.2⟩) (fun e he _ _ => R.to e he)
      obtain ⟨j, rfl⟩ : ∃ j : Nat, t = (j : Int) := ⟨t.toNat, by omega⟩
      refine ⟨j, ⟨by omega, ?_⟩, rfl⟩
      rw [List.getElem?_eq_getElem (by omega), h.all j (by omega) hr]
set_option maxHeartbeats 4000000 in
set_option maxRecDepth 100000 in
theorem walk_no {x : Nfa} {o : Option Addr} {cap : Nat} {w : World} (hE : Eds w o cap x.edges ∧ ∀ e ∈ x.edges, nf.Fits e) {l : List Int} {lo : Option Addr} {lcap : Nat} (hL : Row (In w) w iv lo lcap l) (hr : nf.right x = false) :
    Calls Try.prog 4 #[nfaV x.n x.s x.e o x.edges.length cap, .slice lo l.length lcap] w fun e w' => e = .returned (.bool true) ∧ Below w.heap.size w w' := by
  have B1 := nf.below_alloc w (.cells #[.int .i64 x.n, .int .i64 x.s, .int .i64 x.e, .slice o x.edges.length cap] 24)
  have b0 := nf.box_new w x.n x.s x.e o x.edges.length cap
  obtain ⟨w1, hw1⟩ : ∃ w1, w1 = w.alloc (.cells #[.int .i64 x.n, .int .i64 x.s, .int .i64 x.e, .slice o x.edges.length cap] 24) := ⟨_, rfl⟩
  rw [← hw1] at B1 b0
  have E1 := hE.1.later B1
  have L1 : Row (In w1) w1 iv lo lcap l := hL.carry (fun k hk => B1.block k hk) (fun k hk => Nat.lt_of_lt_of_le hk B1.size)
  have h12 := nf.free_no x l hr o cap lo lcap w1 E1 L1
  have h10 := fun W => nf.rright_any x false hr.symm o cap W
  go_enter Try.func4, Try.ntmps4
  go_wp2_with (first | (go_at_call 12; rw [← hw1]; refine h12.mono ?_; rintro e w2 ⟨v, rfl, ⟨vo, vc, rfl, hv⟩, b2⟩; have x2 := b0.later b2; have d0 := x2.c0; have d1 := x2.c1; have d2 := x2.c2; have d3 := x2.c3) | (go_at_call 10; refine (h10 _ (E1.later b2)).mono ?_; rintro e w3 ⟨rfl, b3⟩))
  go_ret
  exact ⟨rfl, nf.chain (nf.chain B1 b2) b3⟩
set_option maxHeartbeats 4000000 in
set_option maxRecDepth 100000 in
theorem walk_yes {x : Nfa} {o : Option Addr} {cap : Nat} {w : World} (hE : Eds w o cap x.edges ∧ ∀ e ∈ x.edges, nf.Fits e) {l : List Int} {lo : Option Addr} {lcap : Nat} (hL : Row (In w) w iv lo lcap l) (hr : nf.right x = true) :
    Calls Try.prog 4 #[nfaV x.n x.s x.e o x.edges.length cap, .slice lo l.length lcap] w fun e w' => e = .returned (.bool true) ∧ Below w.heap.size w w' := by
  obtain ⟨n, R⟩ := nf.rt_of x hr
  have hcap := hE.1.fit
  have htop := hE.1.top
  have B1 := nf.below_alloc w (.cells #[.int .i64 x.n, .int .i64 x.s, .int .i64 x.e, .slice o x.edges.length cap] 24)
  have b0 := nf.box_new w x.n x.s x.e o x.edges.length cap
  obtain ⟨w1, hw1⟩ : ∃ w1, w1 = w.alloc (.cells #[.int .i64 x.n, .int .i64 x.s, .int .i64 x.e, .slice o x.edges.length cap] 24) := ⟨_, rfl⟩
  rw [← hw1] at B1 b0
  have E1 := hE.1.later B1
  have L1 : Row (In w1) w1 iv lo lcap l := hL.carry (fun k hk => B1.block k hk) (fun k hk => Nat.lt_of_lt_of_le hk B1.size)
  have hex : ∃ M, IsMarks x n (fun s => s ∈ l ∧ 0 ≤ s ∧ s < x.n) M := by
    classical
    refine ⟨(List.range n).map fun i : Nat => if nf.Reach x (fun s => s ∈ l ∧ 0 ≤ s ∧ s < x.n) (i : Int) then 1 else 0, ⟨by simp, fun i hi => ?_, fun i hi h1 => ?_⟩, fun i hi h1 => ?_⟩
    · rw [List.getElem_map, List.getElem_range]
      split
      · exact .inr rfl
      · exact .inl rfl
    · rw [List.getElem_map, List.getElem_range] at h1
      split at h1
      · assumption
      · cases h1
    · rw [List.getElem_map, List.getElem_range, if_pos h1]
  obtain ⟨M0, hM0⟩ := hex
  have hF0 := free_of R hM0
  have h12 := nf.free_yes x n R l hr _ hF0 o cap lo lcap w1 E1 L1
  have h10 := fun W => nf.rright_any x true hr.symm o cap W
  have h13 := fun W => nf.few_any x.n x.s x.e o x.edges.length cap W hcap htop
  have h14 := fun W => nf.marks_any x n R l o cap lo lcap W
  have hf0 := listOf_len M0 n
  generalize listOf M0 n = full at *
  have hn2 := R.n2
  cases hfew : (decide (x.n ≤ 60) && decide ((x.edges.length : Int) ≤ 200)) with
  | false =>
    rw [hfew] at h13
    go_enter Try.func4, Try.ntmps4
    go_wp2_with (first | (go_at_call 12; rw [← hw1]; refine h12.mono ?_; rintro e w2 ⟨v, rfl, ⟨vo, vc, rfl, hv⟩, b2⟩; have x2 := b0.later b2; have d0 := x2.c0; have d1 := x2.c1; have d2 := x2.c2; have d3 := x2.c3) | (go_at_call 10; refine (h10 _ (E1.later b2)).mono ?_; rintro e w3 ⟨rfl, b3⟩; have x3 := x2.later b3; have g0 := x3.c0; have g1 := x3.c1; have g2 := x3.c2; have g3 := x3.c3) | (go_at_call 13; refine (h13 _).mono ?_; rintro e w4 ⟨rfl, b4⟩))
    go_ret
    exact ⟨rfl, nf.chain (nf.chain (nf.chain B1 b2) b3) b4⟩
  | true =>
    rw [hfew] at h13
    clear hfew
    go_enter Try.func4, Try.ntmps4
    go_wp2_with (first | (go_at_call 12; rw [← hw1]; refine h12.mono ?_; rintro e w2 ⟨v, rfl, ⟨vo, vc, rfl, hv⟩, b2⟩; have x2 := b0.later b2; have d0 := x2.c0; have d1 := x2.c1; have d2 := x2.c2; have d3 := x2.c3; have L2 : Row (In w2) w2 iv lo lcap l := L1.carry (fun k hk => b2.block k hk) (fun k hk => Nat.lt_of_lt_of_le hk b2.size)) | (go_at_call 10; refine (h10 _ (E1.later b2)).mono ?_; rintro e w3 ⟨rfl, b3⟩; have x3 := x2.later b3; have g0 := x3.c0; have g1 := x3.c1; have g2 := x3.c2; have g3 := x3.c3; have L3 : Row (In w3) w3 iv lo lcap l := L2.carry (fun k hk => b3.block k hk) (fun k hk => Nat.lt_of_lt_of_le hk b3.size)) | (go_at_call 13; refine (h13 _).mono ?_; rintro e w4 ⟨rfl, b4⟩; have x4 := x3.later b4; have i0 := x4.c0; have i1 := x4.c1; have i2 := x4.c2; have i3 := x4.c3; have L4 : Row (In w4) w4 iv lo lcap l := L3.carry (fun k hk => b4.block k hk) (fun k hk => Nat.lt_of_lt_of_le hk b4.size)) | (go_at_call 14; refine (h14 _ (((E1.later b2).later b3).later b4) L4).mono ?_; rintro e w5 ⟨g, M, rfl, hI, hM, hg, b5⟩))
    have hlM := hM.base.len
    have HF : Hid (full = listOf M n) := by
      have h1 := free_of R hM
      exact nf.up_eq _ _ hF0.up h1.up (fun t => by rw [hF0.mem t, h1.mem t])
    have V5 : IntsV w5 (.slice vo full.length vc) full := df.IntsV.later (df.IntsV.later (df.IntsV.later ⟨vo, vc, rfl, hv⟩ b3) b4) b5
    have B5 := nf.chain (nf.chain (nf.chain (nf.chain B1 b2) b3) b4) b5
    have h15 := df.ints_any full full true (by simp)
    unfold df.IntsIs at h15
    clear h12 h10 h13 h14 d0 d1 d2 d3 g0 g1 g2 g3 i0 i1 i2 i3 b2 b3 b4 b5 hF0 hM0
    go_loopw [6, 25] (fun v y wr => ∃ i : Nat, y = .int .i64 i ∧ i ≤ n ∧ Owns wr w5.heap.size v (listOf M i) ∧ Below w5.heap.size w5 wr) (fun _ y _ => n - (intOf y).toNat)
    case atStart => exact ⟨0, rfl, by omega, by rw [listOf_zero]; exact World.ownsRow_nil _ _ _ _, Below.refl _ _⟩
    case round =>
      obtain ⟨i, rfl, hi, hrow, hBr⟩ := hrel
      have hll := listOf_len M i
      obtain ⟨gv, cv, rfl⟩ := df.own_slice hrow
      by_cases hlt : i < n
      · have q1 := (hI.later hBr).cell i (by omega)
        have htwo := hM.base.two i (by omega)
        have hyes := listOf_yes M i
        have hno := listOf_no M i
        rw [List.getElem?_eq_getElem (by omega)] at hyes hno
        have hrow0 := hrow
        rcases htwo with t | t
        · rw [t] at q1 hno
          have HN : Hid (listOf M (i + 1) = listOf M i) := hno (by simp)
          clear hyes hno t
          go_wp2_with (fail)
          go_roundw
          case rel => exact ⟨i + 1, by go_num, by omega, by rw [HN.out]; exact hrow, hBr⟩
          case measure => simp [intOf]; omega
        · rw [t] at q1 hyes
          have HN : Hid (listOf M (i + 1) = listOf M i ++ [(i : Int)]) := hyes rfl
          clear hyes hno t
          generalize listOf M i = L at *
          go_wp2_with (at_builtin; refine df.wpList_append_int rfl _ _ rfl w5.heap.size _ L (i : Int) wr.heap.size rfl rfl (hrow.alloc _) (by simp) (by omega) (by have := hBr.size; simp; omega) ?_; intro g' cap' w6 hown6 hgr6; clear hrow)
          go_roundw
          case rel => exact ⟨i + 1, by go_num, by omega, by rw [HN.out]; simpa using hown6, (hBr.alloc hBr.size _).grown hgr6 (by have := hBr.size; simp; omega) (df.own_ge hrow0)⟩
          case measure => simp [intOf]; omega
      · have e : i = n := by omega
        have hw6 : IntsV wr (.slice gv full.length cv) full := by
          have := df.ints_of_owns hrow
          rw [e, ← HF.out] at this
          exact this
        have hlen : (listOf M i).length = full.length := by rw [e, HF.out]
        rw [hlen]
        clear hrow hll hlen e
        go_wp2_with (go_at_call 15; refine (h15 _ _ _ (V5.later hBr) hw6).mono ?_; rintro e w7 ⟨rfl, b7⟩)
        go_ret
        exact ⟨rfl, nf.chain (nf.chain B5 hBr) b7⟩
theorem walk {x : Nfa} {o : Option Addr} {cap : Nat} {w : World} (hE : Eds w o cap x.edges ∧ ∀ e ∈ x.edges, nf.Fits e) {l : List Int} {lo : Option Addr} {lcap : Nat} (hL : Row (In w) w iv lo lcap l) (w0 : World) (hw0 : w0 = w := by rfl) :
    Calls Try.prog 4 #[nfaV x.n x.s x.e o x.edges.length cap, .slice lo l.length lcap] w0 fun e w' => e = .returned (.bool true) ∧ Below w0.heap.size w0 w' := by
  subst hw0
  cases hr : nf.right x with
  | false => exact walk_no hE hL hr
  | true => exact walk_yes hE hL hr

set_option maxRecDepth 100000 in
theorem lifted (os : Os) (started : os.Started) (H : Type) (enc : TypeId × Value → H) :
    ReturnsInHanded {} Try.checked os 4 .any (Rows.nfaFreeSpec.pre6 enc Try.prog Try.f4 Rows.nfaFreeRow.domain false) (Rows.nfaFreeSpec.post enc Try.prog Try.f4 false true false false) := by
  refine returnsInHanded_of_change_sized (C := Try.checked) own started (by kernel_rfl) Try.func4
    (ChangeSpec.witness6 (enc := enc) (C := Try.checked) false ⟨#[], #[.agg #[.int .i64 0, .int .i64 0, .int .i64 0, .slice none 0 0], .slice none 0 0], []⟩ 8 (by kernel_rfl) (by kernel_rfl) (by kernel_rfl) (by kernel_rfl)) ?_
  intro W base args ds gs before hval0 hW hcnd hsz0 _
  have hsz : (DataW.weightsEach Try.prog (Try.f4.params.toList ++ Rows.nfaFreeSpec.plain.varTypes Try.prog) (ds ++ gs)).all (· ≤ reachBytes) = true := hsz0
  have hval : ∀ (j : Nat) t v, Try.f4.params[j]? = some t → args[j]? = some v → Value.okWide Try.prog W .any base t v := hval0
  have hW' := hW
  obtain ⟨p, q, hA0, hV, rfl, hfz, hnd⟩ := hW
  have hA : DataW.TrodAll enc Try.prog W 0 (fun _ => true) true Try.f4.params.toList args.toList ds p := hA0
  rw [Try.params4] at hA hval hsz
  obtain ⟨v0, vs0, d0, ds0, p0, q0, hargs, rfl, rfl, h0, r0⟩ := trodAll_cons hA
  obtain ⟨v1, vs1, d1, ds1, p1, q1, rfl, rfl, rfl, h1, r1⟩ := trodAll_cons r0
  obtain ⟨rfl, rfl, rfl⟩ := trodAll_nil r1
  obtain rfl : args = #[v0, v1] := by cases args; simp_all
  obtain ⟨rfl, rfl⟩ := trodVars_none hV
  have k0 := h0
  have lt0 : ∀ x ∈ p0, x.block < W.heap.size := by obtain ⟨m, hm⟩ := k0; exact DataW.trod_lt m _ _ _ hm
  obtain ⟨e0, o0, cap0, rfl, F0⟩ := nf.open24 (hval 0 24 v0 rfl rfl) h0
  have k1 := h1
  have lt1 : ∀ x ∈ p1, x.block < W.heap.size := by obtain ⟨m, hm⟩ := k1; exact DataW.trod_lt m _ _ _ hm
  obtain ⟨o1, cap1, l1, rfl, F1⟩ := df.openInts (hval 1 25 v1 rfl rfl) h1
  clear hA0 hval0
  refine (walk F0 F1 W).mono fun e W' ⟨he, bel⟩ => ?_
  subst he
  exact ⟨_, rfl, _, _, _, [], _, [], hW', trodAll_mk1 (shut_bool Try.underlying4 _), (trodAll_cons_mk (Below.trod laidOut (by kernel_rfl) (of_decide_eq_true (by kernel_rfl)) k0 bel lt0) (trodAll_cons_mk (Below.trod laidOut (by kernel_rfl) (of_decide_eq_true (by kernel_rfl)) k1 bel lt1) trodAll_mk0)), rfl, bel.frame _, fun h => by cases h⟩

theorem over : Rows.nfaFreeRow.holds Try.pinned (OpenSpec.ofChange Rows.nfaFreeSpec) :=
  OpenClaim.holds_of_wide 4 Try.f4 rfl rfl rfl rfl rfl rfl rfl ⟨rfl, rfl, rfl, rfl, rfl⟩ rfl rfl rfl rfl rfl (by kernel_rfl) Try.func4 (by kernel_rfl)
    (of_decide_eq_true (by kernel_rfl)) (by unfold Func.isWrapper; first | (rw [if_pos (by decide +kernel)]; kernel_rfl) | (rw [if_neg (by decide +kernel)]; exact ⟨rfl, rfl⟩))
    (fun os started H enc _ => lifted os started H enc)

theorem proved : Rows.NfaFreeSaid :=
  over
#print axioms proved
end Go.Proofs.Ythknhbmibmndoaa.nfaFree
