/-
  For every nfa the law DfaBuilds of package fretsawlaw08 returns true (a dfa is built as long as no more than 400 sets of states are reached, and only then), and the argument reads as before. No condition.
-/
import Derived.Test.YthknhbmibmndoaaKCb
import Derived.Test.YthknhbmibmndoaaKCe
import Derived.Test.YthknhbmibmndoaaKNo
import Derived.WalkKit
import Derived.ProofKit
import Derived.OpenShut
import Derived.ChangeOld
import Derived.SizedLaws
import Derived.Below
namespace Go.Proofs.Ythknhbmibmndoaa.dfaBuilds
open Go.ChangeShapes Go.WideShapes Go.ChangeAt Go.RowKit
open Go.ChangeMaps (open_string shut_string)
open nf (Nfa Ed Eds nfaV Box Rt IRow)
open df (Row iv In IntsV Owns DAt DBox)
open bd (z37 z37_size zero37 Built RSet Nums)
set_option linter.unusedVariables false

theorem own : ownKnob Try.prog.godebug = none := by kernel_rfl
theorem laidOut : laidOutB Try.prog = true := by kernel_rfl
theorem few_any (n s e : Int) (o : Option Addr) (m cap : Nat) (w : World) (hc : m ≤ cap) (ht : cap ≤ 9223372036854775807) : Calls Try.prog 27 #[nfaV n s e o m cap] w fun e w' => e = .returned (.bool (decide (n ≤ 40) && decide ((m : Int) ≤ 120))) ∧ Below w.heap.size w w' := by
  by_cases h1 : n ≤ 40
  · have f1 : decide (n ≤ 40) = true := decide_eq_true h1
    rw [f1, Bool.true_and]
    clear h1
    go_enter Try.func27, Try.ntmps27
    go_wp2
    go_ret
    exact ⟨rfl, nf.below_alloc _ _⟩
  · have f1 : decide (n ≤ 40) = false := decide_eq_false h1
    rw [f1, Bool.false_and]
    clear h1
    go_enter Try.func27, Try.ntmps27
    go_wp2
    go_ret
    exact ⟨rfl, nf.below_alloc _ _⟩
theorem put37 (w : World) (cs : Array Value) (hs : cs.size = 258) : Below w.heap.size w ((w.alloc (.cells z37 37)).setRow w.heap.size cs) := below_setRow (nf.below_alloc _ _) (Nat.le_refl _) _
theorem one_of {P : Nat → Prop} {w : World} {d : df.Dfa} {cs : Array Value} {o ao : Option Addr} {cap acap : Nat} (h : DAt P w d cs o cap ao acap) : cs.all (·.oneCell') = true := by
  rw [Array.all_eq_true]
  intro i hi
  have hs := h.size
  have hv : cs[i]? = some cs[i] := Array.getElem?_eq_getElem hi
  by_cases h1 : i < 256
  · have := h.cl i h1
    rw [hv] at this
    rw [Option.some.inj this]; rfl
  · by_cases h2 : i = 256
    · subst h2
      have := h.nx
      rw [hv] at this
      rw [Option.some.inj this]; rfl
    · have h3 : i = 257 := by omega
      subst h3
      have := h.ac
      rw [hv] at this
      rw [Option.some.inj this]; rfl
theorem more_of {x : Nfa} {n : Nat} {L M : List (List Bool)} {r : Nat} (hN : Nums x n L) (h4 : 400 < L.length) (h : r = 401 ∧ 401 ≤ M.length ∨ r = M.length ∧ ∀ σ, RSet x n σ → σ ∈ M) : 400 < r := by
  rcases h with ⟨rfl, _⟩ | ⟨rfl, h⟩
  · omega
  · have := bd.few_of hN.nd (fun σ hσ => h σ (by obtain ⟨k, hk⟩ := List.getElem?_of_mem hσ; exact hN.reached k σ hk))
    omega
theorem less_of {x : Nfa} {n : Nat} {ls : List Nat} {L M : List (List Bool)} {d : df.Dfa} {r : Nat} (hB : Built x n ls L d) (h4 : L.length ≤ 400) (hd : M.Nodup) (hs : ∀ σ ∈ M, RSet x n σ) (h : r = 401 ∧ 401 ≤ M.length ∨ r = M.length ∧ ∀ σ, RSet x n σ → σ ∈ M) : r ≤ 400 := by
  have := bd.few_of hd (fun σ hσ => hB.closed (hs σ hσ))
  omega
set_option maxHeartbeats 4000000 in
set_option maxRecDepth 100000 in
theorem walk {x : Nfa} {o : Option Addr} {cap : Nat} {w : World} (hE : Eds w o cap x.edges ∧ ∀ e ∈ x.edges, nf.Fits e) (w0 : World) (hw0 : w0 = w := by rfl) :
    Calls Try.prog 8 #[nfaV x.n x.s x.e o x.edges.length cap] w0 fun e w' => e = .returned (.bool true) ∧ Below w0.heap.size w0 w' := by
  subst hw0
  have hz := zero37
  have hcap := hE.1.fit
  have htop := hE.1.top
  obtain ⟨w1, HW1⟩ : ∃ w1, Hid (w1 = w0.alloc (.cells #[.int .i64 x.n, .int .i64 x.s, .int .i64 x.e, .slice o x.edges.length cap] 24)) := ⟨_, rfl⟩
  have HB1 := (show Hid (Below w0.heap.size w0 w1) from by show Below _ _ _; rw [HW1.out]; exact nf.below_alloc _ _)
  have HX1 := (show Hid (Box w1 w0.heap.size x.n x.s x.e o x.edges.length cap) from by show Box _ _ _ _ _ _ _ _; rw [HW1.out]; exact nf.box_new w0 _ _ _ _ _ _)
  have HXL := (show Hid (∀ w', Below w1.heap.size w1 w' → Box w' w0.heap.size x.n x.s x.e o x.edges.length cap) from fun w' b => HX1.out.later b)
  have h10 := nf.rright_any x _ rfl o cap w1 (hE.1.later HB1.out)
  have H27 := (show Hid (∀ W, Below w1.heap.size w1 W → Calls Try.prog 27 #[nfaV x.n x.s x.e o x.edges.length cap] W fun e w' => e = .returned (.bool (decide (x.n ≤ 40) && decide ((x.edges.length : Int) ≤ 120))) ∧ Below w1.heap.size w1 w') from fun W h => (few_any x.n x.s x.e o x.edges.length cap W hcap htop).mono fun e w' ⟨h1, h2⟩ => ⟨h1, df.chain h h2⟩)
  cases hr : nf.right x with
  | false =>
    rw [hr] at h10
    clear hE hr
    go_enter Try.func8, Try.ntmps8
    go_wp2_with (go_at_call 10; rw [← HW1.out]; refine h10.mono ?_; rintro ev w2 ⟨rfl, b2⟩)
    go_ret
    exact ⟨rfl, st.chain HB1.out b2⟩
  | true =>
    rw [hr] at h10
    obtain ⟨n, R1⟩ := nf.rt_of x hr
    obtain ⟨e, hxe⟩ : ∃ e : Nat, x.e = (e : Int) := ⟨x.e.toNat, by have := R1.e; omega⟩
    have H25 := (show Hid (∀ W, Below w1.heap.size w1 W → bd.YesIs x n o cap W) from fun W h => bd.build_yes x n e R1 hr hE.2 hxe o cap W (hE.1.later (st.chain HB1.out h)))
    have H28 := (show Hid (∀ W, Below w1.heap.size w1 W → Calls Try.prog 28 #[nfaV x.n x.s x.e o x.edges.length cap, .int .i64 401] W fun e w' => ∃ (r : Nat) (L : List (List Bool)), e = .returned (.int .i64 (r : Int)) ∧ L.Nodup ∧ (∀ σ ∈ L, RSet x n σ) ∧ (r = 401 ∧ 401 ≤ L.length ∨ r = L.length ∧ ∀ σ, RSet x n σ → σ ∈ L) ∧ Below W.heap.size W w') from fun W h => bd.sets_any x n R1 hE.2 o cap W (hE.1.later (st.chain HB1.out h)))
    unfold bd.YesIs at H25
    clear hE hr R1 hxe
    cases hfew : (decide (x.n ≤ 40) && decide ((x.edges.length : Int) ≤ 120)) with
    | false =>
      rw [hfew] at H27
      clear hfew
      go_enter Try.func8, Try.ntmps8
      go_wp2_with (first | (go_at_call 10; rw [← HW1.out]; refine h10.mono ?_; rintro ev w2 ⟨rfl, b2⟩; have q0 := (HXL.out w2 b2).c0; have q1 := (HXL.out w2 b2).c1; have q2 := (HXL.out w2 b2).c2; have q3 := (HXL.out w2 b2).c3; have h27 := H27.out w2 b2) | (go_at_call 27; refine h27.mono ?_; rintro ev w3 ⟨rfl, b3⟩))
      go_ret
      exact ⟨rfl, st.chain HB1.out b3⟩
    | true =>
      rw [hfew] at H27
      clear hfew
      by_cases h14 : 14 < x.n
      · have f1 : decide (14 < x.n) = true := decide_eq_true h14
        clear h14
        go_enter Try.func8, Try.ntmps8
        go_wp2_with (first | (go_at_call 10; rw [← HW1.out]; refine h10.mono ?_; rintro ev w2 ⟨rfl, b2⟩; have q0 := (HXL.out w2 b2).c0; have q1 := (HXL.out w2 b2).c1; have q2 := (HXL.out w2 b2).c2; have q3 := (HXL.out w2 b2).c3; have h27 := H27.out w2 b2) | (go_at_call 27; refine h27.mono ?_; rintro ev w3 ⟨rfl, b3⟩; have y0 := (HXL.out w3 b3).c0))
        go_ret
        exact ⟨rfl, st.chain HB1.out b3⟩
      · have f1 : decide (14 < x.n) = false := decide_eq_false h14
        clear h14
        go_enter Try.func8, Try.ntmps8
        go_wp2_with (first | (go_at_call 10; rw [← HW1.out]; refine h10.mono ?_; rintro ev w2 ⟨rfl, b2⟩; have q0 := (HXL.out w2 b2).c0; have q1 := (HXL.out w2 b2).c1; have q2 := (HXL.out w2 b2).c2; have q3 := (HXL.out w2 b2).c3; have h27 := H27.out w2 b2; clear b2) | (go_at_call 27; refine h27.mono ?_; rintro ev w3 ⟨rfl, b3⟩; have y0 := (HXL.out w3 b3).c0; have y1 := (HXL.out w3 b3).c1; have y2 := (HXL.out w3 b3).c2; have y3 := (HXL.out w3 b3).c3; have HB3 := (show Hid _ from b3); clear b3))
        go_at_call 25
        refine (H25.out w3 HB3.out).mono ?_
        rintro ev w4 ⟨b4, ⟨rfl, L, hN, hL⟩ | ⟨L, d, cs, od, dcap, ao, acap, rfl, hB, hL, hD⟩⟩
        · obtain ⟨w5, hw5⟩ : ∃ w5, w5 = (w4.alloc (.cells z37 37)).setRow w4.heap.size z37 := ⟨_, rfl⟩
          have b5 : Below w1.heap.size w1 w5 := by rw [hw5]; exact st.chain HB3.out (st.chain b4 (put37 w4 z37 z37_size))
          have z0 := (HXL.out w5 b5).c0
          have z1 := (HXL.out w5 b5).c1
          have z2 := (HXL.out w5 b5).c2
          have z3 := (HXL.out w5 b5).c3
          have h28 := H28.out w5 b5
          have HMO := (show Hid (∀ (r : Nat) (M : List (List Bool)), (r = 401 ∧ 401 ≤ M.length ∨ r = M.length ∧ ∀ σ, RSet x n σ → σ ∈ M) → 400 < r) from fun r M h => more_of hN hL h)
          have HW5 := (show Hid _ from hw5)
          have HB5 := (show Hid _ from b5)
          clear hN hL b4 hw5 b5
          go_wp2_with (first | (refine wpList_store_row (by rfl) 37 (.tmp 3) (.tmp 21) (by rfl) w4.heap.size z37 (by rfl) (by rfl) 37 z37 (heap_alloc_new w4 _) (df.info37 _ z37_size) rfl bd.one37 ?_; rw [← HW5.out]) | (go_at_call 28; refine h28.mono ?_; rintro ev w6 ⟨r, M, rfl, hnd, hrs, hor, b6⟩; have hr4 := HMO.out r M hor; have HB6 := (show Hid _ from b6); clear hnd hrs hor b6))
          go_ret
          have e4 : decide ((r : Int) ≤ 400) = false := decide_eq_false (by omega)
          exact ⟨by show Ending.returned (.bool (!decide ((r : Int) ≤ 400))) = _; rw [e4]; rfl, st.chain HB1.out (st.chain HB5.out HB6.out)⟩
        · have hcs := hD.size
          have hone := one_of hD
          obtain ⟨w5, hw5⟩ : ∃ w5, w5 = (w4.alloc (.cells z37 37)).setRow w4.heap.size cs := ⟨_, rfl⟩
          have b5 : Below w1.heap.size w1 w5 := by rw [hw5]; exact st.chain HB3.out (st.chain b4 (put37 w4 cs hcs))
          have z0 := (HXL.out w5 b5).c0
          have z1 := (HXL.out w5 b5).c1
          have z2 := (HXL.out w5 b5).c2
          have z3 := (HXL.out w5 b5).c3
          have h28 := H28.out w5 b5
          have HLE := (show Hid (∀ (r : Nat) (M : List (List Bool)), M.Nodup → (∀ σ ∈ M, RSet x n σ) → (r = 401 ∧ 401 ≤ M.length ∨ r = M.length ∧ ∀ σ, RSet x n σ → σ ∈ M) → r ≤ 400) from fun r M h1 h2 h => less_of hB hL h1 h2 h)
          have HW5 := (show Hid _ from hw5)
          have HB5 := (show Hid _ from b5)
          clear hB hL b4 hw5 b5 hD
          go_wp2_with (first | (refine wpList_store_row (by rfl) 37 (.tmp 3) (.tmp 21) (by rfl) w4.heap.size cs (by rfl) (by rfl) 37 z37 (heap_alloc_new w4 _) (df.info37 _ hcs) (by rw [z37_size, hcs]) hone ?_; rw [← HW5.out]) | (go_at_call 28; refine h28.mono ?_; rintro ev w6 ⟨r, M, rfl, hnd, hrs, hor, b6⟩; have hr4 := HLE.out r M hnd hrs hor; have HB6 := (show Hid _ from b6); clear hnd hrs hor b6))
          go_ret
          have e4 : decide ((r : Int) ≤ 400) = true := decide_eq_true (by omega)
          exact ⟨by show Ending.returned (.bool (decide ((r : Int) ≤ 400))) = _; rw [e4], st.chain HB1.out (st.chain HB5.out HB6.out)⟩

set_option maxRecDepth 100000 in
theorem lifted (os : Os) (started : os.Started) (H : Type) (enc : TypeId × Value → H) :
    ReturnsInHanded {} Try.checked os 8 .any (Rows.dfaBuildsSpec.pre6 enc Try.prog Try.f8 Rows.dfaBuildsRow.domain false) (Rows.dfaBuildsSpec.post enc Try.prog Try.f8 false true false false) := by
  refine returnsInHanded_of_change_sized (C := Try.checked) own started (by kernel_rfl) Try.func8
    (ChangeSpec.witness6 (enc := enc) (C := Try.checked) false ⟨#[], #[.agg #[.int .i64 0, .int .i64 0, .int .i64 0, .slice none 0 0]], []⟩ 8 (by kernel_rfl) (by kernel_rfl) (by kernel_rfl) (by kernel_rfl)) ?_
  intro W base args ds gs before hval0 hW hcnd hsz0 _
  have hsz : (DataW.weightsEach Try.prog (Try.f8.params.toList ++ Rows.dfaBuildsSpec.plain.varTypes Try.prog) (ds ++ gs)).all (· ≤ reachBytes) = true := hsz0
  have hval : ∀ (j : Nat) t v, Try.f8.params[j]? = some t → args[j]? = some v → Value.okWide Try.prog W .any base t v := hval0
  have hW' := hW
  obtain ⟨p, q, hA0, hV, rfl, hfz, hnd⟩ := hW
  have hA : DataW.TrodAll enc Try.prog W 0 (fun _ => true) true Try.f8.params.toList args.toList ds p := hA0
  rw [Try.params8] at hA hval hsz
  obtain ⟨v0, vs0, d0, ds0, p0, q0, hargs, rfl, rfl, h0, r0⟩ := trodAll_cons hA
  obtain ⟨rfl, rfl, rfl⟩ := trodAll_nil r0
  obtain rfl : args = #[v0] := by cases args; simp_all
  obtain ⟨rfl, rfl⟩ := trodVars_none hV
  have k0 := h0
  have lt0 : ∀ x ∈ p0, x.block < W.heap.size := by obtain ⟨m, hm⟩ := k0; exact DataW.trod_lt m _ _ _ hm
  obtain ⟨e0, o0, cap0, rfl, F0⟩ := nf.open24 (hval 0 24 v0 rfl rfl) h0
  clear hA0 hval0
  refine (walk F0 W).mono fun e W' ⟨he, bel⟩ => ?_
  subst he
  exact ⟨_, rfl, _, _, _, [], _, [], hW', trodAll_mk1 (shut_bool Try.underlying4 _), (trodAll_cons_mk (Below.trod laidOut (by kernel_rfl) (of_decide_eq_true (by kernel_rfl)) k0 bel lt0) trodAll_mk0), rfl, bel.frame _, fun h => by cases h⟩

theorem over : Rows.dfaBuildsRow.holds Try.pinned (OpenSpec.ofChange Rows.dfaBuildsSpec) :=
  OpenClaim.holds_of_wide 8 Try.f8 rfl rfl rfl rfl rfl rfl rfl ⟨rfl, rfl, rfl, rfl, rfl⟩ rfl rfl rfl rfl rfl (by kernel_rfl) Try.func8 (by kernel_rfl)
    (of_decide_eq_true (by kernel_rfl)) (by unfold Func.isWrapper; first | (rw [if_pos (by decide +kernel)]; kernel_rfl) | (rw [if_neg (by decide +kernel)]; exact ⟨rfl, rfl⟩))
    (fun os started H enc _ => lifted os started H enc)

theorem proved : Rows.DfaBuildsSaid :=
  over
#print axioms proved
end Go.Proofs.Ythknhbmibmndoaa.dfaBuilds
