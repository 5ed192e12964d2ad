/-
  Texts put together: Contracts over this program: where what an nfa takes may end (nfa.Ends). What an nfa takes: the lists that there are. Plain mathematics: what the nfa of an expression takes is what the expression takes; how large an expression is, and that one that is not too large is laid whole.
-/
import Derived.Test.YtfilndgbgdnpiaaM08
import Derived.Deep.RegionWith
import Derived.Test.YtfilndgbgdnpiaaM09
namespace Go.Proofs.Ytfilndgbgdnpiaa.nf
open Go.RowKit Go.Shelf
set_option linter.unusedVariables false
open df (Kp Owns Row iv In IntsV)

theorem same_below (A : World) {W W' : World} (b : Below W.heap.size W W') (h1 : W.heap = A.heap) (h2 : W.os = A.os) (h3 : W.tape = A.tape) (h4 : W.output = A.output) : Below A.heap.size A W' :=
  ⟨b.os.trans h2, b.tape.trans h3, b.output.trans h4, h1 ▸ b.size, fun k hk => (b.block k (h1 ▸ hk)).trans (by rw [h1])⟩
def dOf (s : ByteArray) (i : Nat) : Nat := if h : i < s.size then s[i].toNat else 0
theorem dOf_eq (s : ByteArray) (i : Nat) (h : i < s.size) : dOf s i = s[i].toNat := dif_pos h
def EnIs (f : Nat) (x : Nfa) (s : ByteArray) (at' : Int) (L : List Int) : Prop := ∀ o cap w, Eds w o cap x.edges → Calls Try.prog f #[nfaV x.n x.s x.e o x.edges.length cap, .string s, .int .i64 at'] w fun e w' => ∃ v, e = .returned v ∧ IntsV w' v L ∧ Below w.heap.size w w'
set_option maxHeartbeats 1000000 in
theorem ends_no (x : Nfa) (s : ByteArray) (at' : Int) (hs : s.size ≤ 1000000) (h : ¬ (right x = true ∧ 0 ≤ at' ∧ at' ≤ s.size)) : EnIs 12 x s at' [] := by
  intro o cap w hE
  have b0 := box_new w x.n x.s x.e o x.edges.length cap
  have B1 := below_alloc w (.cells #[.int .i64 x.n, .int .i64 x.s, .int .i64 x.e, .slice o x.edges.length cap] 31)
  have d0 := b0.c0
  have d1 := b0.c1
  have d2 := b0.c2
  have d3 := b0.c3
  cases hr : right x with
  | false =>
    have r1 := right_any x false hr.symm o cap _ (hE.later B1)
    clear h hr
    go_enter Try.func12, Try.ntmps12
    go_wp2_with (go_at_call 30; refine r1.mono ?_; rintro e w2 ⟨rfl, b2⟩)
    go_ret
    exact ⟨_, rfl, ⟨none, 0, rfl, ⟨Nat.le_refl _, by omega, fun i hi => by simp at hi⟩⟩, chain B1 b2⟩
  | true =>
    have r1 := right_any x true hr.symm o cap _ (hE.later B1)
    by_cases ha : 0 ≤ at'
    · have hc : ¬ at' ≤ (s.size : Int) := fun hc => h ⟨hr, ha, hc⟩
      clear h hr
      go_enter Try.func12, Try.ntmps12
      go_wp2_with (go_at_call 30; refine r1.mono ?_; rintro e w2 ⟨rfl, b2⟩)
      go_ret
      exact ⟨_, rfl, ⟨none, 0, rfl, ⟨Nat.le_refl _, by omega, fun i hi => by simp at hi⟩⟩, chain B1 b2⟩
    · clear h hr
      go_enter Try.func12, Try.ntmps12
      go_wp2_with (go_at_call 30; refine r1.mono ?_; rintro e w2 ⟨rfl, b2⟩)
      go_ret
      exact ⟨_, rfl, ⟨none, 0, rfl, ⟨Nat.le_refl _, by omega, fun i hi => by simp at hi⟩⟩, chain B1 b2⟩
structure Head (x : Nfa) (n : Nat) (s : ByteArray) (at' N : Nat) (w4 W : World) (c1 s1 c2 s2 t : Nat) (v : Value) (l es : List Int) (k : Nat) : Prop where
  pr : Pair (fun b => b < N) W N c1 s1 c2 s2 n l l [] [] v es
  ba : ∀ u, u ∈ l ↔ Base x (dOf s) at' k u
  so : SoFar x (dOf s) at' k es
  be : Below N w4 W
  tk : t = at' + k
theorem base_next {x : Nfa} {s : ByteArray} {at' k t : Nat} {l' : List Int} (htk : t = at' + k) (ht : t < s.size) (hmem : ∀ u, u ∈ l' ↔ Reach x (Base x (dOf s) at' k) u) (u : Int) : u ∈ (stepL x.edges s[t].toNat l' ([], [])).1 ↔ Base x (dOf s) at' (k + 1) u := by
  refine ((stepL_mem x.edges s[t].toNat l' ([], []) rfl).2 u).trans ?_
  show _ ↔ Over x (dOf s (at' + k)) _ u
  rw [← htk, dOf_eq s t ht]
  constructor
  · rintro (h | ⟨e, a, b, c, d, f⟩)
    · simp at h
    · exact ⟨e, a, b, c, d, (hmem _).1 f⟩
  · rintro ⟨e, a, b, c, d, f⟩
    exact .inr ⟨e, a, b, c, d, (hmem _).2 f⟩
theorem runs_eq {x : Nfa} {d : Nat → Nat} {at' len : Nat} {L M : List Int} (h : IsRuns x d at' len L) (k : IsRuns x d at' len M) : L = M := up_eq L M h.up k.up (fun t => (h.mem t).trans (k.mem t).symm)
theorem all_cell {X : Nat → Prop} {W : World} {B c1 s1 c2 s2 n : Nat} {l1 q1 l2 q2 : List Int} {v : Value} {es : List Int} (h : Pair X W B c1 s1 c2 s2 n l1 q1 l2 q2 v es) : ∃ ga ca, W.cell? ⟨c1, 1, none⟩ = some (.slice ga l1.length ca) ∧ l1.length ≤ ca ∧ ca ≤ 9223372036854775807 ∧ W.cell? ⟨c1, 0, none⟩ = some (.slice (some ⟨s1, 0, none⟩) n n) ∧ ∀ e, e < n → W.cell? ⟨s1, e, none⟩ = some (.bool (decide ((e : Int) ∈ l1))) := by
  obtain ⟨m1, a1, w1, m2, a2, w2, k1, k2, h1, h2⟩ := h.lie
  obtain ⟨ga, ca, rfl⟩ := df.own_slice k1.all
  obtain ⟨_, e2, e3⟩ := own_cap k1.all
  refine ⟨ga, ca, k1.c1, e2, e3, k1.c0, fun e he => ?_⟩
  have hl := k1.ml
  have := k1.seen.cell e (by omega)
  have g := h1.ok e he
  rw [List.getElem?_eq_getElem (by omega)] at g
  rw [this, Option.some.inj g]
theorem Pair.size {X : Nat → Prop} {W : World} {B c1 s1 c2 s2 n : Nat} {l1 q1 l2 q2 : List Int} {v : Value} {es : List Int} (h : Pair X W B c1 s1 c2 s2 n l1 q1 l2 q2 v es) : B ≤ W.heap.size := by
  obtain ⟨m1, a1, w1, m2, a2, w2, k1, k2, h1, h2⟩ := h.lie
  exact k1.size
set_option maxHeartbeats 4000000 in
set_option maxRecDepth 100000 in
theorem ends_yes (x : Nfa) (n : Nat) (R : Rt x n) (hfit : ∀ e ∈ x.edges, Fits e) (s : ByteArray) (at' : Nat) (hs : s.size ≤ 100000) (hat : at' ≤ s.size) (h : right x = true) (L : List Int) (hL0 : IsRuns x (dOf s) at' s.size L) : EnIs 12 x s at' L := by
  intro o cap w hE
  have hcap := hE.fit
  have htop := hE.top
  have h11 := right_any x true h.symm o cap
  have h30 := new_any n R.n2 x.s x.e o x.edges.length cap
  have h29 := weave_any x n R.hx R.n2 R.m (fun i hi => R.fr _ (List.getElem_mem hi)) o cap
  have hx := R.hx
  have hn1 := R.n1
  have hn2 := R.n2
  have hm := R.m
  rw [hx] at h11 h29 ⊢
  have b0 := box_new w (n : Int) x.s x.e o x.edges.length cap
  have B1 := below_alloc w (.cells #[.int .i64 (n : Int), .int .i64 x.s, .int .i64 x.e, .slice o x.edges.length cap] 31)
  obtain ⟨w1, hw1⟩ : ∃ w1, w1 = w.alloc (.cells #[.int .i64 (n : Int), .int .i64 x.s, .int .i64 x.e, .slice o x.edges.length cap] 31) := ⟨_, rfl⟩
  rw [← hw1] at b0 B1
  have r1 := h11 w1 (hE.later B1)
  have HE := (show Hid (Eds w o cap x.edges) from hE)
  clear hE h11 h
  go_enter Try.func12, Try.ntmps12
  go_wp2_with (first | (go_at_call 30; rw [← hw1]; refine r1.mono ?_; rintro e w2 ⟨rfl, b2⟩; have x2 := b0.later b2; have d0 := x2.c0; have d1 := x2.c1; have d2 := x2.c2; have d3 := x2.c3; have E2 := eds_keep HE.out (fun b hb => (b2.block b (Nat.lt_of_lt_of_le hb B1.size)).trans (B1.block b hb)) (Nat.le_trans B1.size b2.size)) | (go_at_call 31; refine (h29 w2 E2).mono ?_; rintro e w3 ⟨fb, nb, rfl, rf, rn, hfn, hf3, hn3, b3⟩))
  rename_i K hK
  obtain ⟨w4, hw4⟩ : ∃ w4, w4 = w3.alloc (.cells #[.slice o x.edges.length cap, .slice (some ⟨fb, 0, none⟩) n n, .slice (some ⟨nb, 0, none⟩) x.edges.length x.edges.length] 70) := ⟨_, rfl⟩
  have b4 : Below w3.heap.size w3 w4 := by rw [hw4]; exact below_alloc _ _
  have q4 : WBox w4 w3.heap.size o x.edges.length cap n fb nb := by rw [hw4]; exact World.alloc_heap_new w3 _
  have x4 := (x2.later b3).later b4
  have s4 : w4.heap.size = w3.heap.size + 1 := by rw [hw4]; simp
  have B24 : Below w2.heap.size w2 w4 := chain b3 b4
  have B04 : Below w.heap.size w w4 := chain (chain B1 b2) B24
  have l3 := b3.size
  have l1 := (chain B1 b2).size
  have HV4 : Hid (WebAt (fun b => b < w4.heap.size) w4 x.edges n o cap fb nb) := by
    have E4 := eds_keep HE.out B04.block B04.size
    have rf4 := (b4.block fb rf.lt).trans rf
    have rn4 := (b4.block nb rn.lt).trans rn
    exact ⟨E4.fit, E4.top, E4.lie, rf4, rn4, IRow.lt rf4, IRow.lt rn4, fun _ h => h⟩
  have d40 := x4.c0
  have d41 := x4.c1
  have d42 := x4.c2
  have d43 := x4.c3
  rw [← hw4]
  have key : ∀ c1 s1 c2 s2 W, Pair (fun b => b < w4.heap.size) W w4.heap.size c1 s1 c2 s2 n [] [] [] [] (.slice none 0 0) [] → Below w4.heap.size w4 W → K { tmps := #[nfaV (n : Int) x.s x.e o x.edges.length cap, .string s, .int .i64 (at' : Int), .pointer (some ⟨w.heap.size, 0, none⟩), undef, undef, .slice none 0 0, .pointer (some ⟨w3.heap.size, 0, none⟩), .pointer (some ⟨c1, 0, none⟩), .pointer (some ⟨c2, 0, none⟩), undef, undef, .agg #[.int .i64 (n : Int), .int .i64 x.s, .int .i64 x.e, .slice o x.edges.length cap], .bool true, .bool false, .bool false, .int .i64 (at' : Int), .bool (decide ((at' : Int) < 0)), .bool (decide ((at' : Int) < 0)), .bool (decide ((at' : Int) < 0)), .int .i64 (at' : Int), .string s, .int .i64 (s.size : Int), .bool false, .bool (decide ((at' : Int) < 0)), .agg #[.int .i64 (n : Int), .int .i64 x.s, .int .i64 x.e, .slice o x.edges.length cap], .agg #[.slice o x.edges.length cap, .slice (some ⟨fb, 0, none⟩) n n, .slice (some ⟨nb, 0, none⟩) x.edges.length x.edges.length], .agg #[.int .i64 (n : Int), .int .i64 x.s, .int .i64 x.e, .slice o x.edges.length cap], .pointer (some ⟨c1, 0, none⟩), .agg #[.int .i64 (n : Int), .int .i64 x.s, .int .i64 x.e, .slice o x.edges.length cap], .pointer (some ⟨c2, 0, none⟩), undef, undef, undef, undef, undef, undef, undef, undef, undef, undef, undef, undef, undef, undef, undef, undef, undef, undef, undef, undef, undef, undef, undef, undef, undef, undef, undef, undef, undef, undef, undef, undef, undef, undef, undef, undef, undef, undef, undef, undef, undef, undef, undef, undef], defers := [] } W := by
    intro c1 s1 c2 s2 W P0 BW
    refine hK _ _ ?_
    clear hK K d0 d1 d2 d3 d40 d41 d42 d43 h29 h30 r1 hw4 hw1 E2 rf rn hfn hf3 hn3 hcap htop
    obtain ⟨X1, hX1, hX1l, hC, hhere, hback⟩ := P0.op
    obtain ⟨sn, hsn⟩ : ∃ sn : Nat, x.s = (sn : Int) := ⟨x.s.toNat, by have := R.s; omega⟩
    have hadd := add_any X1 w4.heap.size c1 s1 n hn2 [] [] sn (by have := R.s; omega) W hC
    have hb : Box W w.heap.size (n : Int) x.s x.e o x.edges.length cap := (BW.block _ (by have := x4.lt; omega)).trans x4
    have d1 := hb.c1
    rw [hsn] at d1
    have HSX := (show Hid (x.s = (sn : Int)) from hsn)
    clear hsn
    go_wp2_with (go_at_call 33; refine hadd.mono ?_; rintro e W1 ⟨⟨v1, rfl⟩, hC1, hM1⟩)
    have P1 := hback W1 _ _ hC1 hM1
    have B1' : Below w4.heap.size w4 W1 := BW.trans hM1.be
    have hh : Head x n s at' w4.heap.size w4 W1 c1 s1 c2 s2 at' (.slice none 0 0) [(sn : Int)] [] 0 := ⟨P1, fun u => by rw [List.mem_singleton]; show u = (sn : Int) ↔ u = x.s; rw [HSX.out], SoFar.zero _ _ _, B1', rfl⟩
    have h32 : SpreadIs x n := spread_any x n R.n2 R.m R.to
    unfold SpreadIs at h32
    have h33 := fun b hb => step_any x n R.n2 R.m (fun e he => ⟨R.to e he, hfit e he⟩) b hb
    unfold StepIs at h33
    have h34 := leave_any n R.n2
    unfold LeaveIs at h34
    obtain ⟨en, hen⟩ : ∃ en : Nat, x.e = (en : Int) := ⟨x.e.toNat, by have := R.e; omega⟩
    have hen2 : en < n := by have := R.e; omega
    have HEN := (show Hid (x.e = (en : Int)) from hen)
    clear hen
    clear hb d1 hadd P0 hC hhere hback hX1 hX1l P1 B1' hC1 hM1
    go_loopw [8, 9, 10, 11] (fun y8 y9 y10 y11 wr => ∃ (c1 s1 c2 s2 t k : Nat) (v : Value) (l es : List Int), y8 = .pointer (some ⟨c1, 0, none⟩) ∧ y9 = .pointer (some ⟨c2, 0, none⟩) ∧ v = y10 ∧ y11 = .int .i64 (t : Int) ∧ t ≤ s.size ∧ Hid (Head x n s at' w4.heap.size w4 wr c1 s1 c2 s2 t v l es k)) (fun _ _ _ y _ => s.size + 1 - (intOf y).toNat)
    case atStart => exact ⟨c1, s1, c2, s2, at', 0, _, _, _, rfl, rfl, rfl, rfl, hat, hh⟩
    case round =>
      clear hh
      obtain ⟨c1, s1, c2, s2, t, k, v, l, es, rfl, rfl, rfl, rfl, ht, HQ⟩ := hrel
      have hb : Box wr w.heap.size (n : Int) x.s x.e o x.edges.length cap := (HQ.out.be.block _ (by have := x4.lt; omega)).trans x4
      have hq : WBox wr w3.heap.size o x.edges.length cap n fb nb := (HQ.out.be.block _ (by omega)).trans q4
      obtain ⟨ga, ca, y1, hla, hlc, y0, _⟩ := all_cell HQ.out.pr
      by_cases hl : l = []
      · have HR : Hid (L = es) := runs_eq hL0 (HQ.out.so.none (by have := HQ.out.tk; omega) (fun u hu => by have := (HQ.out.ba u).2 hu; rw [hl] at this; simp at this))
        have hl0 : l.length = 0 := by rw [hl]; rfl
        rw [hl0] at y1
        go_wp2_with (fail)
        go_ret
        exact ⟨_, rfl, by rw [HR.out]; exact df.ints_of_owns HQ.out.pr.row, chain B04 HQ.out.be⟩
      · have hpos : 0 < l.length := List.length_pos_iff.2 hl
        have d2 := hb.c2
        rw [HEN.out] at d2
        have e0 := hq.c0
        have e1 := hq.c1
        have e2 := hq.c2
        obtain ⟨X1, hX1, hX1l, hC, hhere, hback⟩ := HQ.out.pr.op
        have HI : Hid (Inv x (Base x (dOf s) at' k) l l) := ⟨fun _ h => h, fun u hu => .base ((HQ.out.ba u).1 hu), fun u hu hn => absurd hu hn⟩
        have r32 := h32 _ X1 w4.heap.size c1 s1 l l o cap fb nb wr hC HI.out ((HV4.out.at' HQ.out.be).up hX1 hX1l)
        go_wp2_with (go_at_call 34; refine r32.mono ?_; rintro e w5 ⟨⟨v5, rfl⟩, l', hC5, hI5, hs5, hM5⟩)
        have P5 := hback w5 l' [] hC5 hM5
        have B5 : Below w4.heap.size w4 w5 := HQ.out.be.trans hM5.be
        have hmem : ∀ u, u ∈ l' ↔ Reach x (Base x (dOf s) at' k) u := inv_done hI5 (fun u hu => hs5 u ((HQ.out.ba u).2 hu))
        have hin := hmem x.e
        have hrg := hC5.rg
        have hesl : es.length ≤ 1000000 := by have := HQ.out.so.len; have := HQ.out.tk; omega
        obtain ⟨ga', ca', y1', hla', hlc', y0', hz1⟩ := all_cell P5
        have hb5 : Box w5 w.heap.size (n : Int) x.s x.e o x.edges.length cap := (B5.block _ (by have := x4.lt; omega)).trans x4
        have d25 := hb5.c2
        rw [HEN.out] at d25
        clear d2 e0 e1 e2 y1 y0 hhere hX1 hX1l hC hback r32 hC5 hI5 hs5 hM5 hb hq HI hb5
        by_cases he : x.e ∈ l'
        · skip
          have z1 : w5.cell? ⟨s1, en, none⟩ = some (.bool true) := by rw [hz1 en hen2, decide_eq_true (by rw [← HEN.out]; exact he)]
          have HS : Hid (SoFar x (dOf s) at' (k + 1) (es ++ [(t : Int)])) := by have := HQ.out.so.yes (hin.1 he); rwa [← HQ.out.tk] at this
          clear hz1
          go_quiet (fail)
          generalize hw5' : w5.drewN _ = w5' at *
          have P5' : Pair (fun b => b < w4.heap.size) w5' w4.heap.size c1 s1 c2 s2 n l' [] [] [] v es := by rw [← hw5']; exact P5.later (below_drewN (Below.refl _ _) _)
          have B5' : Below w4.heap.size w4 w5' := by rw [← hw5']; exact below_drewN B5 _
          clear z1
          have HA := (show Hid (Pair (fun b => b < w4.heap.size) (w5'.alloc (.cells #[.int .i64 (t : Int)] 3)) w4.heap.size c1 s1 c2 s2 n l' [] [] [] v es) from P5'.later (below_alloc _ _))
          have BA : Below w4.heap.size w4 (w5'.alloc (.cells #[.int .i64 (t : Int)] 3)) := B5'.alloc P5'.size _
          obtain ⟨gv, cv, hgv⟩ := df.own_slice P5'.row
          subst hgv
          by_cases hend : t = s.size
          · have HR : Hid (L = es ++ [(t : Int)]) := runs_eq hL0 (HS.out.all (by have := HQ.out.tk; omega))
            have hyes : ((t : Int) == (s.size : Int)) = true := by simp [hend]
            clear hend
            go_wp2_with ((at_builtin; refine wpList_append_at rfl (.tmp 55) (.tmp 57) rfl w4.heap.size (.slice gv es.length cv) es (t : Int) w5'.heap.size rfl rfl HA.out.row (tmp_cell w5' _ _ rfl) hesl HA.out.size ?_; intro g' cap' w6 hown6 hgr6 hpl6; have P6 := HA.out.put hown6 hgr6 hpl6; have B6 : Below w4.heap.size w4 w6 := BA.grown hgr6 HA.out.size (df.own_ge HA.out.row)))
            go_ret
            exact ⟨_, rfl, by rw [HR.out]; exact df.ints_of_owns P6.row, chain B04 B6⟩
          · have htt2 : t < s.size := by omega
            have hne : ((t : Int) == (s.size : Int)) = false := by simp; omega
            go_wp2_with ((at_builtin; refine wpList_append_at rfl (.tmp 55) (.tmp 57) rfl w4.heap.size (.slice gv es.length cv) es (t : Int) w5'.heap.size rfl rfl HA.out.row (tmp_cell w5' _ _ rfl) hesl HA.out.size ?_; intro g' cap' w6 hown6 hgr6 hpl6; have P6 := HA.out.put hown6 hgr6 hpl6; have B6 : Below w4.heap.size w4 w6 := BA.grown hgr6 HA.out.size (df.own_ge HA.out.row)))
            have P6d := P6.later (W' := w6.drew) ⟨rfl, rfl, rfl, Nat.le_refl _, fun _ _ => rfl⟩
            have B6d : Below w4.heap.size w4 w6.drew := B6.trans ⟨rfl, rfl, rfl, Nat.le_refl _, fun _ _ => rfl⟩
            obtain ⟨X2, hX2, hX2l, hC2, hH2, hback2⟩ := P6d.swap.op
            have V6 := (HV4.out.at' B6d).up hX2 hX2l
            have r33 := h33 s[t].toNat (UInt8.toNat_lt _) X2 w4.heap.size c1 c2 s2 l' [] [] o cap fb nb w6.drew hC2 hH2 hrg V6
            have q6 : WBox w6 w3.heap.size o x.edges.length cap n fb nb := (B6.block _ (by omega)).trans q4
            have e0 := q6.c0
            have e1 := q6.c1
            have e2 := q6.c2
            obtain ⟨hst1, hst2⟩ := stepL_mem x.edges s[t].toNat l' ([], []) rfl
            have HBA : Hid (∀ u, u ∈ (stepL x.edges s[t].toNat l' ([], [])).1 ↔ Base x (dOf s) at' (k + 1) u) := base_next HQ.out.tk htt2 hmem
            rw [← hst1] at r33
            generalize (stepL x.edges s[t].toNat l' ([], [])).1 = l7 at *
            clear hst1 hst2 V6 hC2 hH2 hX2 hX2l
            go_region_with (go_at_call 35; refine r33.mono ?_; rintro e w7 ⟨⟨v7, rfl⟩, hC7, hM7⟩)
            all_goals (have P7 := (hback2 w7 _ _ hC7 hM7).swap; have B7 : Below w4.heap.size w4 w7 := B6d.trans hM7.be; obtain ⟨X3, hX3, hX3l, hC3, hH3, hback3⟩ := P7.op; have r34 := h34 X3 w4.heap.size c1 s1 l' w7 hC3; go_wp2_with (go_at_call 36; refine r34.mono ?_; rintro e w8 ⟨⟨v8, rfl⟩, hC8, hM8⟩); have P8 := (hback3 w8 _ _ hC8 hM8).swap; have B8 : Below w4.heap.size w4 w8 := B7.trans hM8.be; go_roundw; (case rel => exact ⟨c2, s2, c1, s1, t + 1, k + 1, (.slice (some ⟨g', 0, none⟩) (es.length + 1) cap'), l7, (es ++ [(t : Int)]), rfl, rfl, rfl, by go_num, by omega, ⟨P8, HBA.out, HS.out, B8, by have := HQ.out.tk; omega⟩⟩); (case measure => simp [intOf]; omega))
        · skip
          have z1 : w5.cell? ⟨s1, en, none⟩ = some (.bool false) := by rw [hz1 en hen2, decide_eq_false (by rw [← HEN.out]; exact he)]
          have HS : Hid (SoFar x (dOf s) at' (k + 1) es) := HQ.out.so.no (fun h => he (hin.2 h))
          clear hz1
          go_quiet (fail)
          generalize hw5' : w5.drewN _ = w5' at *
          have P5' : Pair (fun b => b < w4.heap.size) w5' w4.heap.size c1 s1 c2 s2 n l' [] [] [] v es := by rw [← hw5']; exact P5.later (below_drewN (Below.refl _ _) _)
          have B5' : Below w4.heap.size w4 w5' := by rw [← hw5']; exact below_drewN B5 _
          clear z1
          have P6 := P5'
          have B6 := B5'
          by_cases hend : t = s.size
          · have HR : Hid (L = es) := runs_eq hL0 (HS.out.all (by have := HQ.out.tk; omega))
            have hyes : ((t : Int) == (s.size : Int)) = true := by simp [hend]
            clear hend
            go_wp2_with (fail)
            go_ret
            exact ⟨_, rfl, by rw [HR.out]; exact df.ints_of_owns P6.row, chain B04 B6⟩
          · have htt2 : t < s.size := by omega
            have hne : ((t : Int) == (s.size : Int)) = false := by simp; omega
            go_wp2_with (fail)
            have P6d := P6.later (W' := w5'.drew) ⟨rfl, rfl, rfl, Nat.le_refl _, fun _ _ => rfl⟩
            have B6d : Below w4.heap.size w4 w5'.drew := B6.trans ⟨rfl, rfl, rfl, Nat.le_refl _, fun _ _ => rfl⟩
            obtain ⟨X2, hX2, hX2l, hC2, hH2, hback2⟩ := P6d.swap.op
            have V6 := (HV4.out.at' B6d).up hX2 hX2l
            have r33 := h33 s[t].toNat (UInt8.toNat_lt _) X2 w4.heap.size c1 c2 s2 l' [] [] o cap fb nb w5'.drew hC2 hH2 hrg V6
            have q6 : WBox w5' w3.heap.size o x.edges.length cap n fb nb := (B6.block _ (by omega)).trans q4
            have e0 := q6.c0
            have e1 := q6.c1
            have e2 := q6.c2
            obtain ⟨hst1, hst2⟩ := stepL_mem x.edges s[t].toNat l' ([], []) rfl
            have HBA : Hid (∀ u, u ∈ (stepL x.edges s[t].toNat l' ([], [])).1 ↔ Base x (dOf s) at' (k + 1) u) := base_next HQ.out.tk htt2 hmem
            rw [← hst1] at r33
            generalize (stepL x.edges s[t].toNat l' ([], [])).1 = l7 at *
            clear hst1 hst2 V6 hC2 hH2 hX2 hX2l
            go_region_with (go_at_call 35; refine r33.mono ?_; rintro e w7 ⟨⟨v7, rfl⟩, hC7, hM7⟩)
            all_goals (have P7 := (hback2 w7 _ _ hC7 hM7).swap; have B7 : Below w4.heap.size w4 w7 := B6d.trans hM7.be; obtain ⟨X3, hX3, hX3l, hC3, hH3, hback3⟩ := P7.op; have r34 := h34 X3 w4.heap.size c1 s1 l' w7 hC3; go_wp2_with (go_at_call 36; refine r34.mono ?_; rintro e w8 ⟨⟨v8, rfl⟩, hC8, hM8⟩); have P8 := (hback3 w8 _ _ hC8 hM8).swap; have B8 : Below w4.heap.size w4 w8 := B7.trans hM8.be; go_roundw; (case rel => exact ⟨c2, s2, c1, s1, t + 1, k + 1, v, l7, es, rfl, rfl, rfl, by go_num, by omega, ⟨P8, HBA.out, HS.out, B8, by have := HQ.out.tk; omega⟩⟩); (case measure => simp [intOf]; omega))
  clear hK d0 d1 d2 d3 hw4
  go_region_with (first
    | (have hsecond := hC5; go_at_call 32; refine (h30 (fun b => b < w5.heap.size) _ ?_).mono ?_; (exact fun _ h => h); rintro e w6 ⟨c2, s2, rfl, hC6, b6, o6⟩; have b6' := same_below w5 b6 rfl rfl rfl rfl; have hC5' : Cr (fun b => b < w4.heap.size) w5 w4.heap.size c1 s1 n [] [] := hC5; have hC6' : Cr (fun b => b < w5.heap.size) w6 w5.heap.size c2 s2 n [] [] := hC6; have P6 := Pair.mk2 b5'.size hC5' hC6' b6')
    | (go_at_call 32; refine (h30 (fun b => b < w4.heap.size) _ ?_).mono ?_; (exact fun _ h => h); rintro e w5 ⟨c1, s1, rfl, hC5, b5, o5⟩; have b5' := same_below w4 b5 rfl rfl rfl rfl; have x5 := x4.later b5'; have d50 := x5.c0; have d51 := x5.c1; have d52 := x5.c2; have d53 := x5.c3))
  all_goals go_wp2_with (fail)
  all_goals exact key c1 s1 c2 s2 w6 P6 (b5'.trans (b6'.mono b5'.size))
end Go.Proofs.Ytfilndgbgdnpiaa.nf

namespace Go.Proofs.Ytfilndgbgdnpiaa.nf
open Go.RowKit Go.Shelf
set_option linter.unusedVariables false
open df (Kp Owns Row iv In IntsV)

theorem sofar_ex (x : Nfa) (d : Nat → Nat) (at' : Nat) : ∀ k, ∃ L, SoFar x d at' k L
  | 0 => ⟨_, SoFar.zero _ _ _⟩
  | k + 1 => by
    obtain ⟨L, h⟩ := sofar_ex x d at' k
    rcases Classical.em (Reach x (Base x d at' k) x.e) with hr | hr
    · exact ⟨_, h.yes hr⟩
    · exact ⟨_, h.no hr⟩
theorem runs_ex (x : Nfa) (d : Nat → Nat) (at' len : Nat) (h : at' ≤ len) : ∃ L, IsRuns x d at' len L ∧ L.length ≤ len + 1 - at' := by
  obtain ⟨L, hL⟩ := sofar_ex x d at' (len + 1 - at')
  exact ⟨L, hL.all (by omega), hL.len⟩
theorem free_ex (x : Nfa) (n : Nat) (R : Rt x n) (l : List Int) : ∃ L, IsFree x l L ∧ L.length ≤ n := by
  classical
  refine ⟨((List.range n).filter fun j : Nat => decide (Reach x (fun s => s ∈ l ∧ 0 ≤ s ∧ s < x.n) (j : Int))).map fun j : Nat => (j : Int), ⟨?_, fun t => ?_⟩, ?_⟩
  · rw [List.pairwise_map]
    exact (List.pairwise_lt_range.filter _).imp (fun h => by omega)
  · simp only [List.mem_map, List.mem_filter, List.mem_range, decide_eq_true_eq]
    constructor
    · rintro ⟨j, ⟨h1, h2⟩, rfl⟩
      exact h2
    · intro hr
      have hrange : 0 ≤ t ∧ t < (n : Int) := hr.least (Q := fun t => 0 ≤ t ∧ t < (n : Int)) (fun s hs => ⟨hs.2.1, by rw [← R.hx]; exact hs.2.2⟩) (fun e he _ _ => R.to e he)
      obtain ⟨j, rfl⟩ : ∃ j : Nat, t = (j : Int) := ⟨t.toNat, by omega⟩
      exact ⟨j, ⟨by omega, hr⟩, rfl⟩
  · rw [List.length_map]
    exact Nat.le_trans (List.length_filter_le _ _) (by simp)
/-- the empty text is taken just if the end is reached from the beginning over nothing -/
theorem empty_eq (x : Nfa) (n : Nat) (R : Rt x n) (d : Nat → Nat) (L F : List Int) (hL : IsRuns x d 0 0 L) (hF : IsFree x [x.s] F) : (x.e ∈ F ∧ L = [0]) ∨ (x.e ∉ F ∧ L = []) := by
  have key : x.e ∈ F ↔ Reach x (Base x d 0 0) x.e := by
    rw [hF.mem]
    constructor
    · exact fun h => h.mono (fun t ht => by have := ht.1; rwa [List.mem_singleton] at this)
    · exact fun h => h.mono (fun t ht => by rw [show t = x.s from ht]; exact ⟨List.mem_singleton.2 rfl, R.s.1, by rw [R.hx]; exact R.s.2⟩)
  rcases Classical.em (Reach x (Base x d 0 0) x.e) with hr | hr
  · exact .inl ⟨key.2 hr, runs_eq hL (((SoFar.zero x d 0).yes hr).all rfl)⟩
  · exact .inr ⟨fun h => hr (key.1 h), runs_eq hL (((SoFar.zero x d 0).no hr).all rfl)⟩
end Go.Proofs.Ytfilndgbgdnpiaa.nf

namespace Go.Proofs.Ytfilndgbgdnpiaa.nb
open st (Tr Q4 nodesOf goods okNode)
open nf (Ed Nfa Base Over IsRuns)
set_option linter.unusedVariables false

theorem pa_mc {T : Nat → Nat → Prop} (i j : Nat) : Pa (Un (fun _ _ => False) (Mc 0 1 T)) (0, i) (1, j) ↔ T i j := by
  constructor
  · intro h
    cases h with
    | step r h =>
      rcases r with r | ⟨h1, h2, h3⟩
      · exact r.elim
      · rename_i b
        obtain ⟨b1, b2⟩ := b
        simp only at h2 h3
        subst h2
        cases h with
        | refl => exact h3
        | step r _ =>
          rcases r with r | ⟨h4, _⟩
          · exact r.elim
          · simp at h4
  · intro h
    exact .one (.inr ⟨rfl, rfl, h⟩)
theorem built_pa (x : Tx) (t : Tr) (hg : t.good = true) (hf : (built t).full = false) (i j : Nat) : Pa (EdR x (built t).es) (0, i) (1, j) ↔ Tk x t i j := by
  obtain ⟨new, h⟩ := lay_does x t hg 0 1 ⟨2, []⟩ (by simp) (by simp) hf
  have e : (built t).es = new := by
    have := h.es
    show (layT t 0 1 ⟨2, []⟩).es = new
    simpa using this
  have h1 := h.same (fun _ _ => False) (fun _ _ h => h.elim) (0, i) (1, j) (fun h => by have := h.1; simp at this) (fun h => by have := h.1; simp at this)
  rw [e, ← pa_mc (T := Tk x t) i j, ← h1]
  exact Pa.congr fun a b => ⟨fun h => .inr h, fun h => h.elim (fun h => h.elim) id⟩
theorem reach_pa (t : Tr) (d : Nat → Nat) (len at' : Nat) : ∀ j, at' + j ≤ len → ∀ u : Int, nf.Reach (nfaOf t) (Base (nfaOf t) d at' j) u → ∃ v : Nat, u = (v : Int) ∧ Pa (EdR ⟨d, len⟩ (built t).es) (0, at') (v, at' + j) := by
  have hin := (built_in t).1
  have free : ∀ (j : Nat) (P : Int → Prop), (∀ u, P u → ∃ v : Nat, u = (v : Int) ∧ Pa (EdR ⟨d, len⟩ (built t).es) (0, at') (v, at' + j)) → ∀ u, nf.Reach (nfaOf t) P u → ∃ v : Nat, u = (v : Int) ∧ Pa (EdR ⟨d, len⟩ (built t).es) (0, at') (v, at' + j) := by
    intro j P hP u hu
    induction hu with
    | base h => exact hP _ h
    | step _ he hfr ih =>
      rename_i e _
      obtain ⟨v, hv, hp⟩ := ih
      have := hin e he
      refine ⟨e.to.toNat, by omega, hp.trans (.one ⟨e, he, hv, by show e.to = (e.to.toNat : Int); omega, .inl ⟨hfr, rfl⟩⟩)⟩
  intro j
  induction j with
  | zero =>
    intro hj
    exact free 0 _ fun u hu => ⟨0, hu, .refl _⟩
  | succ j ih =>
    intro hj
    refine free (j + 1) _ fun u hu => ?_
    obtain ⟨e, he, hfr, hhas, hto, hr⟩ := hu
    obtain ⟨v, hv, hp⟩ := ih (by omega) _ hr
    have := hin e he
    refine ⟨e.to.toNat, by omega, ?_⟩
    exact hp.trans (.one ⟨e, he, hv, by show e.to = (e.to.toNat : Int); omega, .inr ⟨hfr, by show at' + j < len; omega, by show at' + (j + 1) = at' + j + 1; omega, hhas⟩⟩)
theorem pa_reach (t : Tr) (d : Nat → Nat) (len at' : Nat) {a b : Cf} (h : Pa (EdR ⟨d, len⟩ (built t).es) a b) : (at' ≤ a.2 ∧ nf.Reach (nfaOf t) (Base (nfaOf t) d at' (a.2 - at')) (a.1 : Int)) → (at' ≤ b.2 ∧ nf.Reach (nfaOf t) (Base (nfaOf t) d at' (b.2 - at')) (b.1 : Int)) := by
  induction h with
  | refl => exact id
  | step r _ ih =>
    rintro ⟨h1, h2⟩
    apply ih
    obtain ⟨e, he, hf, ht, ⟨hfr, e2⟩ | ⟨hfr, hlt, e2, hhas⟩⟩ := r
    · rw [← e2, ← ht]
      rw [← hf] at h2
      exact ⟨h1, .step h2 he hfr⟩
    · rw [e2, ← ht]
      rw [← hf] at h2
      refine ⟨by omega, .base ?_⟩
      rw [show ∀ a : Nat, at' ≤ a → a + 1 - at' = (a - at') + 1 from fun a h => by omega]
      · refine ⟨e, he, hfr, ?_, rfl, h2⟩
        rw [show ∀ a : Nat, at' ≤ a → at' + (a - at') = a from fun a h => by omega]
        · exact hhas
        · exact h1
      · exact h1
/-- what is built takes, from a place on, just what the expression takes -/
theorem runs_tk (t : Tr) (hg : t.good = true) (hf : (built t).full = false) (d : Nat → Nat) (at' len : Nat) (L : List Int) (h : IsRuns (nfaOf t) d at' len L) (j : Nat) (hj : j ≤ len) : (j : Int) ∈ L ↔ Tk ⟨d, len⟩ t at' j := by
  rw [h.mem, ← built_pa ⟨d, len⟩ t hg hf]
  constructor
  · rintro ⟨k, h1, h2, h3⟩
    obtain ⟨v, hv, hp⟩ := reach_pa t d len at' k h1 _ h3
    obtain rfl : j = at' + k := by omega
    obtain rfl : v = 1 := by
      have : ((1 : Nat) : Int) = (v : Int) := hv
      omega
    exact hp
  · intro hp
    have := pa_reach t d len at' hp ⟨Nat.le_refl _, by rw [Nat.sub_self]; exact .base rfl⟩
    obtain ⟨h1, h2⟩ := this
    have h1' : at' ≤ j := h1
    refine ⟨j - at', by omega, by rw [show at' + (j - at') = j by omega], h2⟩
theorem pow_range {x : Tx} {T : Nat → Nat → Prop} (h : ∀ i j, T i j → i ≤ j ∧ (i ≤ x.len → j ≤ x.len)) : ∀ n i j, Pow T n i j → i ≤ j ∧ (i ≤ x.len → j ≤ x.len)
  | 0, i, j, e => by cases e; exact ⟨Nat.le_refl _, id⟩
  | n + 1, i, j, ⟨k, h1, h2⟩ => by
    have a := h i k h1
    have b := pow_range h n k j h2
    exact ⟨by omega, fun c => b.2 (a.2 c)⟩
mutual
theorem tk_range (x : Tx) : ∀ (t : Tr) (i j : Nat), Tk x t i j → i ≤ j ∧ (i ≤ x.len → j ≤ x.len)
  | .node k q mn mx l, i, j, h => by
    rw [Tk] at h
    split at h
    · obtain ⟨h1, h2, _⟩ := h
      exact ⟨by omega, fun _ => by omega⟩
    · split at h
      · exact tkC_range x l i j h
      · split at h
        · exact tkA_range x l i j h
        · split at h
          · obtain ⟨n, _, _, hp⟩ := h
            exact pow_range (tkH_range x l) n i j hp
          · exact h.elim
theorem tkC_range (x : Tx) : ∀ (l : List Tr) (i j : Nat), TkC x l i j → i ≤ j ∧ (i ≤ x.len → j ≤ x.len)
  | [], i, j, h => by
    rw [TkC] at h
    subst h
    exact ⟨Nat.le_refl _, id⟩
  | t :: l, i, j, h => by
    rw [TkC] at h
    obtain ⟨k, h1, h2⟩ := h
    have a := tk_range x t i k h1
    have b := tkC_range x l k j h2
    exact ⟨by omega, fun c => b.2 (a.2 c)⟩
theorem tkA_range (x : Tx) : ∀ (l : List Tr) (i j : Nat), TkA x l i j → i ≤ j ∧ (i ≤ x.len → j ≤ x.len)
  | [], i, j, h => by
    rw [TkA] at h
    exact h.elim
  | t :: l, i, j, h => by
    rw [TkA] at h
    rcases h with h | h
    · exact tk_range x t i j h
    · exact tkA_range x l i j h
theorem tkH_range (x : Tx) : ∀ (l : List Tr) (i j : Nat), TkH x l i j → i ≤ j ∧ (i ≤ x.len → j ≤ x.len)
  | [], i, j, h => by
    rw [TkH] at h
    exact h.elim
  | t :: _, i, j, h => by
    rw [TkH] at h
    exact tk_range x t i j h
end
end Go.Proofs.Ytfilndgbgdnpiaa.nb
