/-
  Contracts over this program: what is reached over Free edges (nfa.Free), the walk.
-/
import Derived.Test.YthknhbmibmndoaaMx03
namespace Go.Proofs.Ythknhbmibmndoaa.nf
open Go.RowKit Go.Shelf
set_option linter.unusedVariables false
open df (Kp Owns Row iv In IntsV)

def FreeIs (f : Nat) (x : Nfa) (l L : List Int) : Prop := ∀ o cap lo lcap w, Eds w o cap x.edges → Row (In w) w iv lo lcap l → Calls Try.prog f #[nfaV x.n x.s x.e o x.edges.length cap, .slice lo l.length lcap] w fun e w' => ∃ v, e = .returned v ∧ IntsV w' v L ∧ Below w.heap.size w w'
set_option maxHeartbeats 1000000 in
theorem free_no (x : Nfa) (l : List Int) (h : right x = false) : FreeIs 12 x l [] := by
  intro o cap lo lcap w hE hL
  have b0 := box_new w x.n x.s x.e o x.edges.length cap
  have h11 := right_any x false h.symm o cap _ (hE.later (below_alloc w (.cells #[.int .i64 x.n, .int .i64 x.s, .int .i64 x.e, .slice o x.edges.length cap] 24)))
  go_enter Try.func12, Try.ntmps12
  go_wp2_with (go_at_call 11; refine h11.mono ?_; rintro e w2 ⟨rfl, b2⟩)
  go_ret
  exact ⟨_, rfl, ⟨none, 0, rfl, Nat.le_refl _, by omega, fun i hi => by simp at hi⟩, chain (below_alloc _ _) b2⟩
theorem eds_keep {w W : World} {o : Option Addr} {cap : Nat} {l : List Ed} (h : Eds w o cap l) (hk : ∀ b, b < w.heap.size → W.heap[b]? = w.heap[b]?) (hs : w.heap.size ≤ W.heap.size) : Eds W o cap l :=
  ⟨h.fit, h.top, fun i hi => by
    obtain ⟨k, off, h1, h2, h3⟩ := h.lie i hi
    exact ⟨k, off, h1, Nat.lt_of_lt_of_le h2 hs, h3.same (hk k h2)⟩⟩
theorem more_of {N A C fb nb : Nat} (h1 : fb < C) (h2 : nb < C) (h3 : A ≤ fb) (h4 : A ≤ nb) : ∀ b, (b < N ∨ b = fb ∨ b = nb) → b < N ∨ (A ≤ b ∧ b < C) := by
  rintro b (h | h | h)
  · exact .inl h
  · exact .inr (by omega)
  · exact .inr (by omega)
theorem web_of {w W : World} {o : Option Addr} {cap n fb nb N : Nat} {l : List Ed} (h : Eds w o cap l) (hk : ∀ b, b < w.heap.size → W.heap[b]? = w.heap[b]?) (hN : w.heap.size ≤ N) (rf : IRow W fb (firsts l n l.length)) (rn : IRow W nb (nexts l l.length)) (hW : N ≤ W.heap.size) :
    WebAt (fun b => b < N ∨ b = fb ∨ b = nb) W l n o cap fb nb :=
  ⟨h.fit, h.top, fun i hi => by
    obtain ⟨k, off, h1, h2, h3⟩ := h.lie i hi
    exact ⟨k, off, h1, .inl (Nat.lt_of_lt_of_le h2 hN), h3.same (hk k h2)⟩, rf, rn, .inr (.inl rfl), .inr (.inr rfl), fun b hb => by
    rcases hb with h | h | h
    · omega
    · rw [h]; exact rf.lt
    · rw [h]; exact rn.lt⟩
set_option maxHeartbeats 4000000 in
set_option maxRecDepth 100000 in
theorem free_yes (x : Nfa) (n : Nat) (R : Rt x n) (l : List Int) (h : right x = true) (L : List Int) (hL0 : IsFree x l L) : FreeIs 12 x l L := by
  intro o cap lo lcap w hE hL
  have hcap := hE.fit
  have htop := hE.top
  have hlf := hL.fit
  have hlt := hL.top
  have h11 := right_any x true h.symm o cap
  have h30 := new_any n R.n2 x.s x.e o x.edges.length cap
  have h29 := weave_any x n R.hx R.n2 R.m (fun i hi => R.fr _ (List.getElem_mem hi)) o cap
  have h32 : SpreadIs x n := spread_any x n R.n2 R.m R.to
  unfold SpreadIs at h32
  have hx := R.hx
  have hn1 := R.n1
  have hn2 := R.n2
  have hm := R.m
  rw [hx] at h11 h29 ⊢
  have b0 := box_new w (n : Int) x.s x.e o x.edges.length cap
  have B1 := below_alloc w (.cells #[.int .i64 (n : Int), .int .i64 x.s, .int .i64 x.e, .slice o x.edges.length cap] 24)
  obtain ⟨w1, hw1⟩ : ∃ w1, w1 = w.alloc (.cells #[.int .i64 (n : Int), .int .i64 x.s, .int .i64 x.e, .slice o x.edges.length cap] 24) := ⟨_, rfl⟩
  rw [← hw1] at b0 B1
  have r1 := h11 w1 (hE.later B1)
  have HE := (show Hid (Eds w o cap x.edges) from hE)
  have HL := (show Hid (Row (In w) w iv lo lcap l) from hL)
  clear hE hL h11 h
  go_enter Try.func12, Try.ntmps12
  go_wp2_with (first | (go_at_call 11; rw [← hw1]; refine r1.mono ?_; rintro e w2 ⟨rfl, b2⟩; have x2 := b0.later b2; have d0 := x2.c0; have d1 := x2.c1; have d2 := x2.c2; have d3 := x2.c3) | (go_at_call 30; refine (h30 (fun b => b < w2.heap.size) w2 (fun _ h => h)).mono ?_; rintro e w3 ⟨c, sb, rfl, hC3, b3, o3⟩))
  have B2 : Below w.heap.size w w2 := chain B1 b2
  have s12 := B2.size
  have x3 := x2.later b3
  have M33 : Moved (fun b => b < w2.heap.size) w2.heap.size w3 w3 := Moved.refl _ _ _
  go_loopw [15] (fun y wr => ∃ i : Nat, y = .int .i64 i ∧ i ≤ l.length ∧ Hid (Cr (fun b => b < w2.heap.size) wr w2.heap.size c sb n (addL n (l.take i)).1 (addL n (l.take i)).2) ∧ Hid (Moved (fun b => b < w2.heap.size) w2.heap.size w3 wr)) (fun y _ => l.length - (intOf y).toNat)
  case atStart => exact ⟨0, rfl, by omega, by show Cr _ _ _ _ _ _ _ _; simpa [addL] using hC3, M33⟩
  case round =>
    obtain ⟨i, rfl, hi, HC, HM⟩ := hrel
    clear hC3 M33 d0 d1 d2 d3
    have kp := HM.out.kp
    have hxr : Box wr w.heap.size (n : Int) x.s x.e o x.edges.length cap := (kp.2 _ x2.lt).trans x3
    have hold : ∀ b, b < w.heap.size → wr.heap[b]? = w.heap[b]? := fun b hb => (kp.2 b (by show b < w2.heap.size; omega)).trans ((b3.block b (by omega)).trans (B2.block b hb))
    have d0 := hxr.c0
    have d1 := hxr.c1
    have d2 := hxr.c2
    have d3 := hxr.c3
    by_cases hend : i < l.length
    · obtain ⟨b, off, rfl, hb, hc⟩ := HL.out.lie i hend
      have hc2 : wr.cell? ⟨b, off + i, none⟩ = some (.int .i64 l[i]) := by simp only [World.cell?, hold b hb] at hc ⊢; exact hc
      have hst := st_any (n : Int) l[i] _ rfl
      unfold StIs at hst
      have hsn : addL n (l.take (i + 1)) = addS n (addL n (l.take i)) l[i] := by rw [List.take_succ_eq_append_getElem hend, addL_snoc]
      have HSN := (show Hid (addL n (l.take (i + 1)) = addS n (addL n (l.take i)) l[i]) from hsn)
      generalize l[i] = u at *
      clear hsn hc
      cases hu : isSt (n : Int) u with
      | false =>
        rw [hu] at hst
        have hno : ¬ (0 ≤ u ∧ u < (n : Int)) := fun hh => by unfold isSt at hu; rw [decide_eq_true hh.1, decide_eq_true hh.2] at hu; cases hu
        have HN : Hid (addL n (l.take (i + 1)) = addL n (l.take i)) := by show _ = _; rw [HSN.out]; unfold addS; rw [if_neg hno]
        clear hu hno HSN
        go_wp2_with (go_at_call 35; (with_reducible refine (hst _ _ _ _ _ _).mono ?_); rintro e w4 ⟨rfl, b4⟩)
        go_roundw
        case rel => exact ⟨i + 1, by go_num, by omega, by rw [HN.out]; exact HC.out.later b4, HM.out.trans (moved_of b4 (fun b hb => Nat.lt_of_lt_of_le (Nat.lt_of_lt_of_le hb b3.size) kp.1) (Nat.le_trans b3.size kp.1))⟩
        case measure => simp [intOf]; omega
      | true =>
        rw [hu] at hst
        have hyes : 0 ≤ u ∧ u < (n : Int) := by unfold isSt at hu; simpa using hu
        obtain ⟨k, rfl⟩ : ∃ k : Nat, u = (k : Int) := ⟨u.toNat, by omega⟩
        have HN : Hid (addL n (l.take (i + 1)) = addE (addL n (l.take i)) (k : Int)) := by show _ = _; rw [HSN.out]; unfold addS; rw [if_pos hyes]
        have hadd := add_any (fun b => b < w2.heap.size) w2.heap.size c sb n hn2 (addL n (l.take i)).1 (addL n (l.take i)).2 k (by omega)
        unfold AddIs at hadd
        clear hu hyes HSN
        go_wp2_with (first | (go_at_call 35; (with_reducible refine (hst _ _ _ _ _ _).mono ?_); rintro e w4 ⟨rfl, b4⟩; have HC4 := (show Hid _ from HC.out.later b4)) | (go_at_call 31; refine (hadd _ HC4.out).mono ?_; rintro e w5 ⟨⟨v5, rfl⟩, hC5, hM5⟩))
        go_roundw
        case rel => exact ⟨i + 1, by go_num, by omega, by rw [HN.out]; exact hC5, (HM.out.trans (moved_of b4 (fun b hb => Nat.lt_of_lt_of_le (Nat.lt_of_lt_of_le hb b3.size) kp.1) (Nat.le_trans b3.size kp.1))).trans hM5⟩
        case measure => simp [intOf]; omega
    · have ei : l.take i = l := List.take_of_length_le (by omega)
      rw [ei] at HC
      obtain ⟨hq1, hq2⟩ := addL_spec n l
      have E5 : Eds wr o cap x.edges := eds_keep HE.out hold (Nat.le_trans s12 (Nat.le_trans b3.size kp.1))
      have r29 := h29 wr E5
      have HI : Hid (Inv x (fun s => s ∈ l ∧ 0 ≤ s ∧ s < x.n) (addL n l).1 (addL n l).2) := ⟨fun t ht => by rw [hq1]; exact ht, fun t ht => .base (by rw [hx]; exact (hq2 t).1 ht), fun t ht hq => absurd (hq1 ▸ ht) hq⟩
      clear ei
      have hCr := HC.out
      go_wp2_with (first | (go_at_call 29; refine r29.mono ?_; rintro e w6 ⟨fb, nb, rfl, rf, rn, hfn, hf6, hn6, b6⟩; have hCy : Cr (fun b => b < w2.heap.size ∨ b = fb ∨ b = nb) w6 w2.heap.size c sb n (addL n l).1 (addL n l).2 := hCr.more b6 (more_of rf.lt rn.lt hf6 hn6); have hWy : WebAt (fun b => b < w2.heap.size ∨ b = fb ∨ b = nb) w6 x.edges n o cap fb nb := web_of HE.out (fun b hb => (b6.block b (Nat.lt_of_lt_of_le hb (Nat.le_trans s12 (Nat.le_trans b3.size kp.1)))).trans (hold b hb)) s12 rf rn (Nat.le_trans (Nat.le_trans b3.size kp.1) b6.size); have HCy := (show Hid _ from hCy); have HWy := (show Hid _ from hWy)) | (go_at_call 32; refine (h32 _ _ _ c sb _ _ o cap fb nb w6 HCy.out HI.out HWy.out).mono ?_; rintro e w7 ⟨⟨v7, rfl⟩, l', hC7, hI7, hs7, hM7⟩; obtain ⟨m7, va, vw, K7, hm7⟩ := hC7.lie; have hl7 := hC7.len; obtain ⟨ga, ca, hva⟩ := df.own_slice K7.all; subst hva; have k1 := K7.c1; have hsort := sort_any l' (by omega) w2.heap.size _ w7 K7.all) | (go_at_call 36; refine hsort.mono ?_; rintro e w8 ⟨⟨v8, rfl⟩, ho8, hg8⟩; have c8 : w8.cell? ⟨c, 1, none⟩ = some (.slice ga l'.length ca) := (World.cell?_of_block (a := ⟨c, 1, none⟩) (hg8.block c K7.lt K7.nac)).trans k1))
      go_ret
      have hLs : L = sorted l' := up_eq L (sorted l') hL0.up (sorted_up l' hC7.nd) (fun t => by
        rw [hL0.mem t, sorted_mem l' t]
        exact (inv_done hI7 (fun u hu => hs7 u ((hq2 u).2 ⟨hu.1, hu.2.1, by rw [← hx]; exact hu.2.2⟩)) t).symm)
      refine ⟨_, rfl, ?_, ?_⟩
      · rw [hLs]
        exact df.ints_of_owns ho8
      · have c1 : Below w.heap.size w w3 := chain B2 b3
        have c2 : Below w.heap.size w wr := c1.trans (HM.out.be.mono s12)
        have c3 : Below w.heap.size w w6 := c2.trans (b6.mono (Nat.le_trans s12 (Nat.le_trans b3.size kp.1)))
        have c4 : Below w.heap.size w w7 := c3.trans (hM7.be.mono s12)
        exact c4.grown hg8 (Nat.le_trans s12 K7.size) (fun k e => Nat.le_trans s12 (df.own_ge K7.all k e))
end Go.Proofs.Ythknhbmibmndoaa.nf
