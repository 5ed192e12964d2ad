/-
  Contracts over this program: ids that are being merged, in memory (merge.row): look, least.
-/
import Derived.Test.YthcekfmodmnekaaMi
namespace Go.Proofs.Ythcekfmodmnekaa.mg
open Go.ChangeShapes Go.WideShapes Go.ChangeAt Go.RowKit Go.Shelf Go.Maps
set_option linter.unusedVariables false
set_option maxRecDepth 100000

theorem Owns.put {W : World} {B g n cap : Nat} {l : List Int} (h : Owns W B (.slice (some ⟨g, 0, none⟩) n cap) l) (i : Nat) (x : Int) : Owns (W.setCell ⟨g, i, none⟩ (.int .i64 x)) B (.slice (some ⟨g, 0, none⟩) n cap) (l.set i x) := by
  refine ⟨by simp, ?_⟩
  rcases h.2 with ⟨e, _⟩ | ⟨g', cap', cur, e, hb, hg, h1, h2, h3, h4⟩
  · cases e
  · obtain ⟨rfl, rfl, rfl⟩ : g = g' ∧ n = l.length ∧ cap = cap' := by simpa using e
    refine .inr ⟨g, cap, _, by simp, hb, set_heap W g _ _ i _ hg, by simpa using h1, h2, by simpa using h3, ?_⟩
    rw [Array.toList_setIfInBounds, List.take_set, List.length_set, h4, List.map_set]
theorem Owns.form {W : World} {B : Nat} {v : Value} {l : List Int} (h : Owns W B v l) (hp : 0 < l.length) : ∃ g cap, v = .slice (some ⟨g, 0, none⟩) l.length cap ∧ l.length ≤ cap ∧ cap ≤ 9223372036854775807 ∧ B ≤ g ∧ g < W.heap.size ∧ (∀ i (hi : i < l.length), W.cell? ⟨g, i, none⟩ = some (.int .i64 l[i])) ∧ ∀ i, W.frozen? ⟨g, i, none⟩ = false := by
  have h0 := h
  rcases h.2 with ⟨_, e⟩ | ⟨g, cap, cur, rfl, hb, hg, h1, h2, h3, h4⟩
  · omega
  · refine ⟨g, cap, rfl, h1, by unfold maxLen at h2; omega, hb, (Array.getElem?_eq_some_iff.1 hg).1, fun i hi => ?_, fun i => Lib.frozen_of_heap hg i⟩
    obtain ⟨g2, c2, e, _, hc⟩ := ow.cell h0 i (by rw [List.length_map]; exact hi)
    obtain ⟨⟨rfl, _⟩, rfl⟩ : (g = g2 ∧ True) ∧ cap = c2 := by simpa using e
    rw [hc]
    simp
def nz (kn : List Nat) : List Int := kn.map fun k : Nat => (k : Int)
theorem nz_len (kn : List Nat) : (nz kn).length = kn.length := by simp [nz]
theorem nz_set (kn : List Nat) (i k : Nat) : nz (kn.set i k) = (nz kn).set i (k : Int) := by simp [nz, List.map_set]
theorem nz_at (kn : List Nat) (i : Nat) (h : i < (nz kn).length) : (nz kn)[i] = ((kn[i]'(by rw [nz_len] at h; exact h) : Nat) : Int) := by simp [nz]
/-- a row in memory -/
structure RS (B rb mb : Nat) (l : List Mg) (vi vr : Value) (ids : List Int) (kn : List Nat) (W : World) : Prop where
  box : W.heap[rb]? = some (.cells #[.map (some mb), vi, vr] 104 (0, 0))
  oi : Owns W B vi ids
  ok : Owns W B vr (nz kn)
  kl : kn.length = ids.length
  map : PairMap W mb l
  ne : ∀ g, vi.ownBlock = some g → vr.ownBlock ≠ some g
  bb : B ≤ rb
  bm : B ≤ mb
section
variable {B rb mb : Nat} {l : List Mg} {vi vr : Value} {ids : List Int} {kn : List Nat} {W W' : World}
theorem RS.c0 (h : RS B rb mb l vi vr ids kn W) : W.cell? ⟨rb, 0, none⟩ = some (.map (some mb)) := by rw [Lib.cell_of_heap h.box]; rfl
theorem RS.c1 (h : RS B rb mb l vi vr ids kn W) : W.cell? ⟨rb, 1, none⟩ = some vi := by rw [Lib.cell_of_heap h.box]; rfl
theorem RS.c2 (h : RS B rb mb l vi vr ids kn W) : W.cell? ⟨rb, 2, none⟩ = some vr := by rw [Lib.cell_of_heap h.box]; rfl
theorem RS.fz (h : RS B rb mb l vi vr ids kn W) (i : Nat) : W.frozen? ⟨rb, i, none⟩ = false := Lib.frozen_of_heap h.box i
theorem RS.rlt (h : RS B rb mb l vi vr ids kn W) : rb < W.heap.size := (Array.getElem?_eq_some_iff.1 h.box).1
theorem RS.nrb (h : RS B rb mb l vi vr ids kn W) : vr.ownBlock ≠ some rb := fun e => ow.type h.ok h.box (by decide) e.symm
theorem RS.nri (h : RS B rb mb l vi vr ids kn W) : vi.ownBlock ≠ some rb := fun e => ow.type h.oi h.box (by decide) e.symm
theorem RS.nmr (h : RS B rb mb l vi vr ids kn W) : vr.ownBlock ≠ some mb := fun e => by
  obtain ⟨es, c, hm⟩ := h.map.obj
  exact ow.kind h.ok hm rfl e.symm
theorem RS.nmi (h : RS B rb mb l vi vr ids kn W) : vi.ownBlock ≠ some mb := fun e => by
  obtain ⟨es, c, hm⟩ := h.map.obj
  exact ow.kind h.oi hm rfl e.symm
theorem RS.nbm (h : RS B rb mb l vi vr ids kn W) : rb ≠ mb := fun e => by
  obtain ⟨es, c, hm⟩ := h.map.obj
  have := h.box
  rw [e, hm] at this
  cases this
theorem RS.later (h : RS B rb mb l vi vr ids kn W) (b : Below W.heap.size W W') : RS B rb mb l vi vr ids kn W' :=
  ⟨(b.block rb h.rlt).trans h.box, ow.later h.oi b, ow.later h.ok b, h.kl, h.map.keep (b.block mb h.map.lt), h.ne, h.bb, h.bm⟩
/-- the ranks are written -/
theorem RS.ranks (h : RS B rb mb l vi vr ids kn W) {kn' : List Nat} (ho : Owns W' B vr (nz kn')) (hk : kn'.length = ids.length) (hg : ∀ g, g < W.heap.size → vr.ownBlock ≠ some g → W'.heap[g]? = W.heap[g]?) : RS B rb mb l vi vr ids kn' W' :=
  ⟨(hg rb h.rlt h.nrb).trans h.box, ow.keep h.oi (fun g eg => hg g (ow.lt h.oi eg).2 (h.ne g eg)), ho, hk, h.map.keep (hg mb h.map.lt h.nmr), h.ne, h.bb, h.bm⟩
end
/-- what changes in the ranks' row alone -/
structure Only (W W' : World) (v : Value) : Prop where
  os : W'.os = W.os
  tape : W'.tape = W.tape
  output : W'.output = W.output
  size : W.heap.size ≤ W'.heap.size
  block : ∀ g, g < W.heap.size → v.ownBlock ≠ some g → W'.heap[g]? = W.heap[g]?
theorem Only.refl (W : World) (v : Value) : Only W W v := ⟨rfl, rfl, rfl, Nat.le_refl _, fun _ _ _ => rfl⟩
theorem Only.trans {W W' W'' : World} {v : Value} (h : Only W W' v) (k : Only W' W'' v) : Only W W'' v :=
  ⟨k.os.trans h.os, k.tape.trans h.tape, k.output.trans h.output, Nat.le_trans h.size k.size, fun g hg hv => (k.block g (Nat.lt_of_lt_of_le hg h.size) hv).trans (h.block g hg hv)⟩
theorem Only.set (W : World) (g i n cap : Nat) (x : Value) : Only W (W.setCell ⟨g, i, none⟩ x) (.slice (some ⟨g, 0, none⟩) n cap) :=
  ⟨rfl, rfl, rfl, by simp, fun k hk hv => Below.heap_setCell _ _ _ _ (fun e => hv (by subst e; rfl))⟩
theorem Only.drew (W : World) (n : Nat) (v : Value) : Only W (W.drewN n) v := ⟨rfl, rfl, rfl, Nat.le_refl _, fun _ _ _ => rfl⟩
theorem Only.below {B : Nat} {W W' : World} {v : Value} (h : Only W W' v) (hB : ∀ g, v.ownBlock = some g → B ≤ g) (hs : B ≤ W.heap.size) : Below B W W' :=
  ⟨h.os, h.tape, h.output, h.size, fun g hg => h.block g (Nat.lt_of_lt_of_le hg hs) (fun e => by have := hB g e; omega)⟩

theorem rk_last {l : List Mg} {ids : List Int} {i : Nat} (h : i + 1 = ids.length) : rk l ids i = 1024 := by unfold rk; rw [if_neg (by omega)]
theorem rk_in {l : List Mg} {ids : List Int} {i : Nat} (h : i + 1 < ids.length) (hm : (ids[i], ids[i + 1]) ∈ l) : rk l ids i = l.idxOf (ids[i], ids[i + 1]) := by
  unfold rk pr
  rw [if_pos h]
  have e1 : ids.getD i 0 = ids[i] := by rw [List.getD_eq_getElem?_getD, List.getElem?_eq_getElem (by omega)]; rfl
  have e2 : ids.getD (i + 1) 0 = ids[i + 1] := by rw [List.getD_eq_getElem?_getD, List.getElem?_eq_getElem (by omega)]; rfl
  rw [e1, e2, if_pos hm]
theorem rk_out {l : List Mg} {ids : List Int} {i : Nat} (h : i + 1 < ids.length) (hm : (ids[i], ids[i + 1]) ∉ l) : rk l ids i = 1024 := by
  unfold rk pr
  rw [if_pos h]
  have e1 : ids.getD i 0 = ids[i] := by rw [List.getD_eq_getElem?_getD, List.getElem?_eq_getElem (by omega)]; rfl
  have e2 : ids.getD (i + 1) 0 = ids[i + 1] := by rw [List.getD_eq_getElem?_getD, List.getElem?_eq_getElem (by omega)]; rfl
  rw [e1, e2, if_neg hm]
def LookOut (B rb mb : Nat) (l : List Mg) (vi vr : Value) (ids : List Int) (kn : List Nat) (i : Nat) (W : World) (e : Ending) (W' : World) : Prop := ∃ r, e = .returned r ∧ RS B rb mb l vi vr ids (kn.set i (rk l ids i)) W' ∧ Only W W' vr
set_option maxHeartbeats 2000000 in
set_option maxRecDepth 100000 in
theorem look_any {B rb mb : Nat} {l : List Mg} {vi vr : Value} {ids : List Int} {kn : List Nat} {W : World} (h : RS B rb mb l vi vr ids kn W) (hids : AllIn 100000 ids) (hl : ids.length ≤ 1000000) (i : Nat) (hi : i < ids.length) :
    Calls Try.prog 67 #[.pointer (some ⟨rb, 0, none⟩), .int .i64 (i : Int)] W (LookOut B rb mb l vi vr ids kn i W) := by
  have hkl := h.kl
  have hik : i < kn.length := by omega
  obtain ⟨gi, ci, rfl, i1, i2, i3, i4, i5, i6⟩ := h.oi.form (by omega)
  obtain ⟨gr, cr, rfl, r1, r2, r3, r4, r5, r6⟩ := h.ok.form (by rw [nz_len]; omega)
  have hrc := r5 i (by rw [nz_len]; omega)
  have hrf := r6 i
  have c2 := h.c2
  have hO1 := Only.set W gr i (nz kn).length cr (.int .i64 1024)
  have H1 : RS B rb mb l (.slice (some ⟨gi, 0, none⟩) ids.length ci) (.slice (some ⟨gr, 0, none⟩) (nz kn).length cr) ids (kn.set i 1024) (W.setCell ⟨gr, i, none⟩ (.int .i64 1024)) :=
    h.ranks (by rw [nz_set]; exact h.ok.put i _) (by rw [List.length_set]; exact hkl) hO1.block
  generalize hv : (nz kn)[i]'(by rw [nz_len]; omega) = x0 at hrc
  clear hv r5 r6
  generalize hnn : (nz kn).length = nk at *
  have hnk : nk = ids.length := by rw [← hnn, nz_len]; omega
  have HNK : Hid (nk = ids.length) := hnk
  have hi2 : i < nk := by omega
  clear hnn hnk
  by_cases hlast : i + 1 = ids.length
  · have g1 : (((i : Int) + 1) == (ids.length : Int)) = true := beq_iff_eq.2 (by omega)
    have HR : Hid (rk l ids i = 1024) := rk_last hlast
    have HH := (show Hid _ from H1)
    have d1 := H1.c1
    clear h i5 i6 H1 hlast
    go_enter Try.func67, Try.ntmps67
    go_wp2_with (fail)
    refine bodyPost_ret (results_none rfl _ _ _) rfl ?_
    exact ⟨_, rfl, by rw [HR.out]; exact HH.out, hO1⟩
  · have hlt : i + 1 < ids.length := by omega
    have g1 : (((i : Int) + 1) == (ids.length : Int)) = false := beq_eq_false_iff_ne.2 (by omega)
    have hp : OkM (ids[i], ids[i + 1]) := by
      have a := hids ids[i] (List.getElem_mem _)
      have b := hids ids[i + 1] (List.getElem_mem _)
      unfold InR at a b
      unfold OkM I64
      constructor <;> simp only <;> omega
    obtain ⟨c, hlk, hc⟩ := H1.map.look _ hp
    have HIN : Hid ((ids[i], ids[i + 1]) ∈ l → rk l ids i = l.idxOf (ids[i], ids[i + 1])) := rk_in hlt
    have HOUT : Hid ((ids[i], ids[i + 1]) ∉ l → rk l ids i = 1024) := rk_out hlt
    have HH := (show Hid _ from H1)
    obtain ⟨_, _, e, _, _, _, _, j5, _⟩ := H1.oi.form (by omega)
    obtain ⟨⟨rfl, _⟩, rfl⟩ : (_ = gi ∧ True) ∧ _ = ci := by simpa using e.symm
    have j0 := j5 i (by omega)
    have j1 := j5 (i + 1) (by omega)
    have d0 := H1.c0
    have d1 := H1.c1
    have d2 := H1.c2
    have hH := h
    generalize ids[i] = x at *
    generalize ids[i + 1] = y at *
    simp only at hlk
    clear h i5 i6 hlast j5 e hids
    by_cases hm : (x, y) ∈ l
    · rw [decide_eq_true hm] at hlk
      have HC : Hid (c = ((rk l ids i : Nat) : Int)) := by show _ = _; rw [hc hm, HIN.out hm]
      clear hm hc HIN HOUT H1
      go_enter Try.func67, Try.ntmps67
      go_wp2_with (fail)
      go_quiet (fail)
      go_wp2_with (fail)
      go_end0
      have K1 := HH.out.later (below_drewN (Below.refl _ _) nq)
      have O2 := Only.set ((W.setCell ⟨gr, i, none⟩ (.int .i64 1024)).drewN nq) gr i nk cr (.int .i64 c)
      refine ⟨_, rfl, ?_, (hO1.trans (Only.drew _ _ _)).trans O2⟩
      refine K1.ranks ?_ (by rw [List.length_set]; exact hkl) O2.block
      have e : kn.set i (rk l ids i) = (kn.set i 1024).set i (rk l ids i) := by rw [List.set_set]
      rw [e, nz_set, ← HC.out]
      exact K1.ok.put i c
    · rw [decide_eq_false hm] at hlk
      have HR : Hid (rk l ids i = 1024) := HOUT.out hm
      clear hm hc HIN HOUT H1
      go_enter Try.func67, Try.ntmps67
      go_wp2_with (fail)
      go_quiet (fail)
      go_wp2_with (fail)
      go_end0
      exact ⟨_, rfl, by rw [HR.out]; exact HH.out.later (below_drewN (Below.refl _ _) _), hO1.trans (Only.drew _ _ _)⟩

theorem getD_lt {kn : List Nat} {i : Nat} (h : i < kn.length) : kn.getD i 0 = kn[i] := by rw [List.getD_eq_getElem?_getD, List.getElem?_eq_getElem h]; rfl
set_option maxHeartbeats 2000000 in
set_option maxRecDepth 100000 in
theorem least_any {B rb mb : Nat} {l : List Mg} {vi vr : Value} {ids : List Int} {kn : List Nat} {W : World} (h : RS B rb mb l vi vr ids kn W) :
    Calls Try.prog 52 #[.pointer (some ⟨rb, 0, none⟩)] W fun e w' => e = .returned (.int .i64 (lst (fun i => kn.getD i 0) kn.length).2) ∧ w' = W := by
  have c2 := h.c2
  obtain ⟨o, cap, e, hrow⟩ := h.ok.ints
  rw [nz_len] at e
  subst e
  have hf := hrow.fit
  rw [nz_len] at hf
  have ht := hrow.top
  have HR : Hid (Row (In W) W iv o cap (nz kn)) := hrow
  clear hrow h
  go_enter Try.func52, Try.ntmps52
  go_wp2_with (fail)
  go_loopw [12, 3, 4] (fun y x z wr => ∃ i : Nat, y = .int .i64 i ∧ x = .int .i64 ((lst (fun i => kn.getD i 0) i).1 : Int) ∧ z = .int .i64 (lst (fun i => kn.getD i 0) i).2 ∧ i ≤ kn.length ∧ wr = W) (fun y _ _ _ => kn.length - (intOf y).toNat)
  case atStart => exact ⟨0, rfl, rfl, rfl, by omega, rfl⟩
  case round =>
    obtain ⟨i, rfl, rfl, rfl, hi, rfl⟩ := hrel
    by_cases hend : i < kn.length
    · obtain ⟨b, off, rfl, hb, hc⟩ := HR.out.lie i (by rw [nz_len]; exact hend)
      rw [nz_at] at hc
      have HL : Hid (lst (fun i => kn.getD i 0) (i + 1) = if kn[i] < (lst (fun i => kn.getD i 0) i).1 then (kn[i], (i : Int)) else lst (fun i => kn.getD i 0) i) := by
        show _ = _
        rw [lst, getD_lt hend]
      generalize kn[i] = k at *
      generalize lst (fun i => kn.getD i 0) i = p at *
      obtain ⟨r, a⟩ := p
      simp only at HL ⊢
      by_cases hk : k < r
      · have HL2 : Hid (lst (fun i => kn.getD i 0) (i + 1) = (k, (i : Int))) := by show _ = _; rw [HL.out, if_pos hk]
        have g1 : (k : Int) < (r : Int) := by omega
        clear HL
        go_wp2_with (fail)
        go_roundw
        case rel => exact ⟨i + 1, by go_num, by rw [HL2.out], by rw [HL2.out], by omega, trivial⟩
        case measure => simp [intOf]; omega
      · have HL2 : Hid (lst (fun i => kn.getD i 0) (i + 1) = (r, a)) := by show _ = _; rw [HL.out, if_neg hk]
        have g1 : ¬ (k : Int) < (r : Int) := by omega
        clear HL
        go_wp2_with (fail)
        go_roundw
        case rel => exact ⟨i + 1, by go_num, by rw [HL2.out], by rw [HL2.out], by omega, trivial⟩
        case measure => simp [intOf]; omega
    · obtain rfl : i = kn.length := by omega
      obtain ⟨p, HP⟩ : ∃ p, Hid (lst (fun i => kn.getD i 0) kn.length = p) := ⟨_, rfl⟩
      rw [HP.out]
      go_wp2_with (fail)
      go_ret
      exact ⟨by rw [HP.out]; rfl, rfl⟩
end Go.Proofs.Ythcekfmodmnekaa.mg
