/-
  Contracts over this program: one id of a pair (row.join).
-/
import Derived.Test.YthcekfmodmnekaaMj
namespace Go.Proofs.Ythcekfmodmnekaa.mg
open Go.ChangeShapes Go.WideShapes Go.ChangeAt Go.RowKit Go.Shelf Go.Maps
set_option linter.unusedVariables false
set_option maxRecDepth 100000

/-- a row in memory, the lengths aside -/
structure RB (B rb mb : Nat) (l : List Mg) (vi vr : Value) (ids : List Int) (kn : List Nat) (W : World) : Prop where
  box : W.heap[rb]? = some (.cells #[.map (some mb), vi, vr] 104 (0, 0))
  oi : Owns W B vi ids
  ok : Owns W B vr (nz kn)
  map : PairMap W mb l
  ne : ∀ g, vi.ownBlock = some g → vr.ownBlock ≠ some g
  bb : B ≤ rb
  bm : B ≤ mb
section
variable {B rb mb : Nat} {l : List Mg} {vi vr vi' vr' : Value} {ids ids' : List Int} {kn kn' : List Nat} {W W' : World}
theorem RS.bare (h : RS B rb mb l vi vr ids kn W) : RB B rb mb l vi vr ids kn W := ⟨h.box, h.oi, h.ok, h.map, h.ne, h.bb, h.bm⟩
theorem RB.rs (h : RB B rb mb l vi vr ids kn W) (hk : kn.length = ids.length) : RS B rb mb l vi vr ids kn W := ⟨h.box, h.oi, h.ok, hk, h.map, h.ne, h.bb, h.bm⟩
theorem RB.c1 (h : RB B rb mb l vi vr ids kn W) : W.cell? ⟨rb, 1, none⟩ = some vi := by rw [Lib.cell_of_heap h.box]; rfl
theorem RB.c2 (h : RB B rb mb l vi vr ids kn W) : W.cell? ⟨rb, 2, none⟩ = some vr := by rw [Lib.cell_of_heap h.box]; rfl
theorem RB.fz (h : RB B rb mb l vi vr ids kn W) (i : Nat) : W.frozen? ⟨rb, i, none⟩ = false := Lib.frozen_of_heap h.box i
theorem RB.rlt (h : RB B rb mb l vi vr ids kn W) : rb < W.heap.size := (Array.getElem?_eq_some_iff.1 h.box).1
theorem RB.nrb (h : RB B rb mb l vi vr ids kn W) : vr.ownBlock ≠ some rb := fun e => ow.type h.ok h.box (by decide) e.symm
theorem RB.nri (h : RB B rb mb l vi vr ids kn W) : vi.ownBlock ≠ some rb := fun e => ow.type h.oi h.box (by decide) e.symm
theorem RB.nmr (h : RB B rb mb l vi vr ids kn W) : vr.ownBlock ≠ some mb := fun e => by
  obtain ⟨es, c, hm⟩ := h.map.obj
  exact ow.kind h.ok hm rfl e.symm
theorem RB.nmi (h : RB B rb mb l vi vr ids kn W) : vi.ownBlock ≠ some mb := fun e => by
  obtain ⟨es, c, hm⟩ := h.map.obj
  exact ow.kind h.oi hm rfl e.symm
theorem RB.nbm (h : RB B rb mb l vi vr ids kn W) : rb ≠ mb := fun e => by
  obtain ⟨es, c, hm⟩ := h.map.obj
  have := h.box
  rw [e, hm] at this
  cases this
theorem RB.later (h : RB B rb mb l vi vr ids kn W) (b : Below W.heap.size W W') : RB B rb mb l vi vr ids kn W' :=
  ⟨(b.block rb h.rlt).trans h.box, ow.later h.oi b, ow.later h.ok b, h.map.keep (b.block mb h.map.lt), h.ne, h.bb, h.bm⟩
/-- the ids are written -/
theorem RB.wrote (h : RB B rb mb l vi vr ids kn W) (ho : Owns W' B vi ids') (hg : ∀ g, g < W.heap.size → vi.ownBlock ≠ some g → W'.heap[g]? = W.heap[g]?) : RB B rb mb l vi vr ids' kn W' :=
  ⟨(hg rb h.rlt h.nri).trans h.box, ho, ow.keep h.ok (fun g eg => hg g (ow.lt h.ok eg).2 (fun e => h.ne g e eg)), h.map.keep (hg mb h.map.lt h.nmi), h.ne, h.bb, h.bm⟩
theorem box_put1 {x0 x1 x2 v : Value} (h : W.heap[rb]? = some (.cells #[x0, x1, x2] 104 (0, 0))) : (W.setCell ⟨rb, 1, none⟩ v).heap[rb]? = some (.cells #[x0, v, x2] 104 (0, 0)) := by
  rw [set_heap W rb _ _ 1 _ h]; rfl
theorem box_put2 {x0 x1 x2 v : Value} (h : W.heap[rb]? = some (.cells #[x0, x1, x2] 104 (0, 0))) : (W.setCell ⟨rb, 2, none⟩ v).heap[rb]? = some (.cells #[x0, x1, v] 104 (0, 0)) := by
  rw [set_heap W rb _ _ 2 _ h]; rfl
/-- the ids are cut -/
theorem RB.cutI (h : RB B rb mb l vi vr ids kn W) (ho : Owns W' B vi' ids') (hg : W.grownBy W' vi.ownBlock) (hv : vi'.ownBlock = vi.ownBlock) : RB B rb mb l vi' vr ids' kn (W'.setCell ⟨rb, 1, none⟩ vi') := by
  have hk : ∀ g, g < W.heap.size → g ≠ rb → vi.ownBlock ≠ some g → (W'.setCell ⟨rb, 1, none⟩ vi').heap[g]? = W.heap[g]? := fun g h1 h2 h3 => by
    rw [Below.heap_setCell _ _ _ _ h2]
    exact hg.block g h1 (fun e => h3 e.symm)
  refine ⟨box_put1 ((hg.block rb h.rlt (fun e => h.nri e.symm)).trans h.box), ow.keep ho (fun g eg => Below.heap_setCell _ _ _ _ (fun e => h.nri (by rw [← hv, eg, e]))), ow.keep h.ok (fun g eg => hk g (ow.lt h.ok eg).2 (fun e => h.nrb (by rw [eg, e])) (fun e => h.ne g e eg)), h.map.keep (hk mb h.map.lt (fun e => h.nbm e.symm) h.nmi), fun g eg => h.ne g (by rw [← hv]; exact eg), h.bb, h.bm⟩
theorem RB.cutK (h : RB B rb mb l vi vr ids kn W) (ho : Owns W' B vr' (nz kn')) (hg : W.grownBy W' vr.ownBlock) (hv : vr'.ownBlock = vr.ownBlock) : RB B rb mb l vi vr' ids kn' (W'.setCell ⟨rb, 2, none⟩ vr') := by
  have hk : ∀ g, g < W.heap.size → g ≠ rb → vr.ownBlock ≠ some g → (W'.setCell ⟨rb, 2, none⟩ vr').heap[g]? = W.heap[g]? := fun g h1 h2 h3 => by
    rw [Below.heap_setCell _ _ _ _ h2]
    exact hg.block g h1 (fun e => h3 e.symm)
  refine ⟨box_put2 ((hg.block rb h.rlt (fun e => h.nrb e.symm)).trans h.box), ow.keep h.oi (fun g eg => hk g (ow.lt h.oi eg).2 (fun e => h.nri (by rw [eg, e])) (h.ne g eg)), ow.keep ho (fun g eg => Below.heap_setCell _ _ _ _ (fun e => h.nrb (by rw [← hv, eg, e]))), h.map.keep (hk mb h.map.lt (fun e => h.nbm e.symm) h.nmr), fun g eg => (by rw [hv]; exact h.ne g eg), h.bb, h.bm⟩
end
/-- the ranks are those of the ids -/
def Rk (l : List Mg) (ids : List Int) (kn : List Nat) : Prop := kn.length = ids.length ∧ ∀ i, i < ids.length → kn.getD i 0 = rk l ids i
def cut (α : Type) (k : Nat) (xs : List α) : List α := xs.take (k + 1) ++ xs.drop (k + 2)
theorem cut_join (ids : List Int) (k r : Nat) (h : k + 1 < ids.length) : (ids.set k (256 + (r : Int))).take (k + 1) ++ (ids.set k (256 + (r : Int))).drop (k + 2) = joinAt ids k r := by
  unfold joinAt
  rw [List.take_add_one, List.take_set_of_le (Nat.le_refl k), List.getElem?_set_self (by omega), List.drop_set_of_lt (by omega), List.append_assoc]
  rfl
theorem cut_get (kn : List Nat) (k i : Nat) (h : k + 1 < kn.length) : (kn.take (k + 1) ++ kn.drop (k + 2)).getD i 0 = if i ≤ k then kn.getD i 0 else kn.getD (i + 1) 0 := by
  rw [List.getD_eq_getElem?_getD]
  by_cases h1 : i ≤ k
  · rw [if_pos h1, List.getElem?_append_left (by simp; omega), List.getElem?_take_of_lt (by omega), List.getD_eq_getElem?_getD]
  · rw [if_neg h1, List.getElem?_append_right (by simp; omega), List.length_take, Nat.min_eq_left (by omega), List.getElem?_drop, List.getD_eq_getElem?_getD]
    congr 2
    omega
theorem getD_set (kn : List Nat) (k i x : Nat) (h : k < kn.length) : (kn.set k x).getD i 0 = if i = k then x else kn.getD i 0 := by
  rw [List.getD_eq_getElem?_getD, List.getD_eq_getElem?_getD]
  by_cases e : i = k
  · subst e
    rw [if_pos rfl, List.getElem?_set_self h]
    rfl
  · rw [if_neg e, List.getElem?_set_ne (fun e2 => e e2.symm)]
theorem rk_join_low {l : List Mg} {ids : List Int} {k r i : Nat} (h : k + 1 < ids.length) (hi : i + 1 < k) : rk l (joinAt ids k r) i = rk l ids i := by
  have hl := joinAt_len ids k r h
  unfold rk
  rw [if_pos (by omega), if_pos (by omega), joinAt_get ids k r i h, joinAt_get ids k r (i + 1) h, if_pos (by omega), if_pos (by omega)]
theorem rk_join_high {l : List Mg} {ids : List Int} {k r i : Nat} (h : k + 1 < ids.length) (hi : k < i) : rk l (joinAt ids k r) i = rk l ids (i + 1) := by
  have hl := joinAt_len ids k r h
  unfold rk
  by_cases h2 : i + 1 + 1 < ids.length
  · rw [if_pos (by omega), if_pos (by omega), joinAt_get ids k r i h, joinAt_get ids k r (i + 1) h, if_neg (by omega), if_neg (by omega), if_neg (by omega), if_neg (by omega)]
  · rw [if_neg (by omega), if_neg (by omega)]
theorem rk_after0 {l : List Mg} {ids : List Int} {kn : List Nat} {r : Nat} (h : 0 + 1 < ids.length) (hR : Rk l ids kn) : Rk l (joinAt ids 0 r) ((kn.take (0 + 1) ++ kn.drop (0 + 2)).set 0 (rk l (joinAt ids 0 r) 0)) := by
  have hl := joinAt_len ids 0 r h
  have hk := hR.1
  refine ⟨by simp; omega, fun i hi => ?_⟩
  rw [getD_set _ _ _ _ (by simp; omega)]
  by_cases e : i = 0
  · subst e; rw [if_pos rfl]
  · rw [if_neg e, cut_get _ _ _ (by omega), if_neg (by omega), rk_join_high h (by omega)]
    exact hR.2 (i + 1) (by omega)
theorem rk_after {l : List Mg} {ids : List Int} {kn : List Nat} {k r : Nat} (h : k + 1 + 1 < ids.length) (hR : Rk l ids kn) : Rk l (joinAt ids (k + 1) r) (((kn.take (k + 1 + 1) ++ kn.drop (k + 1 + 2)).set (k + 1) (rk l (joinAt ids (k + 1) r) (k + 1))).set k (rk l (joinAt ids (k + 1) r) k)) := by
  have hl := joinAt_len ids (k + 1) r h
  have hk := hR.1
  refine ⟨by simp; omega, fun i hi => ?_⟩
  rw [getD_set _ _ _ _ (by simp; omega)]
  by_cases e : i = k
  · subst e; rw [if_pos rfl]
  · rw [if_neg e, getD_set _ _ _ _ (by simp; omega)]
    by_cases e2 : i = k + 1
    · subst e2; rw [if_pos rfl]
    · rw [if_neg e2, cut_get _ _ _ (by omega)]
      by_cases e3 : i ≤ k + 1
      · rw [if_pos e3, rk_join_low h (by omega)]
        exact hR.2 i (by omega)
      · rw [if_neg e3, rk_join_high h (by omega)]
        exact hR.2 (i + 1) (by omega)
theorem nz_cut (kn : List Nat) (k : Nat) : (nz kn).take (k + 1) ++ (nz kn).drop (k + 2) = nz (kn.take (k + 1) ++ kn.drop (k + 2)) := by
  simp [nz, List.map_take, List.map_drop]

theorem grown_below {B : Nat} {W W' : World} {v : Value} (hg : W.grownBy W' v.ownBlock) (hB : ∀ g, v.ownBlock = some g → B ≤ g) (hs : B ≤ W.heap.size) : Below B W W' := (Below.refl B W).grown hg hs (fun k hk => hB k hk)
theorem del_ids {B rb mb : Nat} {l : List Mg} {vr : Value} {ids : List Int} {kn : List Nat} {W : World} {gi ci n : Nat} (h : RB B rb mb l (.slice (some ⟨gi, 0, none⟩) n ci) vr ids kn W) (k : Nat) (hk : k + 1 < ids.length) (hl : ids.length ≤ 1000000) (hn : n = ids.length) :
    Calls Try.prog 68 #[.slice (some ⟨gi, 0, none⟩) n ci, .int .i64 ((k : Int) + 1), .int .i64 ((k : Int) + 2)] W fun e w' => e = .returned (.slice (some ⟨gi, 0, none⟩) (n - 1) ci) ∧ w'.cell? ⟨rb, 1, none⟩ = some (.slice (some ⟨gi, 0, none⟩) n ci) ∧ w'.frozen? ⟨rb, 1, none⟩ = false ∧ Hid (RB B rb mb l (.slice (some ⟨gi, 0, none⟩) (n - 1) ci) vr (ids.take (k + 1) ++ ids.drop (k + 2)) kn (w'.setCell ⟨rb, 1, none⟩ (.slice (some ⟨gi, 0, none⟩) (n - 1) ci))) ∧ Hid (Below B W (w'.setCell ⟨rb, 1, none⟩ (.slice (some ⟨gi, 0, none⟩) (n - 1) ci))) := by
  subst hn
  refine (del_any ids k hk hl B gi ci W h.oi).mono ?_
  rintro e w' ⟨rfl, ho, hg⟩
  have hb : w'.heap[rb]? = _ := (hg.block rb h.rlt (fun e => h.nri e.symm)).trans h.box
  refine ⟨rfl, by rw [Lib.cell_of_heap hb]; rfl, Lib.frozen_of_heap hb 1, h.cutI (vi := .slice (some ⟨gi, 0, none⟩) ids.length ci) ho hg rfl, ?_⟩
  exact Below.setCell (p := ⟨rb, 1, none⟩) (grown_below (v := .slice (some ⟨gi, 0, none⟩) ids.length ci) hg (fun g eg => (ow.lt h.oi eg).1) (Nat.le_trans h.bb (Nat.le_of_lt h.rlt))) h.bb _
theorem del_ranks {B rb mb : Nat} {l : List Mg} {vi : Value} {ids : List Int} {kn : List Nat} {W : World} {gr cr n : Nat} (h : RB B rb mb l vi (.slice (some ⟨gr, 0, none⟩) n cr) ids kn W) (k : Nat) (hk : k + 1 < kn.length) (hl : kn.length ≤ 1000000) (hn : n = kn.length) :
    Calls Try.prog 68 #[.slice (some ⟨gr, 0, none⟩) n cr, .int .i64 ((k : Int) + 1), .int .i64 ((k : Int) + 2)] W fun e w' => e = .returned (.slice (some ⟨gr, 0, none⟩) (n - 1) cr) ∧ w'.cell? ⟨rb, 2, none⟩ = some (.slice (some ⟨gr, 0, none⟩) n cr) ∧ w'.frozen? ⟨rb, 2, none⟩ = false ∧ Hid (RB B rb mb l vi (.slice (some ⟨gr, 0, none⟩) (n - 1) cr) ids (kn.take (k + 1) ++ kn.drop (k + 2)) (w'.setCell ⟨rb, 2, none⟩ (.slice (some ⟨gr, 0, none⟩) (n - 1) cr))) ∧ Hid (Below B W (w'.setCell ⟨rb, 2, none⟩ (.slice (some ⟨gr, 0, none⟩) (n - 1) cr))) := by
  subst hn
  have ho := h.ok
  rw [← nz_len kn] at ho ⊢
  refine (del_any (nz kn) k (by rw [nz_len]; exact hk) (by rw [nz_len]; exact hl) B gr cr W ho).mono ?_
  rintro e w' ⟨rfl, ho2, hg⟩
  rw [nz_cut] at ho2
  rw [nz_len] at ho2 ⊢
  have hb : w'.heap[rb]? = _ := (hg.block rb h.rlt (fun e => h.nrb e.symm)).trans h.box
  refine ⟨rfl, by rw [Lib.cell_of_heap hb]; rfl, Lib.frozen_of_heap hb 2, h.cutK (vr := .slice (some ⟨gr, 0, none⟩) kn.length cr) ho2 hg rfl, ?_⟩
  exact Below.setCell (p := ⟨rb, 2, none⟩) (grown_below (v := .slice (some ⟨gr, 0, none⟩) kn.length cr) hg (fun g eg => (ow.lt h.ok eg).1) (Nat.le_trans h.bb (Nat.le_of_lt h.rlt))) h.bb _
def JoinOut (B rb mb : Nat) (l : List Mg) (ids : List Int) (k r : Nat) (W : World) (e : Ending) (W' : World) : Prop := ∃ v vi vr kn, e = .returned v ∧ RS B rb mb l vi vr (joinAt ids k r) kn W' ∧ Rk l (joinAt ids k r) kn ∧ Below B W W'
set_option maxHeartbeats 4000000 in
set_option maxRecDepth 100000 in
theorem join_any {B rb mb : Nat} {l : List Mg} {vi vr : Value} {ids : List Int} {kn : List Nat} {W : World} (h : RS B rb mb l vi vr ids kn W) (hR : Rk l ids kn) (hids : AllIn 100000 ids) (hl : ids.length ≤ 1000000) (k r : Nat) (hk : k + 1 < ids.length) (hr : kn.getD k 0 = r) (hr2 : r < 1024) :
    Calls Try.prog 53 #[.pointer (some ⟨rb, 0, none⟩), .int .i64 (k : Int)] W (JoinOut B rb mb l ids k r W) := by
  have hkl := h.kl
  obtain ⟨gi, ci, rfl, i1, i2, i3, i4, i5, i6⟩ := h.oi.form (by omega)
  obtain ⟨gr, cr, rfl, r1, r2, r3, r4, r5, r6⟩ := h.ok.form (by rw [nz_len]; omega)
  have hrc := r5 k (by rw [nz_len]; omega)
  rw [nz_at, show kn[k] = r by rw [← hr, getD_lt (by omega)]] at hrc
  have hic := i5 k (by omega)
  have hif := i6 k
  have c1 := h.c1
  have c2 := h.c2
  have hkr : k < (nz kn).length := by rw [nz_len]; omega
  have HB := (show Hid (RB B rb mb l _ _ (ids.set k (256 + (r : Int))) kn (W.setCell ⟨gi, k, none⟩ (.int .i64 (256 + (r : Int))))) from h.bare.wrote (h.oi.put k _) (Only.set W gi k ids.length ci _).block)
  have hOW := (Only.set W gi k ids.length ci (.int .i64 (256 + (r : Int)))).below (B := B) (fun g eg => by cases eg; exact i3) (Nat.le_trans i3 (Nat.le_of_lt i4))
  have HBW := (show Hid _ from hOW)
  clear i5 i6 r5 r6 h hOW
  generalize ids[k] = x0 at *
  obtain ⟨nk, HNK⟩ : ∃ nk, Hid ((nz kn).length = nk) := ⟨_, rfl⟩
  rw [HNK.out] at hkr r1 c2 HB
  have HNK2 : Hid (nk = kn.length) := by show _ = _; rw [← HNK.out, nz_len]
  go_enter Try.func53, Try.ntmps53
  go_wp2_with (fail)
  go_region
  have HB1 : Hid (RB B rb mb l (.slice (some ⟨gi, 0, none⟩) ids.length ci) (.slice (some ⟨gr, 0, none⟩) nk cr) (ids.set k (256 + (r : Int))) kn (W.setCell ⟨gi, k, none⟩ (.int .i64 (256 + (r : Int)))).drew) := HB.out.later (below_drewN (Below.refl _ _) 1)
  have HW1 : Hid (Below B W (W.setCell ⟨gi, k, none⟩ (.int .i64 (256 + (r : Int)))).drew) := below_drewN HBW.out 1
  generalize (W.setCell ⟨gi, k, none⟩ (.int .i64 (256 + (r : Int)))).drew = w1 at HB1 HW1 ⊢
  have d1 := HB1.out.c1
  have cD := del_ids HB1.out k (by rw [List.length_set]; exact hk) (by rw [List.length_set]; exact hl) (by rw [List.length_set])
  rw [cut_join ids k r hk] at cD
  have hjl := joinAt_len ids k r hk
  have HIN : Hid (AllIn 100000 (joinAt ids k r)) := joinAt_in hids (by omega)
  have HRK : Hid (Rk l ids kn) := hR
  have HKL : Hid (kn.length = ids.length) := hkl
  have HD2 := (show Hid (∀ (w2 : World) (vi : Value) (h : RB B rb mb l vi (.slice (some ⟨gr, 0, none⟩) nk cr) (joinAt ids k r) kn w2), _) from fun w2 vi h => del_ranks h k (by have := HKL.out; omega) (by have := HKL.out; omega) HNK2.out)
  have HL1 : Hid (∀ w3 vi vr, RB B rb mb l vi vr (joinAt ids k r) (kn.take (k + 1) ++ kn.drop (k + 2)) w3 → Calls Try.prog 67 #[.pointer (some ⟨rb, 0, none⟩), .int .i64 (k : Int)] w3 (LookOut B rb mb l vi vr (joinAt ids k r) (kn.take (k + 1) ++ kn.drop (k + 2)) k w3)) := fun w3 vi vr h => look_any (h.rs (by simp; omega)) HIN.out (by omega) k (by omega)
  clear HB HBW c1 c2 hrc hic hif hR hkl hids hr
  by_cases hk0 : k = 0
  · have hpos : ¬ (0 : Int) < (k : Int) := by omega
    have HK0 : Hid (k = 0) := hk0
    clear hk0
    go_wp2_with (first | (go_at_call 68; refine cD.mono ?_; rintro e w2 ⟨rfl, q1, q2, HB2, HW2⟩; have cD2 := HD2.out _ _ HB2.out; have d2 := HB2.out.c2; clear cD d1) | (go_at_call 68; refine cD2.mono ?_; rintro e w3 ⟨rfl, q3, q4, HB3, HW3⟩; have cL := HL1.out _ _ _ HB3.out; clear cD2 d2) | (go_at_call 67; refine cL.mono ?_; rintro e w4 ⟨_, rfl, HS4, HO4⟩; clear cL))
    go_end0
    have hBr : ∀ g, (Value.slice (some ⟨gr, 0, none⟩) (nk - 1) cr).ownBlock = some g → B ≤ g := fun g eg => by cases eg; exact r3
    have hB3 := (HW1.out.trans HW2.out).trans HW3.out
    refine ⟨_, _, _, _, rfl, HS4, ?_, hB3.trans (HO4.below hBr (Nat.le_trans HB3.out.bb (Nat.le_of_lt HB3.out.rlt)))⟩
    have e := HK0.out
    subst e
    exact rk_after0 hk HRK.out
  · obtain ⟨k', HK'⟩ : ∃ k', Hid (k = k' + 1) := ⟨k - 1, by show _ = _; omega⟩
    have hpos : (0 : Int) < (k : Int) := by omega
    go_wp2_with (first | (go_at_call 68; refine cD.mono ?_; rintro e w2 ⟨rfl, q1, q2, HB2, HW2⟩; have cD2 := HD2.out _ _ HB2.out; have d2 := HB2.out.c2; clear cD d1) | (go_at_call 68; refine cD2.mono ?_; rintro e w3 ⟨rfl, q3, q4, HB3, HW3⟩; have cL := HL1.out _ _ _ HB3.out; clear cD2 d2) | (go_at_call 67; refine cL.mono ?_; rintro e w4 ⟨_, rfl, HS4, HO4⟩; clear cL))
    have e1 : (k : Int) - 1 = (k' : Int) := by have := HK'.out; omega
    rw [e1]
    have hBr : ∀ g, (Value.slice (some ⟨gr, 0, none⟩) (nk - 1) cr).ownBlock = some g → B ≤ g := fun g eg => by cases eg; exact r3
    have hsz := HO4.below hBr (Nat.le_trans HB3.out.bb (Nat.le_of_lt HB3.out.rlt))
    refine (look_any HS4 HIN.out (by omega) k' (by have := HK'.out; omega)).mono ?_
    rintro e w5 ⟨_, rfl, HS5, HO5⟩
    have HF : Hid (JoinOut B rb mb l ids k r W (.returned (.tuple #[])) w5) := by
      have hB3 := (HW1.out.trans HW2.out).trans HW3.out
      refine ⟨_, _, _, _, rfl, HS5, ?_, (hB3.trans hsz).trans (HO5.below hBr (Nat.le_trans HS4.bb (Nat.le_of_lt HS4.rlt)))⟩
      have e := HK'.out
      subst e
      exact rk_after hk HRK.out
    go_wp2_with (fail)
    go_end0
    exact HF.out
end Go.Proofs.Ythcekfmodmnekaa.mg
