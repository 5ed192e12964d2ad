/-
  Contracts over this program: a row that is begun (newRow).
-/
import Derived.Test.YthcekfmodmnekaaRg
namespace Go.Proofs.Ythcekfmodmnekaa.mg
open Go.ChangeShapes Go.WideShapes Go.ChangeAt Go.RowKit Go.Shelf Go.Maps
set_option linter.unusedVariables false
set_option maxRecDepth 100000

theorem Owns.base {W : World} {B B' : Nat} {v : Value} {l : List Int} (h : Owns W B v l) (hb : B' ≤ B) : Owns W B' v l := by
  refine ⟨h.1, ?_⟩
  rcases h.2 with h0 | ⟨g, cap, cur, e, hg, r⟩
  · exact .inl h0
  · exact .inr ⟨g, cap, cur, e, Nat.le_trans hb hg, r⟩
theorem nz_rep (n : Nat) : nz (List.replicate n 0) = List.replicate n (0 : Int) := by simp [nz]
theorem made_owns (W : World) (B n : Nat) (hB : B ≤ W.heap.size) (hn : n ≤ 1000000) : Owns (W.alloc (.cells (icells (List.replicate n 0)) 3)) B (.slice (some ⟨W.heap.size, 0, none⟩) n n) (nz (List.replicate n 0)) := by
  rw [nz_rep]
  refine ⟨by simp, .inr ⟨W.heap.size, n, _, by simp, hB, World.alloc_heap_new W _, by simp, by unfold maxLen; omega, by simp [icells], ?_⟩⟩
  simp [icells]
theorem own_lt {W : World} {B : Nat} {v : Value} {l : List Int} (h : Owns W B v l) {g : Nat} (e : v.ownBlock = some g) : B ≤ g ∧ g < W.heap.size := ow.lt h e
/-- what the three that are begun with leave -/
def Three (w : World) (l : List Mg) (ids : List Int) (n mb : Nat) (vi vr : Value) (W : World) : Prop :=
  w.heap.size ≤ mb ∧ PairMap W mb l ∧ Owns W w.heap.size vi ids ∧ Owns W w.heap.size vr (nz (List.replicate n 0)) ∧ (∀ g, vi.ownBlock = some g → vr.ownBlock ≠ some g) ∧ Below w.heap.size w W
theorem Three.row {w : World} {l : List Mg} {ids : List Int} {mb : Nat} {vi vr : Value} {W : World} (h : Three w l ids ids.length mb vi vr W) : RS w.heap.size W.heap.size mb l vi vr ids (List.replicate ids.length 0) (W.alloc (.cells #[.map (some mb), vi, vr] 104)) := by
  obtain ⟨h1, h2, h3, h4, h5, h6⟩ := h
  have b := below_alloc W (.cells #[.map (some mb), vi, vr] 104)
  exact ⟨World.alloc_heap_new W _, ow.later h3 b, ow.later h4 b, by simp, h2.keep (b.block mb h2.lt), h5, h6.size, h1⟩
theorem next_rank {l : List Mg} {ids : List Int} {kn : List Nat} {i : Nat} (hk : kn.length = ids.length) (h : ∀ j, j < i → kn.getD j 0 = rk l ids j) (hi : i < ids.length) (j : Nat) (hj : j < i + 1) : (kn.set i (rk l ids i)).getD j 0 = rk l ids j := by
  rw [getD_set _ _ _ _ (by omega)]
  by_cases e : j = i
  · subst e; rw [if_pos rfl]
  · rw [if_neg e]; exact h j (by omega)
def NewOut (l : List Mg) (ids : List Int) (w : World) (e : Ending) (W' : World) : Prop := ∃ rb mb vi vr kn, e = .returned (.pointer (some ⟨rb, 0, none⟩)) ∧ RS w.heap.size rb mb l vi vr ids kn W' ∧ Rk l ids kn ∧ Below w.heap.size w W'
set_option maxHeartbeats 4000000 in
set_option maxRecDepth 100000 in
theorem newRow_any (l : List Mg) (hl4 : l.length ≤ 1024) (ts : List ByteArray) (hF : Fine l ts) (ids : List Int) (hids : AllIn 100000 ids) (hl : ids.length ≤ 1000000) (v vs : Value) (w : World) (hv : Mgs w v l) (hs : IntsV w vs ids) : Calls Try.prog 51 #[v, vs] w (NewOut l ids w) := by
  have HA : Hid (∀ W, Below w.heap.size w W → Calls Try.prog 65 #[v] W fun e w' => ∃ mb, e = .returned (.map (some mb)) ∧ W.heap.size ≤ mb ∧ PairMap w' mb l ∧ Below W.heap.size W w') := fun W b => byPair_any l hl4 ts hF v W (hv.later b)
  have HB : Hid (∀ W, Below w.heap.size w W → Calls Try.prog 66 #[vs] W fun e w' => ∃ v', e = .returned v' ∧ Owns w' W.heap.size v' ids ∧ Below W.heap.size W w') := fun W b => clone_ints ids hl vs W (hs.later b)
  have hmk := make23 ids.length hl
  obtain ⟨o, cap, rfl, f1, f2, _⟩ := hv.form
  obtain ⟨o', cap', rfl, hrow⟩ := id hs
  have f3 := hrow.fit
  have f4 := hrow.top
  have kR : Below w.heap.size w w := Below.refl _ _
  clear hv hs hrow
  go_enter Try.func51, Try.ntmps51
  go_wp2_with (fail)
  refine wp_region_held (S := fun W => Below w.heap.size w W) (by kernel_rfl) ?_
  refine rg.take_op (i := 0) 7 rfl rfl (rg.yields_run rfl (v := .slice o l.length cap) (fun W h => rg.x_move rfl rfl)) (by kernel_rfl) (by kernel_rfl) (by kernel_rfl) (fun _ _ _ h => h) kR.drew ?_
  refine rg.take_op (i := 2) 9 rfl rfl (rg.yields_run rfl (v := .slice o' ids.length cap') (fun W h => rg.x_move rfl rfl)) (by kernel_rfl) (by kernel_rfl) (by kernel_rfl) (fun _ _ _ h => h) kR.drew ?_
  refine rg.take_op (i := 4) 11 rfl rfl (rg.yields_run rfl (v := .slice o' ids.length cap') (fun W h => rg.x_move rfl rfl)) (by kernel_rfl) (by kernel_rfl) (by kernel_rfl) (fun _ _ _ h => h) kR.drew ?_
  refine rg.take_op (i := 5) 12 rfl rfl (rg.yields_run rfl (v := .int .i64 (ids.length : Int)) (fun W h => by kernel_rfl)) (by kernel_rfl) (by kernel_rfl) (by kernel_rfl) (fun _ _ _ h => h) kR.drew ?_
  simp only [Act.put, List.setIfInBounds_toArray, List.set_cons_zero, List.set_cons_succ]
  refine rg.two (i := 1) (j := 6) (by kernel_rfl) ?_ ?_
  · refine rg.op_call 1 8 (f := 65) (args := #[.slice o l.length cap]) rfl rfl rfl (by kernel_rfl) ?_
    refine (HA.out w.drew kR.drew).mono ?_
    rintro e w1 ⟨mb, rfl, hm0, pm, c1⟩
    have s1 := c1.size
    have b1 : Below w.heap.size w w1 := (kR.drew).trans (c1.mono (kR.drew).size)
    have hmb : w.heap.size ≤ mb := Nat.le_trans (kR.drew).size hm0
    refine ⟨_, rfl, ?_⟩
    refine ⟨b1, ?_⟩
    simp only [Act.put, List.setIfInBounds_toArray, List.set_cons_zero, List.set_cons_succ]
    refine rg.two (i := 3) (j := 6) (by kernel_rfl) ?_ ?_
    · refine rg.op_call 3 10 (f := 66) (args := #[.slice o' ids.length cap']) rfl rfl rfl (by kernel_rfl) ?_
      refine (HB.out w1 b1).mono ?_
      rintro e w2 ⟨vi, rfl, oi0, c2⟩
      have s2 := c2.size
      have b2 : Below w.heap.size w w2 := (b1).trans (c2.mono (b1).size)
      have oi1 := oi0
      have oi := oi0.base (b1).size
      replace pm := pm.keep (c2.block mb pm.lt)
      refine ⟨_, rfl, ?_⟩
      refine ⟨b2, ?_⟩
      simp only [Act.put, List.setIfInBounds_toArray, List.set_cons_zero, List.set_cons_succ]
      refine rg.one (i := 6) (by kernel_rfl) ?_
      · obtain ⟨w3, hw3⟩ : ∃ w', w' = World.alloc (w2) (.cells (icells (List.replicate ids.length 0)) 3) := ⟨_, rfl⟩
        obtain ⟨gr, hgr⟩ : ∃ g, g = (w2).heap.size := ⟨_, rfl⟩
        have c3 : Below (w2).heap.size (w2) w3 := by rw [hw3]; exact below_alloc _ _
        have s3 : w3.heap.size = (w2).heap.size + 1 := by rw [hw3]; simp
        have ok := made_owns (w2) w.heap.size ids.length (b2).size hl
        have b3 : Below w.heap.size w w3 := (b2).trans (c3.mono (b2).size)
        refine rg.op_val 6 13 (v := .slice (some ⟨(w2).heap.size, 0, none⟩) ids.length ids.length) (w' := w3) rfl rfl rfl (by rw [hw3]; exact rg.x_make30 rfl rfl rfl hl) ?_
        rw [← hw3] at ok
        rw [← hgr] at ok ⊢
        replace pm := pm.keep (c3.block mb pm.lt)
        replace oi := ow.later oi c3
        clear hw3
        have hne : ∀ g, vi.ownBlock = some g → (Value.slice (some ⟨gr, 0, none⟩) ids.length ids.length).ownBlock ≠ some g := fun g e1 e2 => by
          have e3 : gr = g := Option.some.inj e2
          have := (ow.lt oi1 e1).2
          omega
        have HT : Hid (Three w l ids ids.length mb vi (.slice (some ⟨gr, 0, none⟩) ids.length ids.length) w3) := ⟨hmb, pm, oi, ok, hne, b3⟩
        refine ⟨b3, ?_⟩
        simp only [Act.put, List.setIfInBounds_toArray, List.set_cons_zero, List.set_cons_succ]
        clear hne hgr oi0 oi1 s1 s2 s3
        try clear b1
        try clear b2
        try clear b3
        generalize w3 = wT at *
        obtain ⟨o2, q2, hvi, _, _⟩ := ow.form HT.out.2.2.1
        subst hvi
        refine rg.take_op (i := 7) 14 rfl rfl (rg.yields_run rfl (v := .agg #[.map (some mb), .slice o2 ids.length q2, .slice (some ⟨gr, 0, none⟩) ids.length ids.length]) (fun W h => by kernel_rfl)) (by kernel_rfl) (by kernel_rfl) (by kernel_rfl) (fun _ _ _ h => h) HT.out.2.2.2.2.2 ?_
        simp only [Act.put, List.setIfInBounds_toArray, List.set_cons_zero, List.set_cons_succ]
        refine rg.one (i := 8) (by kernel_rfl) ?_
        refine rg.op_val 8 15 (v := .pointer (some ⟨wT.heap.size, 0, none⟩)) (w' := wT.alloc (.cells #[.map (some mb), .slice o2 ids.length q2, .slice (some ⟨gr, 0, none⟩) ids.length ids.length] 104)) rfl rfl rfl (by kernel_rfl) ?_
        have HR := HT.out.row
        have hB : Below w.heap.size w (wT.alloc (.cells #[.map (some mb), .slice o2 ids.length q2, .slice (some ⟨gr, 0, none⟩) ids.length ids.length] 104)) := HT.out.2.2.2.2.2.alloc HT.out.2.2.2.2.2.size _
        refine ⟨hB, ?_⟩
        simp only [Act.put, List.setIfInBounds_toArray, List.set_cons_zero, List.set_cons_succ]
        refine rg.take_op (i := 9) 5 rfl rfl (rg.yields_run rfl (v := .pointer (some ⟨wT.heap.size, 0, none⟩)) (fun W h => by kernel_rfl)) (by kernel_rfl) (by kernel_rfl) (by kernel_rfl) (fun _ _ _ h => h) hB ?_
        simp only [Act.put, List.setIfInBounds_toArray, List.set_cons_zero, List.set_cons_succ]
        refine rg.done_op (by kernel_rfl) ?_
        clear HT HA HB hmk
        generalize wT.alloc (.cells #[.map (some mb), .slice o2 ids.length q2, .slice (some ⟨gr, 0, none⟩) ids.length ids.length] 104) = wU at *
        generalize wT.heap.size = rb at *
        go_wp2_with (fail)
        go_loopw [18] (fun y wr => ∃ (i : Nat) (kn : List Nat), y = .int .i64 i ∧ i ≤ ids.length ∧ Hid (RS w.heap.size rb mb l (.slice o2 ids.length q2) (.slice (some ⟨gr, 0, none⟩) ids.length ids.length) ids kn wr) ∧ Hid (∀ j, j < i → kn.getD j 0 = rk l ids j) ∧ Below w.heap.size w wr) (fun y _ => ids.length - (intOf y).toNat)
        case atStart => exact ⟨0, _, rfl, by omega, HR, fun j hj => by omega, hB⟩
        case round =>
          obtain ⟨i, kn, rfl, hi, HS, HK, hB1⟩ := hrel
          by_cases hend : i < ids.length
          · have cL := look_any HS.out hids hl i hend
            have HN : Hid (∀ j, j < i + 1 → (kn.set i (rk l ids i)).getD j 0 = rk l ids j) := fun j hj => next_rank HS.out.kl HK.out hend j hj
            clear HK HR
            go_wp2_with (go_at_call 67; refine cL.mono ?_; rintro e w9 ⟨_, rfl, HS9, HO9⟩)
            have hB9 := hB1.trans (HO9.below (B := w.heap.size) (fun g eg => (ow.lt HS.out.ok eg).1) hB1.size)
            go_roundw
            case rel => exact ⟨i + 1, _, by go_num, by omega, HS9, HN.out, hB9⟩
            case measure => simp [intOf]; omega
          · have HF : Hid (NewOut l ids w (.returned (.pointer (some ⟨rb, 0, none⟩))) wr) := ⟨rb, mb, _, _, kn, rfl, HS.out, ⟨HS.out.kl, fun j hj => HK.out j (by omega)⟩, hB1⟩
            clear HK HR HS
            go_wp2_with (fail)
            go_ret
            exact HF.out
    · obtain ⟨w2, hw2⟩ : ∃ w', w' = World.alloc (w1) (.cells (icells (List.replicate ids.length 0)) 3) := ⟨_, rfl⟩
      obtain ⟨gr, hgr⟩ : ∃ g, g = (w1).heap.size := ⟨_, rfl⟩
      have c2 : Below (w1).heap.size (w1) w2 := by rw [hw2]; exact below_alloc _ _
      have s2 : w2.heap.size = (w1).heap.size + 1 := by rw [hw2]; simp
      have ok := made_owns (w1) w.heap.size ids.length (b1).size hl
      have b2 : Below w.heap.size w w2 := (b1).trans (c2.mono (b1).size)
      refine rg.op_val 6 13 (v := .slice (some ⟨(w1).heap.size, 0, none⟩) ids.length ids.length) (w' := w2) rfl rfl rfl (by rw [hw2]; exact rg.x_make30 rfl rfl rfl hl) ?_
      rw [← hw2] at ok
      rw [← hgr] at ok ⊢
      replace pm := pm.keep (c2.block mb pm.lt)
      clear hw2
      refine ⟨b2, ?_⟩
      simp only [Act.put, List.setIfInBounds_toArray, List.set_cons_zero, List.set_cons_succ]
      refine rg.one (i := 3) (by kernel_rfl) ?_
      · refine rg.op_call 3 10 (f := 66) (args := #[.slice o' ids.length cap']) rfl rfl rfl (by kernel_rfl) ?_
        refine (HB.out w2 b2).mono ?_
        rintro e w3 ⟨vi, rfl, oi0, c3⟩
        have s3 := c3.size
        have b3 : Below w.heap.size w w3 := (b2).trans (c3.mono (b2).size)
        have oi1 := oi0
        have oi := oi0.base (b2).size
        replace pm := pm.keep (c3.block mb pm.lt)
        replace ok := ow.later ok c3
        refine ⟨_, rfl, ?_⟩
        have hne : ∀ g, vi.ownBlock = some g → (Value.slice (some ⟨gr, 0, none⟩) ids.length ids.length).ownBlock ≠ some g := fun g e1 e2 => by
          have e3 : gr = g := Option.some.inj e2
          have := (ow.lt oi0 e1).1
          omega
        have HT : Hid (Three w l ids ids.length mb vi (.slice (some ⟨gr, 0, none⟩) ids.length ids.length) w3) := ⟨hmb, pm, oi, ok, hne, b3⟩
        refine ⟨b3, ?_⟩
        simp only [Act.put, List.setIfInBounds_toArray, List.set_cons_zero, List.set_cons_succ]
        clear hne hgr oi0 oi1 s1 s2 s3
        try clear b1
        try clear b2
        try clear b3
        generalize w3 = wT at *
        obtain ⟨o2, q2, hvi, _, _⟩ := ow.form HT.out.2.2.1
        subst hvi
        refine rg.take_op (i := 7) 14 rfl rfl (rg.yields_run rfl (v := .agg #[.map (some mb), .slice o2 ids.length q2, .slice (some ⟨gr, 0, none⟩) ids.length ids.length]) (fun W h => by kernel_rfl)) (by kernel_rfl) (by kernel_rfl) (by kernel_rfl) (fun _ _ _ h => h) HT.out.2.2.2.2.2 ?_
        simp only [Act.put, List.setIfInBounds_toArray, List.set_cons_zero, List.set_cons_succ]
        refine rg.one (i := 8) (by kernel_rfl) ?_
        refine rg.op_val 8 15 (v := .pointer (some ⟨wT.heap.size, 0, none⟩)) (w' := wT.alloc (.cells #[.map (some mb), .slice o2 ids.length q2, .slice (some ⟨gr, 0, none⟩) ids.length ids.length] 104)) rfl rfl rfl (by kernel_rfl) ?_
        have HR := HT.out.row
        have hB : Below w.heap.size w (wT.alloc (.cells #[.map (some mb), .slice o2 ids.length q2, .slice (some ⟨gr, 0, none⟩) ids.length ids.length] 104)) := HT.out.2.2.2.2.2.alloc HT.out.2.2.2.2.2.size _
        refine ⟨hB, ?_⟩
        simp only [Act.put, List.setIfInBounds_toArray, List.set_cons_zero, List.set_cons_succ]
        refine rg.take_op (i := 9) 5 rfl rfl (rg.yields_run rfl (v := .pointer (some ⟨wT.heap.size, 0, none⟩)) (fun W h => by kernel_rfl)) (by kernel_rfl) (by kernel_rfl) (by kernel_rfl) (fun _ _ _ h => h) hB ?_
        simp only [Act.put, List.setIfInBounds_toArray, List.set_cons_zero, List.set_cons_succ]
        refine rg.done_op (by kernel_rfl) ?_
        clear HT HA HB hmk
        generalize wT.alloc (.cells #[.map (some mb), .slice o2 ids.length q2, .slice (some ⟨gr, 0, none⟩) ids.length ids.length] 104) = wU at *
        generalize wT.heap.size = rb at *
        go_wp2_with (fail)
        go_loopw [18] (fun y wr => ∃ (i : Nat) (kn : List Nat), y = .int .i64 i ∧ i ≤ ids.length ∧ Hid (RS w.heap.size rb mb l (.slice o2 ids.length q2) (.slice (some ⟨gr, 0, none⟩) ids.length ids.length) ids kn wr) ∧ Hid (∀ j, j < i → kn.getD j 0 = rk l ids j) ∧ Below w.heap.size w wr) (fun y _ => ids.length - (intOf y).toNat)
        case atStart => exact ⟨0, _, rfl, by omega, HR, fun j hj => by omega, hB⟩
        case round =>
          obtain ⟨i, kn, rfl, hi, HS, HK, hB1⟩ := hrel
          by_cases hend : i < ids.length
          · have cL := look_any HS.out hids hl i hend
            have HN : Hid (∀ j, j < i + 1 → (kn.set i (rk l ids i)).getD j 0 = rk l ids j) := fun j hj => next_rank HS.out.kl HK.out hend j hj
            clear HK HR
            go_wp2_with (go_at_call 67; refine cL.mono ?_; rintro e w9 ⟨_, rfl, HS9, HO9⟩)
            have hB9 := hB1.trans (HO9.below (B := w.heap.size) (fun g eg => (ow.lt HS.out.ok eg).1) hB1.size)
            go_roundw
            case rel => exact ⟨i + 1, _, by go_num, by omega, HS9, HN.out, hB9⟩
            case measure => simp [intOf]; omega
          · have HF : Hid (NewOut l ids w (.returned (.pointer (some ⟨rb, 0, none⟩))) wr) := ⟨rb, mb, _, _, kn, rfl, HS.out, ⟨HS.out.kl, fun j hj => HK.out j (by omega)⟩, hB1⟩
            clear HK HR HS
            go_wp2_with (fail)
            go_ret
            exact HF.out
  · obtain ⟨w1, hw1⟩ : ∃ w', w' = World.alloc (w.drew) (.cells (icells (List.replicate ids.length 0)) 3) := ⟨_, rfl⟩
    obtain ⟨gr, hgr⟩ : ∃ g, g = (w.drew).heap.size := ⟨_, rfl⟩
    have c1 : Below (w.drew).heap.size (w.drew) w1 := by rw [hw1]; exact below_alloc _ _
    have s1 : w1.heap.size = (w.drew).heap.size + 1 := by rw [hw1]; simp
    have ok := made_owns (w.drew) w.heap.size ids.length (kR.drew).size hl
    have b1 : Below w.heap.size w w1 := (kR.drew).trans (c1.mono (kR.drew).size)
    refine rg.op_val 6 13 (v := .slice (some ⟨(w.drew).heap.size, 0, none⟩) ids.length ids.length) (w' := w1) rfl rfl rfl (by rw [hw1]; exact rg.x_make30 rfl rfl rfl hl) ?_
    rw [← hw1] at ok
    rw [← hgr] at ok ⊢
    clear hw1
    refine ⟨b1, ?_⟩
    simp only [Act.put, List.setIfInBounds_toArray, List.set_cons_zero, List.set_cons_succ]
    refine rg.one (i := 1) (by kernel_rfl) ?_
    · refine rg.op_call 1 8 (f := 65) (args := #[.slice o l.length cap]) rfl rfl rfl (by kernel_rfl) ?_
      refine (HA.out w1 b1).mono ?_
      rintro e w2 ⟨mb, rfl, hm0, pm, c2⟩
      have s2 := c2.size
      have b2 : Below w.heap.size w w2 := (b1).trans (c2.mono (b1).size)
      have hmb : w.heap.size ≤ mb := Nat.le_trans (b1).size hm0
      replace ok := ow.later ok c2
      refine ⟨_, rfl, ?_⟩
      refine ⟨b2, ?_⟩
      simp only [Act.put, List.setIfInBounds_toArray, List.set_cons_zero, List.set_cons_succ]
      refine rg.one (i := 3) (by kernel_rfl) ?_
      · refine rg.op_call 3 10 (f := 66) (args := #[.slice o' ids.length cap']) rfl rfl rfl (by kernel_rfl) ?_
        refine (HB.out w2 b2).mono ?_
        rintro e w3 ⟨vi, rfl, oi0, c3⟩
        have s3 := c3.size
        have b3 : Below w.heap.size w w3 := (b2).trans (c3.mono (b2).size)
        have oi1 := oi0
        have oi := oi0.base (b2).size
        replace pm := pm.keep (c3.block mb pm.lt)
        replace ok := ow.later ok c3
        refine ⟨_, rfl, ?_⟩
        have hne : ∀ g, vi.ownBlock = some g → (Value.slice (some ⟨gr, 0, none⟩) ids.length ids.length).ownBlock ≠ some g := fun g e1 e2 => by
          have e3 : gr = g := Option.some.inj e2
          have := (ow.lt oi0 e1).1
          omega
        have HT : Hid (Three w l ids ids.length mb vi (.slice (some ⟨gr, 0, none⟩) ids.length ids.length) w3) := ⟨hmb, pm, oi, ok, hne, b3⟩
        refine ⟨b3, ?_⟩
        simp only [Act.put, List.setIfInBounds_toArray, List.set_cons_zero, List.set_cons_succ]
        clear hne hgr oi0 oi1 s1 s2 s3
        try clear b1
        try clear b2
        try clear b3
        generalize w3 = wT at *
        obtain ⟨o2, q2, hvi, _, _⟩ := ow.form HT.out.2.2.1
        subst hvi
        refine rg.take_op (i := 7) 14 rfl rfl (rg.yields_run rfl (v := .agg #[.map (some mb), .slice o2 ids.length q2, .slice (some ⟨gr, 0, none⟩) ids.length ids.length]) (fun W h => by kernel_rfl)) (by kernel_rfl) (by kernel_rfl) (by kernel_rfl) (fun _ _ _ h => h) HT.out.2.2.2.2.2 ?_
        simp only [Act.put, List.setIfInBounds_toArray, List.set_cons_zero, List.set_cons_succ]
        refine rg.one (i := 8) (by kernel_rfl) ?_
        refine rg.op_val 8 15 (v := .pointer (some ⟨wT.heap.size, 0, none⟩)) (w' := wT.alloc (.cells #[.map (some mb), .slice o2 ids.length q2, .slice (some ⟨gr, 0, none⟩) ids.length ids.length] 104)) rfl rfl rfl (by kernel_rfl) ?_
        have HR := HT.out.row
        have hB : Below w.heap.size w (wT.alloc (.cells #[.map (some mb), .slice o2 ids.length q2, .slice (some ⟨gr, 0, none⟩) ids.length ids.length] 104)) := HT.out.2.2.2.2.2.alloc HT.out.2.2.2.2.2.size _
        refine ⟨hB, ?_⟩
        simp only [Act.put, List.setIfInBounds_toArray, List.set_cons_zero, List.set_cons_succ]
        refine rg.take_op (i := 9) 5 rfl rfl (rg.yields_run rfl (v := .pointer (some ⟨wT.heap.size, 0, none⟩)) (fun W h => by kernel_rfl)) (by kernel_rfl) (by kernel_rfl) (by kernel_rfl) (fun _ _ _ h => h) hB ?_
        simp only [Act.put, List.setIfInBounds_toArray, List.set_cons_zero, List.set_cons_succ]
        refine rg.done_op (by kernel_rfl) ?_
        clear HT HA HB hmk
        generalize wT.alloc (.cells #[.map (some mb), .slice o2 ids.length q2, .slice (some ⟨gr, 0, none⟩) ids.length ids.length] 104) = wU at *
        generalize wT.heap.size = rb at *
        go_wp2_with (fail)
        go_loopw [18] (fun y wr => ∃ (i : Nat) (kn : List Nat), y = .int .i64 i ∧ i ≤ ids.length ∧ Hid (RS w.heap.size rb mb l (.slice o2 ids.length q2) (.slice (some ⟨gr, 0, none⟩) ids.length ids.length) ids kn wr) ∧ Hid (∀ j, j < i → kn.getD j 0 = rk l ids j) ∧ Below w.heap.size w wr) (fun y _ => ids.length - (intOf y).toNat)
        case atStart => exact ⟨0, _, rfl, by omega, HR, fun j hj => by omega, hB⟩
        case round =>
          obtain ⟨i, kn, rfl, hi, HS, HK, hB1⟩ := hrel
          by_cases hend : i < ids.length
          · have cL := look_any HS.out hids hl i hend
            have HN : Hid (∀ j, j < i + 1 → (kn.set i (rk l ids i)).getD j 0 = rk l ids j) := fun j hj => next_rank HS.out.kl HK.out hend j hj
            clear HK HR
            go_wp2_with (go_at_call 67; refine cL.mono ?_; rintro e w9 ⟨_, rfl, HS9, HO9⟩)
            have hB9 := hB1.trans (HO9.below (B := w.heap.size) (fun g eg => (ow.lt HS.out.ok eg).1) hB1.size)
            go_roundw
            case rel => exact ⟨i + 1, _, by go_num, by omega, HS9, HN.out, hB9⟩
            case measure => simp [intOf]; omega
          · have HF : Hid (NewOut l ids w (.returned (.pointer (some ⟨rb, 0, none⟩))) wr) := ⟨rb, mb, _, _, kn, rfl, HS.out, ⟨HS.out.kl, fun j hj => HK.out j (by omega)⟩, hB1⟩
            clear HK HR HS
            go_wp2_with (fail)
            go_ret
            exact HF.out
end Go.Proofs.Ythcekfmodmnekaa.mg
