/-
  For every list of merges, one merge and every list of ids the law MergeMore of package fretsawlaw13 returns true (a merge more, of the greatest rank, changes nothing but where its two stand side by side), and the arguments read as before
-/
import Derived.Test.YtciphckjjbinbaaMr
import Derived.ProofKit
import Derived.ShutString
namespace Go.Proofs.Ytciphckjjbinbaa.mergeMore
open Go.ChangeShapes Go.WideShapes Go.ChangeAt Go.RowKit
open Go.ChangeMaps (open_string shut_string)
open mg
set_option linter.unusedVariables false

theorem own : ownKnob Try.prog.godebug = none := by kernel_rfl
theorem laidOut : laidOutB Try.prog = true := by kernel_rfl

theorem apply_is (l : List Mg) (ids : List Int) (x : Nat) (y : List Int) (hx : applyE l ids = x) (hy : applyL l ids = y) (v vs : Value) (w : World) (hv : Mgs w v l) (hs : IntsV w vs ids) : Calls Try.prog 12 #[v, vs] w fun e w' => ∃ (o : Option Addr) (cap : Nat), e = .returned (.tuple #[.slice o y.length cap, .int .i64 (x : Int)]) ∧ y.length ≤ cap ∧ cap ≤ 9223372036854775807 ∧ Hid (IntsV w' (.slice o y.length cap) y) ∧ Below w.heap.size w w' := by
  refine (apply_any l ids v vs w hv hs).mono ?_
  rintro e w' ⟨v', rfl, h, b⟩
  rw [hx]
  rw [hy] at h
  obtain ⟨o, cap, rfl, h2⟩ := id h
  exact ⟨o, cap, rfl, h2.fit, h2.top, h, b⟩
theorem short_is (ids : List Int) (v : Value) (w : World) (h : IntsV w v ids) : Calls Try.prog 17 #[v] w fun e w' => ∃ (o : Option Addr) (cap : Nat), e = .returned (.slice o (ids.take 60).length cap) ∧ (ids.take 60).length ≤ cap ∧ cap ≤ 9223372036854775807 ∧ Hid (IntsV w (.slice o (ids.take 60).length cap) (ids.take 60)) ∧ w' = w := by
  refine (short_any ids v w h).mono ?_
  rintro e w' ⟨v', rfl, h', hw⟩
  subst hw
  obtain ⟨o, cap, rfl, h2⟩ := id h'
  exact ⟨o, cap, rfl, h2.fit, h2.top, h', rfl⟩
theorem applyL_ok {l : List Mg} {ids : List Int} (h : applyE l ids = 0) : applyL l ids = app l ids := by unfold applyL; rw [if_pos h]
theorem want_at {p : Mg} {z : Int} {a : List Int} {i : Nat} (h : i + 1 < a.length) (e : (a[i], a[i + 1]) = p) : want p z (a.drop i) = z :: want p z (a.drop (i + 2)) := by
  rw [List.drop_eq_getElem_cons (by omega), List.drop_eq_getElem_cons (by omega), want, if_pos e]
theorem want_not {p : Mg} {z : Int} {a : List Int} {i : Nat} (h : i + 1 < a.length) (e : (a[i], a[i + 1]) ≠ p) : want p z (a.drop i) = a[i] :: want p z (a.drop (i + 1)) := by
  rw [List.drop_eq_getElem_cons (by omega), List.drop_eq_getElem_cons (by omega), want, if_neg e]
theorem want_last {p : Mg} {z : Int} {a : List Int} {i : Nat} (h : i + 1 = a.length) (hi : i < a.length) : want p z (a.drop i) = a[i] :: want p z (a.drop (i + 1)) := by
  rw [List.drop_eq_getElem_cons hi, List.drop_of_length_le (by omega)]
  rfl

set_option maxHeartbeats 4000000 in
set_option maxRecDepth 100000 in
theorem err_a {l : List Mg} {v : Value} {w : World} (hM : Mgs w v l) (hform : (v = .slice none 0 0 ∧ l = []) ∨ ∃ a c, v = .slice (some a) l.length c) (hsm : l.length * 16 ≤ 140737488351232) {p1 p2 : Int} {ids : List Int} {vs : Value} (hs : IntsV w vs ids) (is : List Int) (his : is = ids.take 60) (xa xb : Nat) (hxa : applyE l is = xa) (hxb : applyE (l ++ [(p1, p2)]) is = xb) (h0 : xa ≠ 0) :
    Calls Try.prog 7 #[v, .agg #[.int .i64 p1, .int .i64 p2], vs] w fun e w' => e = .returned (.bool true) ∧ Below w.heap.size w w' := by
  have HIS : Hid (is = ids.take 60) := his
  have g1 : ((xa : Int) == 0) = false := beq_eq_false_iff_ne.2 (by omega)
  have g2 : ((xa : Int) != 0) = true := by rw [bne, g1]; rfl
  clear his h0
  obtain ⟨wA, HWA⟩ : ∃ wA, Hid (wA = w.alloc (.cells #[.int .i64 p1, .int .i64 p2] 43)) := ⟨_, rfl⟩
  have BA : Below w.heap.size w wA := by rw [HWA.out]; exact below_alloc _ _
  have hA : wA.heap[w.heap.size]? = some (.cells #[.int .i64 p1, .int .i64 p2] 43 (0, 0)) := by rw [HWA.out]; exact heap_alloc_new w _
  have c20 := alive_any wA
  have HSH : Hid (∀ W, Below w.heap.size w W → IntsV W vs ids) := fun W b => hs.later b
  have HML0 : Hid (∀ W, Below w.heap.size w W → Mgs W v l) := fun W b => hM.later b
  obtain ⟨o, cap, rfl, f1, f2, _⟩ := hM.form
  obtain ⟨o', cap', rfl, hrow⟩ := id hs
  have f3 := hrow.fit
  have f4 := hrow.top
  clear hM hs hrow
  rw [HWA.out] at c20
  go_enter Try.func7, Try.ntmps7
  go_wp2_with (first | (go_at_call 20; refine c20.mono ?_; rintro e w1 ⟨rfl, b1⟩; rw [← HWA.out] at b1; have c17 := short_is ids _ w1 (HSH.out w1 (chain BA b1)); rw [← HIS.out] at c17; clear c20) | (go_at_call 17; refine c17.mono ?_; rintro e w2 ⟨oi, ci, rfl, q1, q2, HI, hw⟩; obtain rfl := hw.symm; clear c17))
  have hBox : w1.heap[w.heap.size]? = some (.cells #[.int .i64 p1, .int .i64 p2] 43 (0, 0)) := (b1.block _ (Array.getElem?_eq_some_iff.1 hA).1).trans hA
  have hgA : w.heap.size < w1.heap.size := (Array.getElem?_eq_some_iff.1 hBox).1
  have B1 : Below w.heap.size w w1 := chain BA b1
  have HML : Hid (∀ W, Below w1.heap.size w1 W → Mgs W (.slice o l.length cap) l) := fun W b => HML0.out W (chain B1 b)
  clear HWA BA hA b1 HSH HML0
  generalize hgw : w.heap.size = gA at *
  have HGW : Hid (w.heap.size = gA) := hgw
  clear hgw
  have kR : Below w1.heap.size w1 w1 := Below.refl _ _
  refine wp_region_held (S := fun W => Below w1.heap.size w1 W) (by kernel_rfl) ?_
  refine rg.take_op (i := 1) 19 rfl rfl (rg.yields_run rfl (v := .slice o l.length cap) (fun W h => rg.x_move rfl rfl)) (by kernel_rfl) (by kernel_rfl) (by kernel_rfl) (fun _ _ _ h => h) kR.drew ?_
  simp only [Act.put, List.setIfInBounds_toArray, List.set_cons_zero, List.set_cons_succ]
  refine rg.take_op (i := 3) 21 rfl rfl (rg.yields_run rfl (v := .agg #[.int .i64 p1, .int .i64 p2]) (fun W h => x_load43 (x := .tmp 4) rfl rfl ((h.block gA hgA).trans hBox))) (by kernel_rfl) (by kernel_rfl) (by kernel_rfl) (fun _ _ _ h => h) kR.drew ?_
  simp only [Act.put, List.setIfInBounds_toArray, List.set_cons_zero, List.set_cons_succ]
  refine rg.two (i := 0) (j := 4) (by kernel_rfl) ?_ ?_
  · skip
    obtain ⟨wv1, hwv1⟩ : ∃ w', w' = World.alloc (w1.drew) (.cells #[] 43) := ⟨_, rfl⟩
    have cv1 : Below (World.heap (w1.drew)).size (w1.drew) wv1 := by rw [hwv1]; exact below_alloc _ _
    have sv1 : (World.heap wv1).size = (World.heap (w1.drew)).size + 1 := by rw [hwv1]; simp
    have o0 : OwnM wv1 w1.heap.size (.slice (some ⟨(World.heap (w1.drew)).size, 0, none⟩) 0 0) [] := by rw [hwv1]; exact made_M _ _ (kR.drew).size
    have kv1 : Below w1.heap.size w1 wv1 := (kR.drew).trans (cv1.mono (kR.drew).size)
    refine rg.op_val 0 18 (v := .slice (some ⟨(World.heap (w1.drew)).size, 0, none⟩) 0 0) (w' := wv1) rfl rfl rfl (by rw [hwv1]; exact x_none22 rfl) ?_
    obtain ⟨gX, hgX⟩ : ∃ g, g = (World.heap (w1.drew)).size := ⟨_, rfl⟩
    rw [← hgX] at o0 ⊢
    refine ⟨kv1, ?_⟩
    simp only [Act.put, List.setIfInBounds_toArray, List.set_cons_zero, List.set_cons_succ]
    refine rg.two (i := 2) (j := 4) (by kernel_rfl) ?_ ?_
    · skip
      obtain ⟨v2, wv2, r2, o2, g2⟩ := app_l wv1 w1.heap.size _ (.slice o l.length cap) l o0 (HML.out _ kv1) hform 22 hsm (kv1).size
      have kv2 : Below w1.heap.size w1 wv2 := (kv1).grown g2 (kv1).size (fun k hk => (ow.lt o0 hk).1)
      have sv2 := g2.size
      refine rg.op_val 2 20 (v := v2) (w' := wv2) rfl rfl rfl (x_app22 (x := .tmp 18) (y := .tmp 19) rfl rfl rfl r2) ?_
      refine ⟨kv2, ?_⟩
      simp only [Act.put, List.setIfInBounds_toArray, List.set_cons_zero, List.set_cons_succ]
      refine rg.one (i := 4) (by kernel_rfl) ?_
      · skip
        obtain ⟨wv3, hwv3⟩ : ∃ w', w' = World.alloc (wv2) (.cells #[.int .i64 p1, .int .i64 p2] 43) := ⟨_, rfl⟩
        have cv3 : Below (World.heap (wv2)).size (wv2) wv3 := by rw [hwv3]; exact below_alloc _ _
        have sv3 : (World.heap wv3).size = (World.heap (wv2)).size + 1 := by rw [hwv3]; simp
        have hY : (World.heap wv3)[(World.heap (wv2)).size]? = some (.cells #[.int .i64 p1, .int .i64 p2] 43 (0, 0)) := by rw [hwv3]; exact heap_alloc_new _ _
        have kv3 : Below w1.heap.size w1 wv3 := (kv2).trans (cv3.mono (kv2).size)
        refine rg.op_val 4 22 (v := .slice (some ⟨(World.heap (wv2)).size, 0, none⟩) 1 1) (w' := wv3) rfl rfl rfl (by rw [hwv3]; kernel_rfl) ?_
        replace o2 := o2.later cv3
        obtain ⟨gY, hgY⟩ : ∃ g, g = (World.heap (wv2)).size := ⟨_, rfl⟩
        rw [← hgY] at hY ⊢
        refine ⟨kv3, ?_⟩
        simp only [Act.put, List.setIfInBounds_toArray, List.set_cons_zero, List.set_cons_succ]
        refine rg.one (i := 5) (by kernel_rfl) ?_
        obtain ⟨v3, w3, r3, o3, g3⟩ := app_1 wv3 w1.heap.size v2 l (p1, p2) gY o2 hY 22 hsm (kv3).size
        have k3 : Below w1.heap.size w1 w3 := (kv3).grown g3 (kv3).size (fun k hk => (ow.lt o2 hk).1)
        refine rg.op_val 5 23 (v := v3) (w' := w3) rfl rfl rfl (x_app22 (x := .tmp 20) (y := .tmp 22) rfl rfl rfl r3) ?_
        refine ⟨k3, ?_⟩
        simp only [Act.put, List.setIfInBounds_toArray, List.set_cons_zero, List.set_cons_succ]
        refine rg.take_op (i := 6) 7 rfl rfl (rg.yields_run rfl (v := v3) (fun W h => by kernel_rfl)) (by kernel_rfl) (by kernel_rfl) (by kernel_rfl) (fun _ _ _ h => h) k3 ?_
        simp only [Act.put, List.setIfInBounds_toArray, List.set_cons_zero, List.set_cons_succ]
        refine rg.done_op (by kernel_rfl) ?_
        have HM3 : Hid (Mgs w3 v3 (l ++ [(p1, p2)])) := o3.mgs
        clear o3 o2 hY
        try clear o0
        try clear r2
        try clear r3
        try clear g2
        try clear g3
        try clear hgX
        try clear hgY
        try clear sv1
        try clear sv2
        try clear sv3
        try clear cv1
        try clear cv2
        try clear cv3
        try clear hwv1
        try clear hwv2
        try clear hwv3
        try clear kv1
        try clear kv2
        try clear kv3
        have B3 : Below gA w w3 := B1.trans (k3.mono (Nat.le_of_lt hgA))
        have c12 := apply_is l is xa _ hxa rfl _ _ w3 (HML.out w3 k3) (HI.out.later k3)
        have HC : Hid (∀ W, Below w3.heap.size w3 W → Calls Try.prog 12 #[v3, .slice oi is.length ci] W fun e w' => ∃ (o : Option Addr) (cap : Nat), e = .returned (.tuple #[.slice o (applyL (l ++ [(p1, p2)]) is).length cap, .int .i64 (xb : Int)]) ∧ (applyL (l ++ [(p1, p2)]) is).length ≤ cap ∧ cap ≤ 9223372036854775807 ∧ Hid (IntsV w' (.slice o (applyL (l ++ [(p1, p2)]) is).length cap) (applyL (l ++ [(p1, p2)]) is)) ∧ Below W.heap.size W w') := fun W b => apply_is _ is xb _ hxb rfl _ _ W (HM3.out.later b) (HI.out.later (chain k3 b))
        clear HML HM3 HI hBox hxa hxb hform
        generalize applyL (l ++ [(p1, p2)]) is = yb at *
        generalize applyL l is = ya at *
        go_wp2_with (first | (go_at_call 12; refine c12.mono ?_; rintro e w4 ⟨oa, ca, rfl, s1, s2, HS4, b4⟩; have d12 := HC.out w4 b4; clear c12) | (go_at_call 12; refine d12.mono ?_; rintro e w5 ⟨ob, cb, rfl, s3, s4, HS5, b5⟩; clear d12))
        go_ret
        exact ⟨rfl, by rw [HGW.out]; exact B3.trans ((chain b4 b5).mono (Nat.le_trans (Nat.le_of_lt hgA) k3.size))⟩
    · skip
      obtain ⟨wv2, hwv2⟩ : ∃ w', w' = World.alloc (wv1) (.cells #[.int .i64 p1, .int .i64 p2] 43) := ⟨_, rfl⟩
      have cv2 : Below (World.heap (wv1)).size (wv1) wv2 := by rw [hwv2]; exact below_alloc _ _
      have sv2 : (World.heap wv2).size = (World.heap (wv1)).size + 1 := by rw [hwv2]; simp
      have hY : (World.heap wv2)[(World.heap (wv1)).size]? = some (.cells #[.int .i64 p1, .int .i64 p2] 43 (0, 0)) := by rw [hwv2]; exact heap_alloc_new _ _
      have kv2 : Below w1.heap.size w1 wv2 := (kv1).trans (cv2.mono (kv1).size)
      refine rg.op_val 4 22 (v := .slice (some ⟨(World.heap (wv1)).size, 0, none⟩) 1 1) (w' := wv2) rfl rfl rfl (by rw [hwv2]; kernel_rfl) ?_
      replace o0 := o0.later cv2
      obtain ⟨gY, hgY⟩ : ∃ g, g = (World.heap (wv1)).size := ⟨_, rfl⟩
      rw [← hgY] at hY ⊢
      refine ⟨kv2, ?_⟩
      simp only [Act.put, List.setIfInBounds_toArray, List.set_cons_zero, List.set_cons_succ]
      refine rg.one (i := 2) (by kernel_rfl) ?_
      · skip
        obtain ⟨v2, wv3, r2, o2, g2⟩ := app_l wv2 w1.heap.size _ (.slice o l.length cap) l o0 (HML.out _ kv2) hform 22 hsm (kv2).size
        have kv3 : Below w1.heap.size w1 wv3 := (kv2).grown g2 (kv2).size (fun k hk => (ow.lt o0 hk).1)
        have sv3 := g2.size
        have hY : wv3.heap[gY]? = some (.cells #[.int .i64 p1, .int .i64 p2] 43 (0, 0)) := (g2.block gY (Array.getElem?_eq_some_iff.1 hY).1 (fun e => by have e2 : gY = gX := Option.some.inj e; omega)).trans hY
        refine rg.op_val 2 20 (v := v2) (w' := wv3) rfl rfl rfl (x_app22 (x := .tmp 18) (y := .tmp 19) rfl rfl rfl r2) ?_
        refine ⟨kv3, ?_⟩
        simp only [Act.put, List.setIfInBounds_toArray, List.set_cons_zero, List.set_cons_succ]
        refine rg.one (i := 5) (by kernel_rfl) ?_
        obtain ⟨v3, w3, r3, o3, g3⟩ := app_1 wv3 w1.heap.size v2 l (p1, p2) gY o2 hY 22 hsm (kv3).size
        have k3 : Below w1.heap.size w1 w3 := (kv3).grown g3 (kv3).size (fun k hk => (ow.lt o2 hk).1)
        refine rg.op_val 5 23 (v := v3) (w' := w3) rfl rfl rfl (x_app22 (x := .tmp 20) (y := .tmp 22) rfl rfl rfl r3) ?_
        refine ⟨k3, ?_⟩
        simp only [Act.put, List.setIfInBounds_toArray, List.set_cons_zero, List.set_cons_succ]
        refine rg.take_op (i := 6) 7 rfl rfl (rg.yields_run rfl (v := v3) (fun W h => by kernel_rfl)) (by kernel_rfl) (by kernel_rfl) (by kernel_rfl) (fun _ _ _ h => h) k3 ?_
        simp only [Act.put, List.setIfInBounds_toArray, List.set_cons_zero, List.set_cons_succ]
        refine rg.done_op (by kernel_rfl) ?_
        have HM3 : Hid (Mgs w3 v3 (l ++ [(p1, p2)])) := o3.mgs
        clear o3 o2 hY
        try clear o0
        try clear r2
        try clear r3
        try clear g2
        try clear g3
        try clear hgX
        try clear hgY
        try clear sv1
        try clear sv2
        try clear sv3
        try clear cv1
        try clear cv2
        try clear cv3
        try clear hwv1
        try clear hwv2
        try clear hwv3
        try clear kv1
        try clear kv2
        try clear kv3
        have B3 : Below gA w w3 := B1.trans (k3.mono (Nat.le_of_lt hgA))
        have c12 := apply_is l is xa _ hxa rfl _ _ w3 (HML.out w3 k3) (HI.out.later k3)
        have HC : Hid (∀ W, Below w3.heap.size w3 W → Calls Try.prog 12 #[v3, .slice oi is.length ci] W fun e w' => ∃ (o : Option Addr) (cap : Nat), e = .returned (.tuple #[.slice o (applyL (l ++ [(p1, p2)]) is).length cap, .int .i64 (xb : Int)]) ∧ (applyL (l ++ [(p1, p2)]) is).length ≤ cap ∧ cap ≤ 9223372036854775807 ∧ Hid (IntsV w' (.slice o (applyL (l ++ [(p1, p2)]) is).length cap) (applyL (l ++ [(p1, p2)]) is)) ∧ Below W.heap.size W w') := fun W b => apply_is _ is xb _ hxb rfl _ _ W (HM3.out.later b) (HI.out.later (chain k3 b))
        clear HML HM3 HI hBox hxa hxb hform
        generalize applyL (l ++ [(p1, p2)]) is = yb at *
        generalize applyL l is = ya at *
        go_wp2_with (first | (go_at_call 12; refine c12.mono ?_; rintro e w4 ⟨oa, ca, rfl, s1, s2, HS4, b4⟩; have d12 := HC.out w4 b4; clear c12) | (go_at_call 12; refine d12.mono ?_; rintro e w5 ⟨ob, cb, rfl, s3, s4, HS5, b5⟩; clear d12))
        go_ret
        exact ⟨rfl, by rw [HGW.out]; exact B3.trans ((chain b4 b5).mono (Nat.le_trans (Nat.le_of_lt hgA) k3.size))⟩
  · skip
    obtain ⟨wv1, hwv1⟩ : ∃ w', w' = World.alloc (w1.drew) (.cells #[.int .i64 p1, .int .i64 p2] 43) := ⟨_, rfl⟩
    have cv1 : Below (World.heap (w1.drew)).size (w1.drew) wv1 := by rw [hwv1]; exact below_alloc _ _
    have sv1 : (World.heap wv1).size = (World.heap (w1.drew)).size + 1 := by rw [hwv1]; simp
    have hY : (World.heap wv1)[(World.heap (w1.drew)).size]? = some (.cells #[.int .i64 p1, .int .i64 p2] 43 (0, 0)) := by rw [hwv1]; exact heap_alloc_new _ _
    have kv1 : Below w1.heap.size w1 wv1 := (kR.drew).trans (cv1.mono (kR.drew).size)
    refine rg.op_val 4 22 (v := .slice (some ⟨(World.heap (w1.drew)).size, 0, none⟩) 1 1) (w' := wv1) rfl rfl rfl (by rw [hwv1]; kernel_rfl) ?_
    obtain ⟨gY, hgY⟩ : ∃ g, g = (World.heap (w1.drew)).size := ⟨_, rfl⟩
    rw [← hgY] at hY ⊢
    refine ⟨kv1, ?_⟩
    simp only [Act.put, List.setIfInBounds_toArray, List.set_cons_zero, List.set_cons_succ]
    refine rg.one (i := 0) (by kernel_rfl) ?_
    · skip
      obtain ⟨wv2, hwv2⟩ : ∃ w', w' = World.alloc (wv1) (.cells #[] 43) := ⟨_, rfl⟩
      have cv2 : Below (World.heap (wv1)).size (wv1) wv2 := by rw [hwv2]; exact below_alloc _ _
      have sv2 : (World.heap wv2).size = (World.heap (wv1)).size + 1 := by rw [hwv2]; simp
      have o0 : OwnM wv2 w1.heap.size (.slice (some ⟨(World.heap (wv1)).size, 0, none⟩) 0 0) [] := by rw [hwv2]; exact made_M _ _ (kv1).size
      have kv2 : Below w1.heap.size w1 wv2 := (kv1).trans (cv2.mono (kv1).size)
      refine rg.op_val 0 18 (v := .slice (some ⟨(World.heap (wv1)).size, 0, none⟩) 0 0) (w' := wv2) rfl rfl rfl (by rw [hwv2]; exact x_none22 rfl) ?_
      have hY : wv2.heap[gY]? = some (.cells #[.int .i64 p1, .int .i64 p2] 43 (0, 0)) := (cv2.block gY (Array.getElem?_eq_some_iff.1 hY).1).trans hY
      obtain ⟨gX, hgX⟩ : ∃ g, g = (World.heap (wv1)).size := ⟨_, rfl⟩
      rw [← hgX] at o0 ⊢
      refine ⟨kv2, ?_⟩
      simp only [Act.put, List.setIfInBounds_toArray, List.set_cons_zero, List.set_cons_succ]
      refine rg.one (i := 2) (by kernel_rfl) ?_
      · skip
        obtain ⟨v2, wv3, r2, o2, g2⟩ := app_l wv2 w1.heap.size _ (.slice o l.length cap) l o0 (HML.out _ kv2) hform 22 hsm (kv2).size
        have kv3 : Below w1.heap.size w1 wv3 := (kv2).grown g2 (kv2).size (fun k hk => (ow.lt o0 hk).1)
        have sv3 := g2.size
        have hY : wv3.heap[gY]? = some (.cells #[.int .i64 p1, .int .i64 p2] 43 (0, 0)) := (g2.block gY (Array.getElem?_eq_some_iff.1 hY).1 (fun e => by have e2 : gY = gX := Option.some.inj e; omega)).trans hY
        refine rg.op_val 2 20 (v := v2) (w' := wv3) rfl rfl rfl (x_app22 (x := .tmp 18) (y := .tmp 19) rfl rfl rfl r2) ?_
        refine ⟨kv3, ?_⟩
        simp only [Act.put, List.setIfInBounds_toArray, List.set_cons_zero, List.set_cons_succ]
        refine rg.one (i := 5) (by kernel_rfl) ?_
        obtain ⟨v3, w3, r3, o3, g3⟩ := app_1 wv3 w1.heap.size v2 l (p1, p2) gY o2 hY 22 hsm (kv3).size
        have k3 : Below w1.heap.size w1 w3 := (kv3).grown g3 (kv3).size (fun k hk => (ow.lt o2 hk).1)
        refine rg.op_val 5 23 (v := v3) (w' := w3) rfl rfl rfl (x_app22 (x := .tmp 20) (y := .tmp 22) rfl rfl rfl r3) ?_
        refine ⟨k3, ?_⟩
        simp only [Act.put, List.setIfInBounds_toArray, List.set_cons_zero, List.set_cons_succ]
        refine rg.take_op (i := 6) 7 rfl rfl (rg.yields_run rfl (v := v3) (fun W h => by kernel_rfl)) (by kernel_rfl) (by kernel_rfl) (by kernel_rfl) (fun _ _ _ h => h) k3 ?_
        simp only [Act.put, List.setIfInBounds_toArray, List.set_cons_zero, List.set_cons_succ]
        refine rg.done_op (by kernel_rfl) ?_
        have HM3 : Hid (Mgs w3 v3 (l ++ [(p1, p2)])) := o3.mgs
        clear o3 o2 hY
        try clear o0
        try clear r2
        try clear r3
        try clear g2
        try clear g3
        try clear hgX
        try clear hgY
        try clear sv1
        try clear sv2
        try clear sv3
        try clear cv1
        try clear cv2
        try clear cv3
        try clear hwv1
        try clear hwv2
        try clear hwv3
        try clear kv1
        try clear kv2
        try clear kv3
        have B3 : Below gA w w3 := B1.trans (k3.mono (Nat.le_of_lt hgA))
        have c12 := apply_is l is xa _ hxa rfl _ _ w3 (HML.out w3 k3) (HI.out.later k3)
        have HC : Hid (∀ W, Below w3.heap.size w3 W → Calls Try.prog 12 #[v3, .slice oi is.length ci] W fun e w' => ∃ (o : Option Addr) (cap : Nat), e = .returned (.tuple #[.slice o (applyL (l ++ [(p1, p2)]) is).length cap, .int .i64 (xb : Int)]) ∧ (applyL (l ++ [(p1, p2)]) is).length ≤ cap ∧ cap ≤ 9223372036854775807 ∧ Hid (IntsV w' (.slice o (applyL (l ++ [(p1, p2)]) is).length cap) (applyL (l ++ [(p1, p2)]) is)) ∧ Below W.heap.size W w') := fun W b => apply_is _ is xb _ hxb rfl _ _ W (HM3.out.later b) (HI.out.later (chain k3 b))
        clear HML HM3 HI hBox hxa hxb hform
        generalize applyL (l ++ [(p1, p2)]) is = yb at *
        generalize applyL l is = ya at *
        go_wp2_with (first | (go_at_call 12; refine c12.mono ?_; rintro e w4 ⟨oa, ca, rfl, s1, s2, HS4, b4⟩; have d12 := HC.out w4 b4; clear c12) | (go_at_call 12; refine d12.mono ?_; rintro e w5 ⟨ob, cb, rfl, s3, s4, HS5, b5⟩; clear d12))
        go_ret
        exact ⟨rfl, by rw [HGW.out]; exact B3.trans ((chain b4 b5).mono (Nat.le_trans (Nat.le_of_lt hgA) k3.size))⟩
set_option maxHeartbeats 4000000 in
set_option maxRecDepth 100000 in
theorem err_b {l : List Mg} {v : Value} {w : World} (hM : Mgs w v l) (hform : (v = .slice none 0 0 ∧ l = []) ∨ ∃ a c, v = .slice (some a) l.length c) (hsm : l.length * 16 ≤ 140737488351232) {p1 p2 : Int} {ids : List Int} {vs : Value} (hs : IntsV w vs ids) (is : List Int) (his : is = ids.take 60) (xb : Nat) (hxa : applyE l is = 0) (hxb : applyE (l ++ [(p1, p2)]) is = xb) (h0 : xb ≠ 0) :
    Calls Try.prog 7 #[v, .agg #[.int .i64 p1, .int .i64 p2], vs] w fun e w' => e = .returned (.bool true) ∧ Below w.heap.size w w' := by
  have HIS : Hid (is = ids.take 60) := his
  have g1 : ((xb : Int) == 0) = false := beq_eq_false_iff_ne.2 (by omega)
  have g2 : ((xb : Int) != 0) = true := by rw [bne, g1]; rfl
  clear his h0
  obtain ⟨wA, HWA⟩ : ∃ wA, Hid (wA = w.alloc (.cells #[.int .i64 p1, .int .i64 p2] 43)) := ⟨_, rfl⟩
  have BA : Below w.heap.size w wA := by rw [HWA.out]; exact below_alloc _ _
  have hA : wA.heap[w.heap.size]? = some (.cells #[.int .i64 p1, .int .i64 p2] 43 (0, 0)) := by rw [HWA.out]; exact heap_alloc_new w _
  have c20 := alive_any wA
  have HSH : Hid (∀ W, Below w.heap.size w W → IntsV W vs ids) := fun W b => hs.later b
  have HML0 : Hid (∀ W, Below w.heap.size w W → Mgs W v l) := fun W b => hM.later b
  obtain ⟨o, cap, rfl, f1, f2, _⟩ := hM.form
  obtain ⟨o', cap', rfl, hrow⟩ := id hs
  have f3 := hrow.fit
  have f4 := hrow.top
  clear hM hs hrow
  rw [HWA.out] at c20
  go_enter Try.func7, Try.ntmps7
  go_wp2_with (first | (go_at_call 20; refine c20.mono ?_; rintro e w1 ⟨rfl, b1⟩; rw [← HWA.out] at b1; have c17 := short_is ids _ w1 (HSH.out w1 (chain BA b1)); rw [← HIS.out] at c17; clear c20) | (go_at_call 17; refine c17.mono ?_; rintro e w2 ⟨oi, ci, rfl, q1, q2, HI, hw⟩; obtain rfl := hw.symm; clear c17))
  have hBox : w1.heap[w.heap.size]? = some (.cells #[.int .i64 p1, .int .i64 p2] 43 (0, 0)) := (b1.block _ (Array.getElem?_eq_some_iff.1 hA).1).trans hA
  have hgA : w.heap.size < w1.heap.size := (Array.getElem?_eq_some_iff.1 hBox).1
  have B1 : Below w.heap.size w w1 := chain BA b1
  have HML : Hid (∀ W, Below w1.heap.size w1 W → Mgs W (.slice o l.length cap) l) := fun W b => HML0.out W (chain B1 b)
  clear HWA BA hA b1 HSH HML0
  generalize hgw : w.heap.size = gA at *
  have HGW : Hid (w.heap.size = gA) := hgw
  clear hgw
  have kR : Below w1.heap.size w1 w1 := Below.refl _ _
  refine wp_region_held (S := fun W => Below w1.heap.size w1 W) (by kernel_rfl) ?_
  refine rg.take_op (i := 1) 19 rfl rfl (rg.yields_run rfl (v := .slice o l.length cap) (fun W h => rg.x_move rfl rfl)) (by kernel_rfl) (by kernel_rfl) (by kernel_rfl) (fun _ _ _ h => h) kR.drew ?_
  simp only [Act.put, List.setIfInBounds_toArray, List.set_cons_zero, List.set_cons_succ]
  refine rg.take_op (i := 3) 21 rfl rfl (rg.yields_run rfl (v := .agg #[.int .i64 p1, .int .i64 p2]) (fun W h => x_load43 (x := .tmp 4) rfl rfl ((h.block gA hgA).trans hBox))) (by kernel_rfl) (by kernel_rfl) (by kernel_rfl) (fun _ _ _ h => h) kR.drew ?_
  simp only [Act.put, List.setIfInBounds_toArray, List.set_cons_zero, List.set_cons_succ]
  refine rg.two (i := 0) (j := 4) (by kernel_rfl) ?_ ?_
  · skip
    obtain ⟨wv1, hwv1⟩ : ∃ w', w' = World.alloc (w1.drew) (.cells #[] 43) := ⟨_, rfl⟩
    have cv1 : Below (World.heap (w1.drew)).size (w1.drew) wv1 := by rw [hwv1]; exact below_alloc _ _
    have sv1 : (World.heap wv1).size = (World.heap (w1.drew)).size + 1 := by rw [hwv1]; simp
    have o0 : OwnM wv1 w1.heap.size (.slice (some ⟨(World.heap (w1.drew)).size, 0, none⟩) 0 0) [] := by rw [hwv1]; exact made_M _ _ (kR.drew).size
    have kv1 : Below w1.heap.size w1 wv1 := (kR.drew).trans (cv1.mono (kR.drew).size)
    refine rg.op_val 0 18 (v := .slice (some ⟨(World.heap (w1.drew)).size, 0, none⟩) 0 0) (w' := wv1) rfl rfl rfl (by rw [hwv1]; exact x_none22 rfl) ?_
    obtain ⟨gX, hgX⟩ : ∃ g, g = (World.heap (w1.drew)).size := ⟨_, rfl⟩
    rw [← hgX] at o0 ⊢
    refine ⟨kv1, ?_⟩
    simp only [Act.put, List.setIfInBounds_toArray, List.set_cons_zero, List.set_cons_succ]
    refine rg.two (i := 2) (j := 4) (by kernel_rfl) ?_ ?_
    · skip
      obtain ⟨v2, wv2, r2, o2, g2⟩ := app_l wv1 w1.heap.size _ (.slice o l.length cap) l o0 (HML.out _ kv1) hform 22 hsm (kv1).size
      have kv2 : Below w1.heap.size w1 wv2 := (kv1).grown g2 (kv1).size (fun k hk => (ow.lt o0 hk).1)
      have sv2 := g2.size
      refine rg.op_val 2 20 (v := v2) (w' := wv2) rfl rfl rfl (x_app22 (x := .tmp 18) (y := .tmp 19) rfl rfl rfl r2) ?_
      refine ⟨kv2, ?_⟩
      simp only [Act.put, List.setIfInBounds_toArray, List.set_cons_zero, List.set_cons_succ]
      refine rg.one (i := 4) (by kernel_rfl) ?_
      · skip
        obtain ⟨wv3, hwv3⟩ : ∃ w', w' = World.alloc (wv2) (.cells #[.int .i64 p1, .int .i64 p2] 43) := ⟨_, rfl⟩
        have cv3 : Below (World.heap (wv2)).size (wv2) wv3 := by rw [hwv3]; exact below_alloc _ _
        have sv3 : (World.heap wv3).size = (World.heap (wv2)).size + 1 := by rw [hwv3]; simp
        have hY : (World.heap wv3)[(World.heap (wv2)).size]? = some (.cells #[.int .i64 p1, .int .i64 p2] 43 (0, 0)) := by rw [hwv3]; exact heap_alloc_new _ _
        have kv3 : Below w1.heap.size w1 wv3 := (kv2).trans (cv3.mono (kv2).size)
        refine rg.op_val 4 22 (v := .slice (some ⟨(World.heap (wv2)).size, 0, none⟩) 1 1) (w' := wv3) rfl rfl rfl (by rw [hwv3]; kernel_rfl) ?_
        replace o2 := o2.later cv3
        obtain ⟨gY, hgY⟩ : ∃ g, g = (World.heap (wv2)).size := ⟨_, rfl⟩
        rw [← hgY] at hY ⊢
        refine ⟨kv3, ?_⟩
        simp only [Act.put, List.setIfInBounds_toArray, List.set_cons_zero, List.set_cons_succ]
        refine rg.one (i := 5) (by kernel_rfl) ?_
        obtain ⟨v3, w3, r3, o3, g3⟩ := app_1 wv3 w1.heap.size v2 l (p1, p2) gY o2 hY 22 hsm (kv3).size
        have k3 : Below w1.heap.size w1 w3 := (kv3).grown g3 (kv3).size (fun k hk => (ow.lt o2 hk).1)
        refine rg.op_val 5 23 (v := v3) (w' := w3) rfl rfl rfl (x_app22 (x := .tmp 20) (y := .tmp 22) rfl rfl rfl r3) ?_
        refine ⟨k3, ?_⟩
        simp only [Act.put, List.setIfInBounds_toArray, List.set_cons_zero, List.set_cons_succ]
        refine rg.take_op (i := 6) 7 rfl rfl (rg.yields_run rfl (v := v3) (fun W h => by kernel_rfl)) (by kernel_rfl) (by kernel_rfl) (by kernel_rfl) (fun _ _ _ h => h) k3 ?_
        simp only [Act.put, List.setIfInBounds_toArray, List.set_cons_zero, List.set_cons_succ]
        refine rg.done_op (by kernel_rfl) ?_
        have HM3 : Hid (Mgs w3 v3 (l ++ [(p1, p2)])) := o3.mgs
        clear o3 o2 hY
        try clear o0
        try clear r2
        try clear r3
        try clear g2
        try clear g3
        try clear hgX
        try clear hgY
        try clear sv1
        try clear sv2
        try clear sv3
        try clear cv1
        try clear cv2
        try clear cv3
        try clear hwv1
        try clear hwv2
        try clear hwv3
        try clear kv1
        try clear kv2
        try clear kv3
        have B3 : Below gA w w3 := B1.trans (k3.mono (Nat.le_of_lt hgA))
        have c12 := apply_is l is 0 _ hxa rfl _ _ w3 (HML.out w3 k3) (HI.out.later k3)
        have HC : Hid (∀ W, Below w3.heap.size w3 W → Calls Try.prog 12 #[v3, .slice oi is.length ci] W fun e w' => ∃ (o : Option Addr) (cap : Nat), e = .returned (.tuple #[.slice o (applyL (l ++ [(p1, p2)]) is).length cap, .int .i64 (xb : Int)]) ∧ (applyL (l ++ [(p1, p2)]) is).length ≤ cap ∧ cap ≤ 9223372036854775807 ∧ Hid (IntsV w' (.slice o (applyL (l ++ [(p1, p2)]) is).length cap) (applyL (l ++ [(p1, p2)]) is)) ∧ Below W.heap.size W w') := fun W b => apply_is _ is xb _ hxb rfl _ _ W (HM3.out.later b) (HI.out.later (chain k3 b))
        clear HML HM3 HI hBox hxa hxb hform
        generalize applyL (l ++ [(p1, p2)]) is = yb at *
        generalize applyL l is = ya at *
        go_wp2_with (first | (go_at_call 12; refine c12.mono ?_; rintro e w4 ⟨oa, ca, rfl, s1, s2, HS4, b4⟩; have d12 := HC.out w4 b4; clear c12) | (go_at_call 12; refine d12.mono ?_; rintro e w5 ⟨ob, cb, rfl, s3, s4, HS5, b5⟩; clear d12))
        go_ret
        exact ⟨rfl, by rw [HGW.out]; exact B3.trans ((chain b4 b5).mono (Nat.le_trans (Nat.le_of_lt hgA) k3.size))⟩
    · skip
      obtain ⟨wv2, hwv2⟩ : ∃ w', w' = World.alloc (wv1) (.cells #[.int .i64 p1, .int .i64 p2] 43) := ⟨_, rfl⟩
      have cv2 : Below (World.heap (wv1)).size (wv1) wv2 := by rw [hwv2]; exact below_alloc _ _
      have sv2 : (World.heap wv2).size = (World.heap (wv1)).size + 1 := by rw [hwv2]; simp
      have hY : (World.heap wv2)[(World.heap (wv1)).size]? = some (.cells #[.int .i64 p1, .int .i64 p2] 43 (0, 0)) := by rw [hwv2]; exact heap_alloc_new _ _
      have kv2 : Below w1.heap.size w1 wv2 := (kv1).trans (cv2.mono (kv1).size)
      refine rg.op_val 4 22 (v := .slice (some ⟨(World.heap (wv1)).size, 0, none⟩) 1 1) (w' := wv2) rfl rfl rfl (by rw [hwv2]; kernel_rfl) ?_
      replace o0 := o0.later cv2
      obtain ⟨gY, hgY⟩ : ∃ g, g = (World.heap (wv1)).size := ⟨_, rfl⟩
      rw [← hgY] at hY ⊢
      refine ⟨kv2, ?_⟩
      simp only [Act.put, List.setIfInBounds_toArray, List.set_cons_zero, List.set_cons_succ]
      refine rg.one (i := 2) (by kernel_rfl) ?_
      · skip
        obtain ⟨v2, wv3, r2, o2, g2⟩ := app_l wv2 w1.heap.size _ (.slice o l.length cap) l o0 (HML.out _ kv2) hform 22 hsm (kv2).size
        have kv3 : Below w1.heap.size w1 wv3 := (kv2).grown g2 (kv2).size (fun k hk => (ow.lt o0 hk).1)
        have sv3 := g2.size
        have hY : wv3.heap[gY]? = some (.cells #[.int .i64 p1, .int .i64 p2] 43 (0, 0)) := (g2.block gY (Array.getElem?_eq_some_iff.1 hY).1 (fun e => by have e2 : gY = gX := Option.some.inj e; omega)).trans hY
        refine rg.op_val 2 20 (v := v2) (w' := wv3) rfl rfl rfl (x_app22 (x := .tmp 18) (y := .tmp 19) rfl rfl rfl r2) ?_
        refine ⟨kv3, ?_⟩
        simp only [Act.put, List.setIfInBounds_toArray, List.set_cons_zero, List.set_cons_succ]
        refine rg.one (i := 5) (by kernel_rfl) ?_
        obtain ⟨v3, w3, r3, o3, g3⟩ := app_1 wv3 w1.heap.size v2 l (p1, p2) gY o2 hY 22 hsm (kv3).size
        have k3 : Below w1.heap.size w1 w3 := (kv3).grown g3 (kv3).size (fun k hk => (ow.lt o2 hk).1)
        refine rg.op_val 5 23 (v := v3) (w' := w3) rfl rfl rfl (x_app22 (x := .tmp 20) (y := .tmp 22) rfl rfl rfl r3) ?_
        refine ⟨k3, ?_⟩
        simp only [Act.put, List.setIfInBounds_toArray, List.set_cons_zero, List.set_cons_succ]
        refine rg.take_op (i := 6) 7 rfl rfl (rg.yields_run rfl (v := v3) (fun W h => by kernel_rfl)) (by kernel_rfl) (by kernel_rfl) (by kernel_rfl) (fun _ _ _ h => h) k3 ?_
        simp only [Act.put, List.setIfInBounds_toArray, List.set_cons_zero, List.set_cons_succ]
        refine rg.done_op (by kernel_rfl) ?_
        have HM3 : Hid (Mgs w3 v3 (l ++ [(p1, p2)])) := o3.mgs
        clear o3 o2 hY
        try clear o0
        try clear r2
        try clear r3
        try clear g2
        try clear g3
        try clear hgX
        try clear hgY
        try clear sv1
        try clear sv2
        try clear sv3
        try clear cv1
        try clear cv2
        try clear cv3
        try clear hwv1
        try clear hwv2
        try clear hwv3
        try clear kv1
        try clear kv2
        try clear kv3
        have B3 : Below gA w w3 := B1.trans (k3.mono (Nat.le_of_lt hgA))
        have c12 := apply_is l is 0 _ hxa rfl _ _ w3 (HML.out w3 k3) (HI.out.later k3)
        have HC : Hid (∀ W, Below w3.heap.size w3 W → Calls Try.prog 12 #[v3, .slice oi is.length ci] W fun e w' => ∃ (o : Option Addr) (cap : Nat), e = .returned (.tuple #[.slice o (applyL (l ++ [(p1, p2)]) is).length cap, .int .i64 (xb : Int)]) ∧ (applyL (l ++ [(p1, p2)]) is).length ≤ cap ∧ cap ≤ 9223372036854775807 ∧ Hid (IntsV w' (.slice o (applyL (l ++ [(p1, p2)]) is).length cap) (applyL (l ++ [(p1, p2)]) is)) ∧ Below W.heap.size W w') := fun W b => apply_is _ is xb _ hxb rfl _ _ W (HM3.out.later b) (HI.out.later (chain k3 b))
        clear HML HM3 HI hBox hxa hxb hform
        generalize applyL (l ++ [(p1, p2)]) is = yb at *
        generalize applyL l is = ya at *
        go_wp2_with (first | (go_at_call 12; refine c12.mono ?_; rintro e w4 ⟨oa, ca, rfl, s1, s2, HS4, b4⟩; have d12 := HC.out w4 b4; clear c12) | (go_at_call 12; refine d12.mono ?_; rintro e w5 ⟨ob, cb, rfl, s3, s4, HS5, b5⟩; clear d12))
        go_ret
        exact ⟨rfl, by rw [HGW.out]; exact B3.trans ((chain b4 b5).mono (Nat.le_trans (Nat.le_of_lt hgA) k3.size))⟩
  · skip
    obtain ⟨wv1, hwv1⟩ : ∃ w', w' = World.alloc (w1.drew) (.cells #[.int .i64 p1, .int .i64 p2] 43) := ⟨_, rfl⟩
    have cv1 : Below (World.heap (w1.drew)).size (w1.drew) wv1 := by rw [hwv1]; exact below_alloc _ _
    have sv1 : (World.heap wv1).size = (World.heap (w1.drew)).size + 1 := by rw [hwv1]; simp
    have hY : (World.heap wv1)[(World.heap (w1.drew)).size]? = some (.cells #[.int .i64 p1, .int .i64 p2] 43 (0, 0)) := by rw [hwv1]; exact heap_alloc_new _ _
    have kv1 : Below w1.heap.size w1 wv1 := (kR.drew).trans (cv1.mono (kR.drew).size)
    refine rg.op_val 4 22 (v := .slice (some ⟨(World.heap (w1.drew)).size, 0, none⟩) 1 1) (w' := wv1) rfl rfl rfl (by rw [hwv1]; kernel_rfl) ?_
    obtain ⟨gY, hgY⟩ : ∃ g, g = (World.heap (w1.drew)).size := ⟨_, rfl⟩
    rw [← hgY] at hY ⊢
    refine ⟨kv1, ?_⟩
    simp only [Act.put, List.setIfInBounds_toArray, List.set_cons_zero, List.set_cons_succ]
    refine rg.one (i := 0) (by kernel_rfl) ?_
    · skip
      obtain ⟨wv2, hwv2⟩ : ∃ w', w' = World.alloc (wv1) (.cells #[] 43) := ⟨_, rfl⟩
      have cv2 : Below (World.heap (wv1)).size (wv1) wv2 := by rw [hwv2]; exact below_alloc _ _
      have sv2 : (World.heap wv2).size = (World.heap (wv1)).size + 1 := by rw [hwv2]; simp
      have o0 : OwnM wv2 w1.heap.size (.slice (some ⟨(World.heap (wv1)).size, 0, none⟩) 0 0) [] := by rw [hwv2]; exact made_M _ _ (kv1).size
      have kv2 : Below w1.heap.size w1 wv2 := (kv1).trans (cv2.mono (kv1).size)
      refine rg.op_val 0 18 (v := .slice (some ⟨(World.heap (wv1)).size, 0, none⟩) 0 0) (w' := wv2) rfl rfl rfl (by rw [hwv2]; exact x_none22 rfl) ?_
      have hY : wv2.heap[gY]? = some (.cells #[.int .i64 p1, .int .i64 p2] 43 (0, 0)) := (cv2.block gY (Array.getElem?_eq_some_iff.1 hY).1).trans hY
      obtain ⟨gX, hgX⟩ : ∃ g, g = (World.heap (wv1)).size := ⟨_, rfl⟩
      rw [← hgX] at o0 ⊢
      refine ⟨kv2, ?_⟩
      simp only [Act.put, List.setIfInBounds_toArray, List.set_cons_zero, List.set_cons_succ]
      refine rg.one (i := 2) (by kernel_rfl) ?_
      · skip
        obtain ⟨v2, wv3, r2, o2, g2⟩ := app_l wv2 w1.heap.size _ (.slice o l.length cap) l o0 (HML.out _ kv2) hform 22 hsm (kv2).size
        have kv3 : Below w1.heap.size w1 wv3 := (kv2).grown g2 (kv2).size (fun k hk => (ow.lt o0 hk).1)
        have sv3 := g2.size
        have hY : wv3.heap[gY]? = some (.cells #[.int .i64 p1, .int .i64 p2] 43 (0, 0)) := (g2.block gY (Array.getElem?_eq_some_iff.1 hY).1 (fun e => by have e2 : gY = gX := Option.some.inj e; omega)).trans hY
        refine rg.op_val 2 20 (v := v2) (w' := wv3) rfl rfl rfl (x_app22 (x := .tmp 18) (y := .tmp 19) rfl rfl rfl r2) ?_
        refine ⟨kv3, ?_⟩
        simp only [Act.put, List.setIfInBounds_toArray, List.set_cons_zero, List.set_cons_succ]
        refine rg.one (i := 5) (by kernel_rfl) ?_
        obtain ⟨v3, w3, r3, o3, g3⟩ := app_1 wv3 w1.heap.size v2 l (p1, p2) gY o2 hY 22 hsm (kv3).size
        have k3 : Below w1.heap.size w1 w3 := (kv3).grown g3 (kv3).size (fun k hk => (ow.lt o2 hk).1)
        refine rg.op_val 5 23 (v := v3) (w' := w3) rfl rfl rfl (x_app22 (x := .tmp 20) (y := .tmp 22) rfl rfl rfl r3) ?_
        refine ⟨k3, ?_⟩
        simp only [Act.put, List.setIfInBounds_toArray, List.set_cons_zero, List.set_cons_succ]
        refine rg.take_op (i := 6) 7 rfl rfl (rg.yields_run rfl (v := v3) (fun W h => by kernel_rfl)) (by kernel_rfl) (by kernel_rfl) (by kernel_rfl) (fun _ _ _ h => h) k3 ?_
        simp only [Act.put, List.setIfInBounds_toArray, List.set_cons_zero, List.set_cons_succ]
        refine rg.done_op (by kernel_rfl) ?_
        have HM3 : Hid (Mgs w3 v3 (l ++ [(p1, p2)])) := o3.mgs
        clear o3 o2 hY
        try clear o0
        try clear r2
        try clear r3
        try clear g2
        try clear g3
        try clear hgX
        try clear hgY
        try clear sv1
        try clear sv2
        try clear sv3
        try clear cv1
        try clear cv2
        try clear cv3
        try clear hwv1
        try clear hwv2
        try clear hwv3
        try clear kv1
        try clear kv2
        try clear kv3
        have B3 : Below gA w w3 := B1.trans (k3.mono (Nat.le_of_lt hgA))
        have c12 := apply_is l is 0 _ hxa rfl _ _ w3 (HML.out w3 k3) (HI.out.later k3)
        have HC : Hid (∀ W, Below w3.heap.size w3 W → Calls Try.prog 12 #[v3, .slice oi is.length ci] W fun e w' => ∃ (o : Option Addr) (cap : Nat), e = .returned (.tuple #[.slice o (applyL (l ++ [(p1, p2)]) is).length cap, .int .i64 (xb : Int)]) ∧ (applyL (l ++ [(p1, p2)]) is).length ≤ cap ∧ cap ≤ 9223372036854775807 ∧ Hid (IntsV w' (.slice o (applyL (l ++ [(p1, p2)]) is).length cap) (applyL (l ++ [(p1, p2)]) is)) ∧ Below W.heap.size W w') := fun W b => apply_is _ is xb _ hxb rfl _ _ W (HM3.out.later b) (HI.out.later (chain k3 b))
        clear HML HM3 HI hBox hxa hxb hform
        generalize applyL (l ++ [(p1, p2)]) is = yb at *
        generalize applyL l is = ya at *
        go_wp2_with (first | (go_at_call 12; refine c12.mono ?_; rintro e w4 ⟨oa, ca, rfl, s1, s2, HS4, b4⟩; have d12 := HC.out w4 b4; clear c12) | (go_at_call 12; refine d12.mono ?_; rintro e w5 ⟨ob, cb, rfl, s3, s4, HS5, b5⟩; clear d12))
        go_ret
        exact ⟨rfl, by rw [HGW.out]; exact B3.trans ((chain b4 b5).mono (Nat.le_trans (Nat.le_of_lt hgA) k3.size))⟩
set_option maxHeartbeats 4000000 in
set_option maxRecDepth 100000 in
theorem good {l : List Mg} {v : Value} {w : World} (hM : Mgs w v l) (hform : (v = .slice none 0 0 ∧ l = []) ∨ ∃ a c, v = .slice (some a) l.length c) (hsm : l.length * 16 ≤ 140737488351232) {p1 p2 : Int} {ids : List Int} {vs : Value} (hs : IntsV w vs ids) (is : List Int) (his : is = ids.take 60) (aL bL : List Int) (hl4 : l.length ≤ 1024) (hla : aL.length ≤ 60) (hxa : applyE l is = 0) (hxb : applyE (l ++ [(p1, p2)]) is = 0) (hya : applyL l is = aL) (hyb : applyL (l ++ [(p1, p2)]) is = bL) (hbl : want (p1, p2) (256 + (l.length : Int)) aL = bL) :
    Calls Try.prog 7 #[v, .agg #[.int .i64 p1, .int .i64 p2], vs] w fun e w' => e = .returned (.bool true) ∧ Below w.heap.size w w' := by
  have HIS : Hid (is = ids.take 60) := his
  have HBL : Hid (want (p1, p2) (256 + (l.length : Int)) aL = bL) := hbl
  clear his hbl
  obtain ⟨wA, HWA⟩ : ∃ wA, Hid (wA = w.alloc (.cells #[.int .i64 p1, .int .i64 p2] 43)) := ⟨_, rfl⟩
  have BA : Below w.heap.size w wA := by rw [HWA.out]; exact below_alloc _ _
  have hA : wA.heap[w.heap.size]? = some (.cells #[.int .i64 p1, .int .i64 p2] 43 (0, 0)) := by rw [HWA.out]; exact heap_alloc_new w _
  have c20 := alive_any wA
  have HSH : Hid (∀ W, Below w.heap.size w W → IntsV W vs ids) := fun W b => hs.later b
  have HML0 : Hid (∀ W, Below w.heap.size w W → Mgs W v l) := fun W b => hM.later b
  obtain ⟨o, cap, rfl, f1, f2, _⟩ := hM.form
  obtain ⟨o', cap', rfl, hrow⟩ := id hs
  have f3 := hrow.fit
  have f4 := hrow.top
  clear hM hs hrow
  rw [HWA.out] at c20
  go_enter Try.func7, Try.ntmps7
  go_wp2_with (first | (go_at_call 20; refine c20.mono ?_; rintro e w1 ⟨rfl, b1⟩; rw [← HWA.out] at b1; have c17 := short_is ids _ w1 (HSH.out w1 (chain BA b1)); rw [← HIS.out] at c17; clear c20) | (go_at_call 17; refine c17.mono ?_; rintro e w2 ⟨oi, ci, rfl, q1, q2, HI, hw⟩; obtain rfl := hw.symm; clear c17))
  have hBox : w1.heap[w.heap.size]? = some (.cells #[.int .i64 p1, .int .i64 p2] 43 (0, 0)) := (b1.block _ (Array.getElem?_eq_some_iff.1 hA).1).trans hA
  have hgA : w.heap.size < w1.heap.size := (Array.getElem?_eq_some_iff.1 hBox).1
  have B1 : Below w.heap.size w w1 := chain BA b1
  have HML : Hid (∀ W, Below w1.heap.size w1 W → Mgs W (.slice o l.length cap) l) := fun W b => HML0.out W (chain B1 b)
  clear HWA BA hA b1 HSH HML0
  generalize hgw : w.heap.size = gA at *
  have HGW : Hid (w.heap.size = gA) := hgw
  clear hgw
  have kR : Below w1.heap.size w1 w1 := Below.refl _ _
  refine wp_region_held (S := fun W => Below w1.heap.size w1 W) (by kernel_rfl) ?_
  refine rg.take_op (i := 1) 19 rfl rfl (rg.yields_run rfl (v := .slice o l.length cap) (fun W h => rg.x_move rfl rfl)) (by kernel_rfl) (by kernel_rfl) (by kernel_rfl) (fun _ _ _ h => h) kR.drew ?_
  simp only [Act.put, List.setIfInBounds_toArray, List.set_cons_zero, List.set_cons_succ]
  refine rg.take_op (i := 3) 21 rfl rfl (rg.yields_run rfl (v := .agg #[.int .i64 p1, .int .i64 p2]) (fun W h => x_load43 (x := .tmp 4) rfl rfl ((h.block gA hgA).trans hBox))) (by kernel_rfl) (by kernel_rfl) (by kernel_rfl) (fun _ _ _ h => h) kR.drew ?_
  simp only [Act.put, List.setIfInBounds_toArray, List.set_cons_zero, List.set_cons_succ]
  refine rg.two (i := 0) (j := 4) (by kernel_rfl) ?_ ?_
  · skip
    obtain ⟨wv1, hwv1⟩ : ∃ w', w' = World.alloc (w1.drew) (.cells #[] 43) := ⟨_, rfl⟩
    have cv1 : Below (World.heap (w1.drew)).size (w1.drew) wv1 := by rw [hwv1]; exact below_alloc _ _
    have sv1 : (World.heap wv1).size = (World.heap (w1.drew)).size + 1 := by rw [hwv1]; simp
    have o0 : OwnM wv1 w1.heap.size (.slice (some ⟨(World.heap (w1.drew)).size, 0, none⟩) 0 0) [] := by rw [hwv1]; exact made_M _ _ (kR.drew).size
    have kv1 : Below w1.heap.size w1 wv1 := (kR.drew).trans (cv1.mono (kR.drew).size)
    refine rg.op_val 0 18 (v := .slice (some ⟨(World.heap (w1.drew)).size, 0, none⟩) 0 0) (w' := wv1) rfl rfl rfl (by rw [hwv1]; exact x_none22 rfl) ?_
    obtain ⟨gX, hgX⟩ : ∃ g, g = (World.heap (w1.drew)).size := ⟨_, rfl⟩
    rw [← hgX] at o0 ⊢
    refine ⟨kv1, ?_⟩
    simp only [Act.put, List.setIfInBounds_toArray, List.set_cons_zero, List.set_cons_succ]
    refine rg.two (i := 2) (j := 4) (by kernel_rfl) ?_ ?_
    · skip
      obtain ⟨v2, wv2, r2, o2, g2⟩ := app_l wv1 w1.heap.size _ (.slice o l.length cap) l o0 (HML.out _ kv1) hform 22 hsm (kv1).size
      have kv2 : Below w1.heap.size w1 wv2 := (kv1).grown g2 (kv1).size (fun k hk => (ow.lt o0 hk).1)
      have sv2 := g2.size
      refine rg.op_val 2 20 (v := v2) (w' := wv2) rfl rfl rfl (x_app22 (x := .tmp 18) (y := .tmp 19) rfl rfl rfl r2) ?_
      refine ⟨kv2, ?_⟩
      simp only [Act.put, List.setIfInBounds_toArray, List.set_cons_zero, List.set_cons_succ]
      refine rg.one (i := 4) (by kernel_rfl) ?_
      · skip
        obtain ⟨wv3, hwv3⟩ : ∃ w', w' = World.alloc (wv2) (.cells #[.int .i64 p1, .int .i64 p2] 43) := ⟨_, rfl⟩
        have cv3 : Below (World.heap (wv2)).size (wv2) wv3 := by rw [hwv3]; exact below_alloc _ _
        have sv3 : (World.heap wv3).size = (World.heap (wv2)).size + 1 := by rw [hwv3]; simp
        have hY : (World.heap wv3)[(World.heap (wv2)).size]? = some (.cells #[.int .i64 p1, .int .i64 p2] 43 (0, 0)) := by rw [hwv3]; exact heap_alloc_new _ _
        have kv3 : Below w1.heap.size w1 wv3 := (kv2).trans (cv3.mono (kv2).size)
        refine rg.op_val 4 22 (v := .slice (some ⟨(World.heap (wv2)).size, 0, none⟩) 1 1) (w' := wv3) rfl rfl rfl (by rw [hwv3]; kernel_rfl) ?_
        replace o2 := o2.later cv3
        obtain ⟨gY, hgY⟩ : ∃ g, g = (World.heap (wv2)).size := ⟨_, rfl⟩
        rw [← hgY] at hY ⊢
        refine ⟨kv3, ?_⟩
        simp only [Act.put, List.setIfInBounds_toArray, List.set_cons_zero, List.set_cons_succ]
        refine rg.one (i := 5) (by kernel_rfl) ?_
        obtain ⟨v3, w3, r3, o3, g3⟩ := app_1 wv3 w1.heap.size v2 l (p1, p2) gY o2 hY 22 hsm (kv3).size
        have k3 : Below w1.heap.size w1 w3 := (kv3).grown g3 (kv3).size (fun k hk => (ow.lt o2 hk).1)
        refine rg.op_val 5 23 (v := v3) (w' := w3) rfl rfl rfl (x_app22 (x := .tmp 20) (y := .tmp 22) rfl rfl rfl r3) ?_
        refine ⟨k3, ?_⟩
        simp only [Act.put, List.setIfInBounds_toArray, List.set_cons_zero, List.set_cons_succ]
        refine rg.take_op (i := 6) 7 rfl rfl (rg.yields_run rfl (v := v3) (fun W h => by kernel_rfl)) (by kernel_rfl) (by kernel_rfl) (by kernel_rfl) (fun _ _ _ h => h) k3 ?_
        simp only [Act.put, List.setIfInBounds_toArray, List.set_cons_zero, List.set_cons_succ]
        refine rg.done_op (by kernel_rfl) ?_
        have HM3 : Hid (Mgs w3 v3 (l ++ [(p1, p2)])) := o3.mgs
        clear o3 o2 hY
        try clear o0
        try clear r2
        try clear r3
        try clear g2
        try clear g3
        try clear hgX
        try clear hgY
        try clear sv1
        try clear sv2
        try clear sv3
        try clear cv1
        try clear cv2
        try clear cv3
        try clear hwv1
        try clear hwv2
        try clear hwv3
        try clear kv1
        try clear kv2
        try clear kv3
        have B3 : Below gA w w3 := B1.trans (k3.mono (Nat.le_of_lt hgA))
        have c12 := apply_is l is 0 aL hxa hya _ _ w3 (HML.out w3 k3) (HI.out.later k3)
        have HC : Hid (∀ W, Below w3.heap.size w3 W → Calls Try.prog 12 #[v3, .slice oi is.length ci] W fun e w' => ∃ (o : Option Addr) (cap : Nat), e = .returned (.tuple #[.slice o bL.length cap, .int .i64 ((0 : Nat) : Int)]) ∧ bL.length ≤ cap ∧ cap ≤ 9223372036854775807 ∧ Hid (IntsV w' (.slice o bL.length cap) bL) ∧ Below W.heap.size W w') := fun W b => apply_is _ is 0 bL hxb hyb _ _ W (HM3.out.later b) (HI.out.later (chain k3 b))
        clear HML HM3 HI hxa hxb hya hyb hform
        go_wp2_with (first | (go_at_call 12; refine c12.mono ?_; rintro e w4 ⟨oa, ca, rfl, s1, s2, HS4, b4⟩; have d12 := HC.out w4 b4; clear c12) | (go_at_call 12; refine d12.mono ?_; rintro e w5 ⟨ob, cb, rfl, s3, s4, HS5, b5⟩; clear d12))
        have B5 : Below gA w w5 := B3.trans ((chain b4 b5).mono (Nat.le_trans (Nat.le_of_lt hgA) k3.size))
        have hBox5 : w5.heap[gA]? = some (.cells #[.int .i64 p1, .int .i64 p2] 43 (0, 0)) := ((chain (chain k3 b4) b5).block gA hgA).trans hBox
        have HA5 : Hid (IntsV w5 (.slice oa aL.length ca) aL) := HS4.out.later b5
        have HB5 : Hid (IntsV w5 (.slice ob bL.length cb) bL) := HS5.out
        obtain ⟨_, _, e, hrow⟩ := id HA5.out
        obtain ⟨rfl, rfl⟩ : oa = _ ∧ ca = _ := by simpa using e
        have HR5 : Hid (Row (In w5) w5 iv oa ca aL) := hrow
        have K5 : Below w5.heap.size w5 w5 := Below.refl _ _
        have HGL : Hid (gA < w5.heap.size) := (Array.getElem?_eq_some_iff.1 hBox5).1
        have HBX : Hid (w5.heap[gA]? = some (.cells #[.int .i64 p1, .int .i64 p2] 43 (0, 0))) := hBox5
        clear hrow e HS4 HS5 HC hBox hBox5 b4 b5 k3 B3
        go_loopw [13, 12] (fun y x wr => ∃ (i nl : Nat) (ng : Option Addr) (nc : Nat) (dn : List Int), y = .int .i64 i ∧ x = .slice ng nl nc ∧ i ≤ aL.length ∧ nl ≤ nc ∧ nc ≤ 9223372036854775807 ∧ nl ≤ i ∧ Hid (nl = dn.length) ∧ Hid (dn ++ want (p1, p2) (256 + (l.length : Int)) (aL.drop i) = bL) ∧ Hid (Owns wr w5.heap.size (.slice ng nl nc) dn) ∧ Below w5.heap.size w5 wr) (fun y _ _ => aL.length - (intOf y).toNat)
        case atStart => exact ⟨0, 0, none, 0, [], rfl, rfl, by omega, by omega, by omega, by omega, rfl, by show _ = _; rw [List.drop_zero, List.nil_append]; exact HBL.out, ow.nil _ _ _ _, K5⟩
        case round =>
          obtain ⟨i, nl, ng, nc, dn, rfl, rfl, hi, n1, n2, n3, HNL, HWN, HDN, hB⟩ := hrel
          have HDN1 : Hid (∀ W, Below wr.heap.size wr W → W.ownsRow w5.heap.size 3 1 (.slice ng nl nc) nl (dn.map (Value.int .i64))) := fun W b => by have := ow.later HDN.out b; rw [← HNL.out] at this; exact this
          by_cases hend : i < aL.length
          · obtain ⟨b, off, rfl, hb, hc⟩ := HR5.out.lie i hend
            have k1 := (hB.cell (p := ⟨b, off + i, none⟩) hb).trans hc
            have hbx := (hB.block gA HGL.out).trans HBX.out
            have x1 : wr.cell? ⟨gA, 0, none⟩ = some (.int .i64 p1) := by rw [Lib.cell_of_heap hbx]; rfl
            have x2 : wr.cell? ⟨gA, 1, none⟩ = some (.int .i64 p2) := by rw [Lib.cell_of_heap hbx]; rfl
            clear hbx
            by_cases hlast : i + 1 = aL.length
            · have hl0 : ¬ (i : Int) + 1 < (aL.length : Int) := by omega
              have hl1 : decide ((i : Int) + 1 < (aL.length : Int)) = false := decide_eq_false hl0
              clear hl0
              have HW2 : Hid ((dn ++ [aL[i]]) ++ want (p1, p2) (256 + (l.length : Int)) (aL.drop (i + 1)) = bL) := by show _ = _; rw [← HWN.out, want_last hlast hend, List.append_assoc]; rfl
              generalize aL[i] = x at *
              clear hc HWN hlast HDN
              go_wp2_with (fail)
              go_quiet (fail)
              obtain ⟨wq, hwq⟩ : ∃ wq, wq = wr.drewN nq := ⟨_, rfl⟩
              have hKq : Below wr.heap.size wr wq := by rw [hwq]; exact below_drewN (Below.refl _ _) nq
              have hBq : Below w5.heap.size w5 wq := by rw [hwq]; exact below_drewN hB nq
              have kq : wq.cell? ⟨b, off + i, none⟩ = some (iv x) := by rw [hwq]; exact k1
              rw [← hwq]
              clear hwq k1 hB x1 x2
              have HO2 := (show Hid _ from ow.later (HDN1.out wq hKq) (below_alloc wq (.cells #[.int .i64 x] 3)))
              have HN2 := (show Hid _ from ow.new1 wq (.int .i64 x) 3)
              have hB2 := hBq.alloc hBq.size (.cells #[.int .i64 x] 3)
              have hBw : w5.heap.size ≤ (wq.alloc (.cells #[.int .i64 x] 3)).heap.size := hB2.size
              go_wp2_with (at_builtin; refine ow.wpList_append (by rfl) (.tmp 80) (.tmp 85) 30 (by rfl) 3 (.int .i64 0) 1 8 Try.underlying30 info3 (by rfl) (by decide) (by decide) w5.heap.size (.slice ng nl nc) nl (dn.map (Value.int .i64)) wq.heap.size [.int .i64 x] (by rfl) (by rfl) (by exact HO2.out) (by rfl) (by exact HN2.out) (by exact ow.one1 _ rfl) (by omega) (by exact hBw) ?_; intro g' cap2 w8 ho hgr hw8)
              have B8 : Below w5.heap.size w5 w8 := hB2.grown hgr hB2.size (by intro k hk; exact (ow.lt HO2.out hk).1)
              have ho2 : Owns w8 w5.heap.size (.slice (some ⟨g', 0, none⟩) (nl + 1) cap2) (dn ++ [x]) := by
                unfold Owns
                rw [List.length_append, List.map_append, ← HNL.out]
                exact ho
              obtain ⟨tg3, tc3, h1, h2, h3, h4⟩ := ostart (w := w5) (nl + 1) ho2 (by rw [List.length_append, ← HNL.out]; rfl)
              go_roundw
              case rel => exact ⟨i + 1, nl + 1, tg3, tc3, dn ++ [x], by go_num, h1, by omega, h2, h3, by omega, by show _ = _; rw [List.length_append, ← HNL.out]; rfl, HW2.out, h4, B8⟩
              case measure => simp [intOf]; omega
            · have hl1 : (i : Int) + 1 < (aL.length : Int) := by omega
              have hl2 : i + 1 < aL.length := by omega
              obtain ⟨b2, off2, e2, hb2, hc2⟩ := HR5.out.lie (i + 1) hl2
              obtain ⟨⟨rfl, rfl⟩, _⟩ : (b = b2 ∧ off = off2) ∧ True := by simpa using e2
              have k2 := (hB.cell (p := ⟨b, off + (i + 1), none⟩) hb).trans hc2
              have HWA : Hid ((aL[i], aL[i + 1]) = (p1, p2) → (dn ++ [256 + (l.length : Int)]) ++ want (p1, p2) (256 + (l.length : Int)) (aL.drop (i + 2)) = bL) := fun e => by rw [← HWN.out, want_at hl2 e, List.append_assoc]; rfl
              have HWB : Hid ((aL[i], aL[i + 1]) ≠ (p1, p2) → (dn ++ [aL[i]]) ++ want (p1, p2) (256 + (l.length : Int)) (aL.drop (i + 1)) = bL) := fun e => by rw [← HWN.out, want_not hl2 e, List.append_assoc]; rfl
              generalize aL[i] = x at *
              generalize aL[i + 1] = y at *
              clear hc hc2 HWN HDN e2 hlast
              by_cases hx : x = p1
              · have q1 : (x == p1) = true := beq_iff_eq.2 hx
                by_cases hy : y = p2
                · have q2 : (y == p2) = true := beq_iff_eq.2 hy
                  have HW2 := (show Hid _ from HWA.out (by rw [hx, hy]))
                  clear hx hy HWA HWB
                  go_wp2_with (fail)
                  go_quiet (fail)
                  obtain ⟨wq, hwq⟩ : ∃ wq, wq = wr.drewN nq := ⟨_, rfl⟩
                  have hKq : Below wr.heap.size wr wq := by rw [hwq]; exact below_drewN (Below.refl _ _) nq
                  have hBq : Below w5.heap.size w5 wq := by rw [hwq]; exact below_drewN hB nq
                  have kq : wq.cell? ⟨b, off + i, none⟩ = some (iv x) := by rw [hwq]; exact k1
                  rw [← hwq]
                  clear hwq k1 hB x1 x2
                  have HO2 := (show Hid _ from ow.later (HDN1.out wq hKq) (below_alloc wq (.cells #[.int .i64 (256 + (l.length : Int))] 3)))
                  have HN2 := (show Hid _ from ow.new1 wq (.int .i64 (256 + (l.length : Int))) 3)
                  have hB2 := hBq.alloc hBq.size (.cells #[.int .i64 (256 + (l.length : Int))] 3)
                  have hBw : w5.heap.size ≤ (wq.alloc (.cells #[.int .i64 (256 + (l.length : Int))] 3)).heap.size := hB2.size
                  go_wp2_with (at_builtin; refine ow.wpList_append (by rfl) (.tmp 72) (.tmp 76) 30 (by rfl) 3 (.int .i64 0) 1 8 Try.underlying30 info3 (by rfl) (by decide) (by decide) w5.heap.size (.slice ng nl nc) nl (dn.map (Value.int .i64)) wq.heap.size [.int .i64 (256 + (l.length : Int))] (by rfl) (by rfl) (by exact HO2.out) (by rfl) (by exact HN2.out) (by exact ow.one1 _ rfl) (by omega) (by exact hBw) ?_; intro g' cap2 w8 ho hgr hw8)
                  have B8 : Below w5.heap.size w5 w8 := hB2.grown hgr hB2.size (by intro k hk; exact (ow.lt HO2.out hk).1)
                  have ho2 : Owns w8 w5.heap.size (.slice (some ⟨g', 0, none⟩) (nl + 1) cap2) (dn ++ [(256 + (l.length : Int))]) := by
                    unfold Owns
                    rw [List.length_append, List.map_append, ← HNL.out]
                    exact ho
                  obtain ⟨tg3, tc3, h1, h2, h3, h4⟩ := ostart (w := w5) (nl + 1) ho2 (by rw [List.length_append, ← HNL.out]; rfl)
                  go_roundw
                  case rel => exact ⟨i + 2, nl + 1, tg3, tc3, dn ++ [(256 + (l.length : Int))], by go_num, h1, by omega, h2, h3, by omega, by show _ = _; rw [List.length_append, ← HNL.out]; rfl, HW2.out, h4, B8⟩
                  case measure => simp [intOf]; omega
                · have q2 : (y == p2) = false := beq_eq_false_iff_ne.2 hy
                  have HW2 := (show Hid _ from HWB.out (fun e => hy (congrArg Prod.snd e)))
                  clear hx hy HWA HWB
                  go_wp2_with (fail)
                  go_quiet (fail)
                  obtain ⟨wq, hwq⟩ : ∃ wq, wq = wr.drewN nq := ⟨_, rfl⟩
                  have hKq : Below wr.heap.size wr wq := by rw [hwq]; exact below_drewN (Below.refl _ _) nq
                  have hBq : Below w5.heap.size w5 wq := by rw [hwq]; exact below_drewN hB nq
                  have kq : wq.cell? ⟨b, off + i, none⟩ = some (iv x) := by rw [hwq]; exact k1
                  rw [← hwq]
                  clear hwq k1 hB x1 x2
                  have HO2 := (show Hid _ from ow.later (HDN1.out wq hKq) (below_alloc wq (.cells #[.int .i64 x] 3)))
                  have HN2 := (show Hid _ from ow.new1 wq (.int .i64 x) 3)
                  have hB2 := hBq.alloc hBq.size (.cells #[.int .i64 x] 3)
                  have hBw : w5.heap.size ≤ (wq.alloc (.cells #[.int .i64 x] 3)).heap.size := hB2.size
                  go_wp2_with (at_builtin; refine ow.wpList_append (by rfl) (.tmp 80) (.tmp 85) 30 (by rfl) 3 (.int .i64 0) 1 8 Try.underlying30 info3 (by rfl) (by decide) (by decide) w5.heap.size (.slice ng nl nc) nl (dn.map (Value.int .i64)) wq.heap.size [.int .i64 x] (by rfl) (by rfl) (by exact HO2.out) (by rfl) (by exact HN2.out) (by exact ow.one1 _ rfl) (by omega) (by exact hBw) ?_; intro g' cap2 w8 ho hgr hw8)
                  have B8 : Below w5.heap.size w5 w8 := hB2.grown hgr hB2.size (by intro k hk; exact (ow.lt HO2.out hk).1)
                  have ho2 : Owns w8 w5.heap.size (.slice (some ⟨g', 0, none⟩) (nl + 1) cap2) (dn ++ [x]) := by
                    unfold Owns
                    rw [List.length_append, List.map_append, ← HNL.out]
                    exact ho
                  obtain ⟨tg3, tc3, h1, h2, h3, h4⟩ := ostart (w := w5) (nl + 1) ho2 (by rw [List.length_append, ← HNL.out]; rfl)
                  go_roundw
                  case rel => exact ⟨i + 1, nl + 1, tg3, tc3, dn ++ [x], by go_num, h1, by omega, h2, h3, by omega, by show _ = _; rw [List.length_append, ← HNL.out]; rfl, HW2.out, h4, B8⟩
                  case measure => simp [intOf]; omega
              · have q1 : (x == p1) = false := beq_eq_false_iff_ne.2 hx
                have HW2 := (show Hid _ from HWB.out (fun e => hx (congrArg Prod.fst e)))
                clear hx HWA HWB
                go_wp2_with (fail)
                go_quiet (fail)
                obtain ⟨wq, hwq⟩ : ∃ wq, wq = wr.drewN nq := ⟨_, rfl⟩
                have hKq : Below wr.heap.size wr wq := by rw [hwq]; exact below_drewN (Below.refl _ _) nq
                have hBq : Below w5.heap.size w5 wq := by rw [hwq]; exact below_drewN hB nq
                have kq : wq.cell? ⟨b, off + i, none⟩ = some (iv x) := by rw [hwq]; exact k1
                rw [← hwq]
                clear hwq k1 hB x1 x2
                have HO2 := (show Hid _ from ow.later (HDN1.out wq hKq) (below_alloc wq (.cells #[.int .i64 x] 3)))
                have HN2 := (show Hid _ from ow.new1 wq (.int .i64 x) 3)
                have hB2 := hBq.alloc hBq.size (.cells #[.int .i64 x] 3)
                have hBw : w5.heap.size ≤ (wq.alloc (.cells #[.int .i64 x] 3)).heap.size := hB2.size
                go_wp2_with (at_builtin; refine ow.wpList_append (by rfl) (.tmp 80) (.tmp 85) 30 (by rfl) 3 (.int .i64 0) 1 8 Try.underlying30 info3 (by rfl) (by decide) (by decide) w5.heap.size (.slice ng nl nc) nl (dn.map (Value.int .i64)) wq.heap.size [.int .i64 x] (by rfl) (by rfl) (by exact HO2.out) (by rfl) (by exact HN2.out) (by exact ow.one1 _ rfl) (by omega) (by exact hBw) ?_; intro g' cap2 w8 ho hgr hw8)
                have B8 : Below w5.heap.size w5 w8 := hB2.grown hgr hB2.size (by intro k hk; exact (ow.lt HO2.out hk).1)
                have ho2 : Owns w8 w5.heap.size (.slice (some ⟨g', 0, none⟩) (nl + 1) cap2) (dn ++ [x]) := by
                  unfold Owns
                  rw [List.length_append, List.map_append, ← HNL.out]
                  exact ho
                obtain ⟨tg3, tc3, h1, h2, h3, h4⟩ := ostart (w := w5) (nl + 1) ho2 (by rw [List.length_append, ← HNL.out]; rfl)
                go_roundw
                case rel => exact ⟨i + 1, nl + 1, tg3, tc3, dn ++ [x], by go_num, h1, by omega, h2, h3, by omega, by show _ = _; rw [List.length_append, ← HNL.out]; rfl, HW2.out, h4, B8⟩
                case measure => simp [intOf]; omega
          · have HF : Hid (IntsV wr (.slice ng nl nc) bL) := by
              have h1 := HWN.out
              rw [List.drop_of_length_le (by omega)] at h1
              have h2 : dn = bL := by simpa [want] using h1
              rw [← h2]
              exact Owns.ints HDN.out
            have c13 := ints_same bL _ _ wr (HB5.out.later hB) HF.out
            clear HF HWN HDN HDN1
            go_wp2_with (go_at_call 13; refine c13.mono ?_; rintro e w9 ⟨rfl, b9⟩)
            go_ret
            exact ⟨rfl, by rw [HGW.out]; exact B5.trans ((chain hB b9).mono (Nat.le_of_lt HGL.out))⟩
    · skip
      obtain ⟨wv2, hwv2⟩ : ∃ w', w' = World.alloc (wv1) (.cells #[.int .i64 p1, .int .i64 p2] 43) := ⟨_, rfl⟩
      have cv2 : Below (World.heap (wv1)).size (wv1) wv2 := by rw [hwv2]; exact below_alloc _ _
      have sv2 : (World.heap wv2).size = (World.heap (wv1)).size + 1 := by rw [hwv2]; simp
      have hY : (World.heap wv2)[(World.heap (wv1)).size]? = some (.cells #[.int .i64 p1, .int .i64 p2] 43 (0, 0)) := by rw [hwv2]; exact heap_alloc_new _ _
      have kv2 : Below w1.heap.size w1 wv2 := (kv1).trans (cv2.mono (kv1).size)
      refine rg.op_val 4 22 (v := .slice (some ⟨(World.heap (wv1)).size, 0, none⟩) 1 1) (w' := wv2) rfl rfl rfl (by rw [hwv2]; kernel_rfl) ?_
      replace o0 := o0.later cv2
      obtain ⟨gY, hgY⟩ : ∃ g, g = (World.heap (wv1)).size := ⟨_, rfl⟩
      rw [← hgY] at hY ⊢
      refine ⟨kv2, ?_⟩
      simp only [Act.put, List.setIfInBounds_toArray, List.set_cons_zero, List.set_cons_succ]
      refine rg.one (i := 2) (by kernel_rfl) ?_
      · skip
        obtain ⟨v2, wv3, r2, o2, g2⟩ := app_l wv2 w1.heap.size _ (.slice o l.length cap) l o0 (HML.out _ kv2) hform 22 hsm (kv2).size
        have kv3 : Below w1.heap.size w1 wv3 := (kv2).grown g2 (kv2).size (fun k hk => (ow.lt o0 hk).1)
        have sv3 := g2.size
        have hY : wv3.heap[gY]? = some (.cells #[.int .i64 p1, .int .i64 p2] 43 (0, 0)) := (g2.block gY (Array.getElem?_eq_some_iff.1 hY).1 (fun e => by have e2 : gY = gX := Option.some.inj e; omega)).trans hY
        refine rg.op_val 2 20 (v := v2) (w' := wv3) rfl rfl rfl (x_app22 (x := .tmp 18) (y := .tmp 19) rfl rfl rfl r2) ?_
        refine ⟨kv3, ?_⟩
        simp only [Act.put, List.setIfInBounds_toArray, List.set_cons_zero, List.set_cons_succ]
        refine rg.one (i := 5) (by kernel_rfl) ?_
        obtain ⟨v3, w3, r3, o3, g3⟩ := app_1 wv3 w1.heap.size v2 l (p1, p2) gY o2 hY 22 hsm (kv3).size
        have k3 : Below w1.heap.size w1 w3 := (kv3).grown g3 (kv3).size (fun k hk => (ow.lt o2 hk).1)
        refine rg.op_val 5 23 (v := v3) (w' := w3) rfl rfl rfl (x_app22 (x := .tmp 20) (y := .tmp 22) rfl rfl rfl r3) ?_
        refine ⟨k3, ?_⟩
        simp only [Act.put, List.setIfInBounds_toArray, List.set_cons_zero, List.set_cons_succ]
        refine rg.take_op (i := 6) 7 rfl rfl (rg.yields_run rfl (v := v3) (fun W h => by kernel_rfl)) (by kernel_rfl) (by kernel_rfl) (by kernel_rfl) (fun _ _ _ h => h) k3 ?_
        simp only [Act.put, List.setIfInBounds_toArray, List.set_cons_zero, List.set_cons_succ]
        refine rg.done_op (by kernel_rfl) ?_
        have HM3 : Hid (Mgs w3 v3 (l ++ [(p1, p2)])) := o3.mgs
        clear o3 o2 hY
        try clear o0
        try clear r2
        try clear r3
        try clear g2
        try clear g3
        try clear hgX
        try clear hgY
        try clear sv1
        try clear sv2
        try clear sv3
        try clear cv1
        try clear cv2
        try clear cv3
        try clear hwv1
        try clear hwv2
        try clear hwv3
        try clear kv1
        try clear kv2
        try clear kv3
        have B3 : Below gA w w3 := B1.trans (k3.mono (Nat.le_of_lt hgA))
        have c12 := apply_is l is 0 aL hxa hya _ _ w3 (HML.out w3 k3) (HI.out.later k3)
        have HC : Hid (∀ W, Below w3.heap.size w3 W → Calls Try.prog 12 #[v3, .slice oi is.length ci] W fun e w' => ∃ (o : Option Addr) (cap : Nat), e = .returned (.tuple #[.slice o bL.length cap, .int .i64 ((0 : Nat) : Int)]) ∧ bL.length ≤ cap ∧ cap ≤ 9223372036854775807 ∧ Hid (IntsV w' (.slice o bL.length cap) bL) ∧ Below W.heap.size W w') := fun W b => apply_is _ is 0 bL hxb hyb _ _ W (HM3.out.later b) (HI.out.later (chain k3 b))
        clear HML HM3 HI hxa hxb hya hyb hform
        go_wp2_with (first | (go_at_call 12; refine c12.mono ?_; rintro e w4 ⟨oa, ca, rfl, s1, s2, HS4, b4⟩; have d12 := HC.out w4 b4; clear c12) | (go_at_call 12; refine d12.mono ?_; rintro e w5 ⟨ob, cb, rfl, s3, s4, HS5, b5⟩; clear d12))
        have B5 : Below gA w w5 := B3.trans ((chain b4 b5).mono (Nat.le_trans (Nat.le_of_lt hgA) k3.size))
        have hBox5 : w5.heap[gA]? = some (.cells #[.int .i64 p1, .int .i64 p2] 43 (0, 0)) := ((chain (chain k3 b4) b5).block gA hgA).trans hBox
        have HA5 : Hid (IntsV w5 (.slice oa aL.length ca) aL) := HS4.out.later b5
        have HB5 : Hid (IntsV w5 (.slice ob bL.length cb) bL) := HS5.out
        obtain ⟨_, _, e, hrow⟩ := id HA5.out
        obtain ⟨rfl, rfl⟩ : oa = _ ∧ ca = _ := by simpa using e
        have HR5 : Hid (Row (In w5) w5 iv oa ca aL) := hrow
        have K5 : Below w5.heap.size w5 w5 := Below.refl _ _
        have HGL : Hid (gA < w5.heap.size) := (Array.getElem?_eq_some_iff.1 hBox5).1
        have HBX : Hid (w5.heap[gA]? = some (.cells #[.int .i64 p1, .int .i64 p2] 43 (0, 0))) := hBox5
        clear hrow e HS4 HS5 HC hBox hBox5 b4 b5 k3 B3
        go_loopw [13, 12] (fun y x wr => ∃ (i nl : Nat) (ng : Option Addr) (nc : Nat) (dn : List Int), y = .int .i64 i ∧ x = .slice ng nl nc ∧ i ≤ aL.length ∧ nl ≤ nc ∧ nc ≤ 9223372036854775807 ∧ nl ≤ i ∧ Hid (nl = dn.length) ∧ Hid (dn ++ want (p1, p2) (256 + (l.length : Int)) (aL.drop i) = bL) ∧ Hid (Owns wr w5.heap.size (.slice ng nl nc) dn) ∧ Below w5.heap.size w5 wr) (fun y _ _ => aL.length - (intOf y).toNat)
        case atStart => exact ⟨0, 0, none, 0, [], rfl, rfl, by omega, by omega, by omega, by omega, rfl, by show _ = _; rw [List.drop_zero, List.nil_append]; exact HBL.out, ow.nil _ _ _ _, K5⟩
        case round =>
          obtain ⟨i, nl, ng, nc, dn, rfl, rfl, hi, n1, n2, n3, HNL, HWN, HDN, hB⟩ := hrel
          have HDN1 : Hid (∀ W, Below wr.heap.size wr W → W.ownsRow w5.heap.size 3 1 (.slice ng nl nc) nl (dn.map (Value.int .i64))) := fun W b => by have := ow.later HDN.out b; rw [← HNL.out] at this; exact this
          by_cases hend : i < aL.length
          · obtain ⟨b, off, rfl, hb, hc⟩ := HR5.out.lie i hend
            have k1 := (hB.cell (p := ⟨b, off + i, none⟩) hb).trans hc
            have hbx := (hB.block gA HGL.out).trans HBX.out
            have x1 : wr.cell? ⟨gA, 0, none⟩ = some (.int .i64 p1) := by rw [Lib.cell_of_heap hbx]; rfl
            have x2 : wr.cell? ⟨gA, 1, none⟩ = some (.int .i64 p2) := by rw [Lib.cell_of_heap hbx]; rfl
            clear hbx
            by_cases hlast : i + 1 = aL.length
            · have hl0 : ¬ (i : Int) + 1 < (aL.length : Int) := by omega
              have hl1 : decide ((i : Int) + 1 < (aL.length : Int)) = false := decide_eq_false hl0
              clear hl0
              have HW2 : Hid ((dn ++ [aL[i]]) ++ want (p1, p2) (256 + (l.length : Int)) (aL.drop (i + 1)) = bL) := by show _ = _; rw [← HWN.out, want_last hlast hend, List.append_assoc]; rfl
              generalize aL[i] = x at *
              clear hc HWN hlast HDN
              go_wp2_with (fail)
              go_quiet (fail)
              obtain ⟨wq, hwq⟩ : ∃ wq, wq = wr.drewN nq := ⟨_, rfl⟩
              have hKq : Below wr.heap.size wr wq := by rw [hwq]; exact below_drewN (Below.refl _ _) nq
              have hBq : Below w5.heap.size w5 wq := by rw [hwq]; exact below_drewN hB nq
              have kq : wq.cell? ⟨b, off + i, none⟩ = some (iv x) := by rw [hwq]; exact k1
              rw [← hwq]
              clear hwq k1 hB x1 x2
              have HO2 := (show Hid _ from ow.later (HDN1.out wq hKq) (below_alloc wq (.cells #[.int .i64 x] 3)))
              have HN2 := (show Hid _ from ow.new1 wq (.int .i64 x) 3)
              have hB2 := hBq.alloc hBq.size (.cells #[.int .i64 x] 3)
              have hBw : w5.heap.size ≤ (wq.alloc (.cells #[.int .i64 x] 3)).heap.size := hB2.size
              go_wp2_with (at_builtin; refine ow.wpList_append (by rfl) (.tmp 80) (.tmp 85) 30 (by rfl) 3 (.int .i64 0) 1 8 Try.underlying30 info3 (by rfl) (by decide) (by decide) w5.heap.size (.slice ng nl nc) nl (dn.map (Value.int .i64)) wq.heap.size [.int .i64 x] (by rfl) (by rfl) (by exact HO2.out) (by rfl) (by exact HN2.out) (by exact ow.one1 _ rfl) (by omega) (by exact hBw) ?_; intro g' cap2 w8 ho hgr hw8)
              have B8 : Below w5.heap.size w5 w8 := hB2.grown hgr hB2.size (by intro k hk; exact (ow.lt HO2.out hk).1)
              have ho2 : Owns w8 w5.heap.size (.slice (some ⟨g', 0, none⟩) (nl + 1) cap2) (dn ++ [x]) := by
                unfold Owns
                rw [List.length_append, List.map_append, ← HNL.out]
                exact ho
              obtain ⟨tg3, tc3, h1, h2, h3, h4⟩ := ostart (w := w5) (nl + 1) ho2 (by rw [List.length_append, ← HNL.out]; rfl)
              go_roundw
              case rel => exact ⟨i + 1, nl + 1, tg3, tc3, dn ++ [x], by go_num, h1, by omega, h2, h3, by omega, by show _ = _; rw [List.length_append, ← HNL.out]; rfl, HW2.out, h4, B8⟩
              case measure => simp [intOf]; omega
            · have hl1 : (i : Int) + 1 < (aL.length : Int) := by omega
              have hl2 : i + 1 < aL.length := by omega
              obtain ⟨b2, off2, e2, hb2, hc2⟩ := HR5.out.lie (i + 1) hl2
              obtain ⟨⟨rfl, rfl⟩, _⟩ : (b = b2 ∧ off = off2) ∧ True := by simpa using e2
              have k2 := (hB.cell (p := ⟨b, off + (i + 1), none⟩) hb).trans hc2
              have HWA : Hid ((aL[i], aL[i + 1]) = (p1, p2) → (dn ++ [256 + (l.length : Int)]) ++ want (p1, p2) (256 + (l.length : Int)) (aL.drop (i + 2)) = bL) := fun e => by rw [← HWN.out, want_at hl2 e, List.append_assoc]; rfl
              have HWB : Hid ((aL[i], aL[i + 1]) ≠ (p1, p2) → (dn ++ [aL[i]]) ++ want (p1, p2) (256 + (l.length : Int)) (aL.drop (i + 1)) = bL) := fun e => by rw [← HWN.out, want_not hl2 e, List.append_assoc]; rfl
              generalize aL[i] = x at *
              generalize aL[i + 1] = y at *
              clear hc hc2 HWN HDN e2 hlast
              by_cases hx : x = p1
              · have q1 : (x == p1) = true := beq_iff_eq.2 hx
                by_cases hy : y = p2
                · have q2 : (y == p2) = true := beq_iff_eq.2 hy
                  have HW2 := (show Hid _ from HWA.out (by rw [hx, hy]))
                  clear hx hy HWA HWB
                  go_wp2_with (fail)
                  go_quiet (fail)
                  obtain ⟨wq, hwq⟩ : ∃ wq, wq = wr.drewN nq := ⟨_, rfl⟩
                  have hKq : Below wr.heap.size wr wq := by rw [hwq]; exact below_drewN (Below.refl _ _) nq
                  have hBq : Below w5.heap.size w5 wq := by rw [hwq]; exact below_drewN hB nq
                  have kq : wq.cell? ⟨b, off + i, none⟩ = some (iv x) := by rw [hwq]; exact k1
                  rw [← hwq]
                  clear hwq k1 hB x1 x2
                  have HO2 := (show Hid _ from ow.later (HDN1.out wq hKq) (below_alloc wq (.cells #[.int .i64 (256 + (l.length : Int))] 3)))
                  have HN2 := (show Hid _ from ow.new1 wq (.int .i64 (256 + (l.length : Int))) 3)
                  have hB2 := hBq.alloc hBq.size (.cells #[.int .i64 (256 + (l.length : Int))] 3)
                  have hBw : w5.heap.size ≤ (wq.alloc (.cells #[.int .i64 (256 + (l.length : Int))] 3)).heap.size := hB2.size
                  go_wp2_with (at_builtin; refine ow.wpList_append (by rfl) (.tmp 72) (.tmp 76) 30 (by rfl) 3 (.int .i64 0) 1 8 Try.underlying30 info3 (by rfl) (by decide) (by decide) w5.heap.size (.slice ng nl nc) nl (dn.map (Value.int .i64)) wq.heap.size [.int .i64 (256 + (l.length : Int))] (by rfl) (by rfl) (by exact HO2.out) (by rfl) (by exact HN2.out) (by exact ow.one1 _ rfl) (by omega) (by exact hBw) ?_; intro g' cap2 w8 ho hgr hw8)
                  have B8 : Below w5.heap.size w5 w8 := hB2.grown hgr hB2.size (by intro k hk; exact (ow.lt HO2.out hk).1)
                  have ho2 : Owns w8 w5.heap.size (.slice (some ⟨g', 0, none⟩) (nl + 1) cap2) (dn ++ [(256 + (l.length : Int))]) := by
                    unfold Owns
                    rw [List.length_append, List.map_append, ← HNL.out]
                    exact ho
                  obtain ⟨tg3, tc3, h1, h2, h3, h4⟩ := ostart (w := w5) (nl + 1) ho2 (by rw [List.length_append, ← HNL.out]; rfl)
                  go_roundw
                  case rel => exact ⟨i + 2, nl + 1, tg3, tc3, dn ++ [(256 + (l.length : Int))], by go_num, h1, by omega, h2, h3, by omega, by show _ = _; rw [List.length_append, ← HNL.out]; rfl, HW2.out, h4, B8⟩
                  case measure => simp [intOf]; omega
                · have q2 : (y == p2) = false := beq_eq_false_iff_ne.2 hy
                  have HW2 := (show Hid _ from HWB.out (fun e => hy (congrArg Prod.snd e)))
                  clear hx hy HWA HWB
                  go_wp2_with (fail)
                  go_quiet (fail)
                  obtain ⟨wq, hwq⟩ : ∃ wq, wq = wr.drewN nq := ⟨_, rfl⟩
                  have hKq : Below wr.heap.size wr wq := by rw [hwq]; exact below_drewN (Below.refl _ _) nq
                  have hBq : Below w5.heap.size w5 wq := by rw [hwq]; exact below_drewN hB nq
                  have kq : wq.cell? ⟨b, off + i, none⟩ = some (iv x) := by rw [hwq]; exact k1
                  rw [← hwq]
                  clear hwq k1 hB x1 x2
                  have HO2 := (show Hid _ from ow.later (HDN1.out wq hKq) (below_alloc wq (.cells #[.int .i64 x] 3)))
                  have HN2 := (show Hid _ from ow.new1 wq (.int .i64 x) 3)
                  have hB2 := hBq.alloc hBq.size (.cells #[.int .i64 x] 3)
                  have hBw : w5.heap.size ≤ (wq.alloc (.cells #[.int .i64 x] 3)).heap.size := hB2.size
                  go_wp2_with (at_builtin; refine ow.wpList_append (by rfl) (.tmp 80) (.tmp 85) 30 (by rfl) 3 (.int .i64 0) 1 8 Try.underlying30 info3 (by rfl) (by decide) (by decide) w5.heap.size (.slice ng nl nc) nl (dn.map (Value.int .i64)) wq.heap.size [.int .i64 x] (by rfl) (by rfl) (by exact HO2.out) (by rfl) (by exact HN2.out) (by exact ow.one1 _ rfl) (by omega) (by exact hBw) ?_; intro g' cap2 w8 ho hgr hw8)
                  have B8 : Below w5.heap.size w5 w8 := hB2.grown hgr hB2.size (by intro k hk; exact (ow.lt HO2.out hk).1)
                  have ho2 : Owns w8 w5.heap.size (.slice (some ⟨g', 0, none⟩) (nl + 1) cap2) (dn ++ [x]) := by
                    unfold Owns
                    rw [List.length_append, List.map_append, ← HNL.out]
                    exact ho
                  obtain ⟨tg3, tc3, h1, h2, h3, h4⟩ := ostart (w := w5) (nl + 1) ho2 (by rw [List.length_append, ← HNL.out]; rfl)
                  go_roundw
                  case rel => exact ⟨i + 1, nl + 1, tg3, tc3, dn ++ [x], by go_num, h1, by omega, h2, h3, by omega, by show _ = _; rw [List.length_append, ← HNL.out]; rfl, HW2.out, h4, B8⟩
                  case measure => simp [intOf]; omega
              · have q1 : (x == p1) = false := beq_eq_false_iff_ne.2 hx
                have HW2 := (show Hid _ from HWB.out (fun e => hx (congrArg Prod.fst e)))
                clear hx HWA HWB
                go_wp2_with (fail)
                go_quiet (fail)
                obtain ⟨wq, hwq⟩ : ∃ wq, wq = wr.drewN nq := ⟨_, rfl⟩
                have hKq : Below wr.heap.size wr wq := by rw [hwq]; exact below_drewN (Below.refl _ _) nq
                have hBq : Below w5.heap.size w5 wq := by rw [hwq]; exact below_drewN hB nq
                have kq : wq.cell? ⟨b, off + i, none⟩ = some (iv x) := by rw [hwq]; exact k1
                rw [← hwq]
                clear hwq k1 hB x1 x2
                have HO2 := (show Hid _ from ow.later (HDN1.out wq hKq) (below_alloc wq (.cells #[.int .i64 x] 3)))
                have HN2 := (show Hid _ from ow.new1 wq (.int .i64 x) 3)
                have hB2 := hBq.alloc hBq.size (.cells #[.int .i64 x] 3)
                have hBw : w5.heap.size ≤ (wq.alloc (.cells #[.int .i64 x] 3)).heap.size := hB2.size
                go_wp2_with (at_builtin; refine ow.wpList_append (by rfl) (.tmp 80) (.tmp 85) 30 (by rfl) 3 (.int .i64 0) 1 8 Try.underlying30 info3 (by rfl) (by decide) (by decide) w5.heap.size (.slice ng nl nc) nl (dn.map (Value.int .i64)) wq.heap.size [.int .i64 x] (by rfl) (by rfl) (by exact HO2.out) (by rfl) (by exact HN2.out) (by exact ow.one1 _ rfl) (by omega) (by exact hBw) ?_; intro g' cap2 w8 ho hgr hw8)
                have B8 : Below w5.heap.size w5 w8 := hB2.grown hgr hB2.size (by intro k hk; exact (ow.lt HO2.out hk).1)
                have ho2 : Owns w8 w5.heap.size (.slice (some ⟨g', 0, none⟩) (nl + 1) cap2) (dn ++ [x]) := by
                  unfold Owns
                  rw [List.length_append, List.map_append, ← HNL.out]
                  exact ho
                obtain ⟨tg3, tc3, h1, h2, h3, h4⟩ := ostart (w := w5) (nl + 1) ho2 (by rw [List.length_append, ← HNL.out]; rfl)
                go_roundw
                case rel => exact ⟨i + 1, nl + 1, tg3, tc3, dn ++ [x], by go_num, h1, by omega, h2, h3, by omega, by show _ = _; rw [List.length_append, ← HNL.out]; rfl, HW2.out, h4, B8⟩
                case measure => simp [intOf]; omega
          · have HF : Hid (IntsV wr (.slice ng nl nc) bL) := by
              have h1 := HWN.out
              rw [List.drop_of_length_le (by omega)] at h1
              have h2 : dn = bL := by simpa [want] using h1
              rw [← h2]
              exact Owns.ints HDN.out
            have c13 := ints_same bL _ _ wr (HB5.out.later hB) HF.out
            clear HF HWN HDN HDN1
            go_wp2_with (go_at_call 13; refine c13.mono ?_; rintro e w9 ⟨rfl, b9⟩)
            go_ret
            exact ⟨rfl, by rw [HGW.out]; exact B5.trans ((chain hB b9).mono (Nat.le_of_lt HGL.out))⟩
  · skip
    obtain ⟨wv1, hwv1⟩ : ∃ w', w' = World.alloc (w1.drew) (.cells #[.int .i64 p1, .int .i64 p2] 43) := ⟨_, rfl⟩
    have cv1 : Below (World.heap (w1.drew)).size (w1.drew) wv1 := by rw [hwv1]; exact below_alloc _ _
    have sv1 : (World.heap wv1).size = (World.heap (w1.drew)).size + 1 := by rw [hwv1]; simp
    have hY : (World.heap wv1)[(World.heap (w1.drew)).size]? = some (.cells #[.int .i64 p1, .int .i64 p2] 43 (0, 0)) := by rw [hwv1]; exact heap_alloc_new _ _
    have kv1 : Below w1.heap.size w1 wv1 := (kR.drew).trans (cv1.mono (kR.drew).size)
    refine rg.op_val 4 22 (v := .slice (some ⟨(World.heap (w1.drew)).size, 0, none⟩) 1 1) (w' := wv1) rfl rfl rfl (by rw [hwv1]; kernel_rfl) ?_
    obtain ⟨gY, hgY⟩ : ∃ g, g = (World.heap (w1.drew)).size := ⟨_, rfl⟩
    rw [← hgY] at hY ⊢
    refine ⟨kv1, ?_⟩
    simp only [Act.put, List.setIfInBounds_toArray, List.set_cons_zero, List.set_cons_succ]
    refine rg.one (i := 0) (by kernel_rfl) ?_
    · skip
      obtain ⟨wv2, hwv2⟩ : ∃ w', w' = World.alloc (wv1) (.cells #[] 43) := ⟨_, rfl⟩
      have cv2 : Below (World.heap (wv1)).size (wv1) wv2 := by rw [hwv2]; exact below_alloc _ _
      have sv2 : (World.heap wv2).size = (World.heap (wv1)).size + 1 := by rw [hwv2]; simp
      have o0 : OwnM wv2 w1.heap.size (.slice (some ⟨(World.heap (wv1)).size, 0, none⟩) 0 0) [] := by rw [hwv2]; exact made_M _ _ (kv1).size
      have kv2 : Below w1.heap.size w1 wv2 := (kv1).trans (cv2.mono (kv1).size)
      refine rg.op_val 0 18 (v := .slice (some ⟨(World.heap (wv1)).size, 0, none⟩) 0 0) (w' := wv2) rfl rfl rfl (by rw [hwv2]; exact x_none22 rfl) ?_
      have hY : wv2.heap[gY]? = some (.cells #[.int .i64 p1, .int .i64 p2] 43 (0, 0)) := (cv2.block gY (Array.getElem?_eq_some_iff.1 hY).1).trans hY
      obtain ⟨gX, hgX⟩ : ∃ g, g = (World.heap (wv1)).size := ⟨_, rfl⟩
      rw [← hgX] at o0 ⊢
      refine ⟨kv2, ?_⟩
      simp only [Act.put, List.setIfInBounds_toArray, List.set_cons_zero, List.set_cons_succ]
      refine rg.one (i := 2) (by kernel_rfl) ?_
      · skip
        obtain ⟨v2, wv3, r2, o2, g2⟩ := app_l wv2 w1.heap.size _ (.slice o l.length cap) l o0 (HML.out _ kv2) hform 22 hsm (kv2).size
        have kv3 : Below w1.heap.size w1 wv3 := (kv2).grown g2 (kv2).size (fun k hk => (ow.lt o0 hk).1)
        have sv3 := g2.size
        have hY : wv3.heap[gY]? = some (.cells #[.int .i64 p1, .int .i64 p2] 43 (0, 0)) := (g2.block gY (Array.getElem?_eq_some_iff.1 hY).1 (fun e => by have e2 : gY = gX := Option.some.inj e; omega)).trans hY
        refine rg.op_val 2 20 (v := v2) (w' := wv3) rfl rfl rfl (x_app22 (x := .tmp 18) (y := .tmp 19) rfl rfl rfl r2) ?_
        refine ⟨kv3, ?_⟩
        simp only [Act.put, List.setIfInBounds_toArray, List.set_cons_zero, List.set_cons_succ]
        refine rg.one (i := 5) (by kernel_rfl) ?_
        obtain ⟨v3, w3, r3, o3, g3⟩ := app_1 wv3 w1.heap.size v2 l (p1, p2) gY o2 hY 22 hsm (kv3).size
        have k3 : Below w1.heap.size w1 w3 := (kv3).grown g3 (kv3).size (fun k hk => (ow.lt o2 hk).1)
        refine rg.op_val 5 23 (v := v3) (w' := w3) rfl rfl rfl (x_app22 (x := .tmp 20) (y := .tmp 22) rfl rfl rfl r3) ?_
        refine ⟨k3, ?_⟩
        simp only [Act.put, List.setIfInBounds_toArray, List.set_cons_zero, List.set_cons_succ]
        refine rg.take_op (i := 6) 7 rfl rfl (rg.yields_run rfl (v := v3) (fun W h => by kernel_rfl)) (by kernel_rfl) (by kernel_rfl) (by kernel_rfl) (fun _ _ _ h => h) k3 ?_
        simp only [Act.put, List.setIfInBounds_toArray, List.set_cons_zero, List.set_cons_succ]
        refine rg.done_op (by kernel_rfl) ?_
        have HM3 : Hid (Mgs w3 v3 (l ++ [(p1, p2)])) := o3.mgs
        clear o3 o2 hY
        try clear o0
        try clear r2
        try clear r3
        try clear g2
        try clear g3
        try clear hgX
        try clear hgY
        try clear sv1
        try clear sv2
        try clear sv3
        try clear cv1
        try clear cv2
        try clear cv3
        try clear hwv1
        try clear hwv2
        try clear hwv3
        try clear kv1
        try clear kv2
        try clear kv3
        have B3 : Below gA w w3 := B1.trans (k3.mono (Nat.le_of_lt hgA))
        have c12 := apply_is l is 0 aL hxa hya _ _ w3 (HML.out w3 k3) (HI.out.later k3)
        have HC : Hid (∀ W, Below w3.heap.size w3 W → Calls Try.prog 12 #[v3, .slice oi is.length ci] W fun e w' => ∃ (o : Option Addr) (cap : Nat), e = .returned (.tuple #[.slice o bL.length cap, .int .i64 ((0 : Nat) : Int)]) ∧ bL.length ≤ cap ∧ cap ≤ 9223372036854775807 ∧ Hid (IntsV w' (.slice o bL.length cap) bL) ∧ Below W.heap.size W w') := fun W b => apply_is _ is 0 bL hxb hyb _ _ W (HM3.out.later b) (HI.out.later (chain k3 b))
        clear HML HM3 HI hxa hxb hya hyb hform
        go_wp2_with (first | (go_at_call 12; refine c12.mono ?_; rintro e w4 ⟨oa, ca, rfl, s1, s2, HS4, b4⟩; have d12 := HC.out w4 b4; clear c12) | (go_at_call 12; refine d12.mono ?_; rintro e w5 ⟨ob, cb, rfl, s3, s4, HS5, b5⟩; clear d12))
        have B5 : Below gA w w5 := B3.trans ((chain b4 b5).mono (Nat.le_trans (Nat.le_of_lt hgA) k3.size))
        have hBox5 : w5.heap[gA]? = some (.cells #[.int .i64 p1, .int .i64 p2] 43 (0, 0)) := ((chain (chain k3 b4) b5).block gA hgA).trans hBox
        have HA5 : Hid (IntsV w5 (.slice oa aL.length ca) aL) := HS4.out.later b5
        have HB5 : Hid (IntsV w5 (.slice ob bL.length cb) bL) := HS5.out
        obtain ⟨_, _, e, hrow⟩ := id HA5.out
        obtain ⟨rfl, rfl⟩ : oa = _ ∧ ca = _ := by simpa using e
        have HR5 : Hid (Row (In w5) w5 iv oa ca aL) := hrow
        have K5 : Below w5.heap.size w5 w5 := Below.refl _ _
        have HGL : Hid (gA < w5.heap.size) := (Array.getElem?_eq_some_iff.1 hBox5).1
        have HBX : Hid (w5.heap[gA]? = some (.cells #[.int .i64 p1, .int .i64 p2] 43 (0, 0))) := hBox5
        clear hrow e HS4 HS5 HC hBox hBox5 b4 b5 k3 B3
        go_loopw [13, 12] (fun y x wr => ∃ (i nl : Nat) (ng : Option Addr) (nc : Nat) (dn : List Int), y = .int .i64 i ∧ x = .slice ng nl nc ∧ i ≤ aL.length ∧ nl ≤ nc ∧ nc ≤ 9223372036854775807 ∧ nl ≤ i ∧ Hid (nl = dn.length) ∧ Hid (dn ++ want (p1, p2) (256 + (l.length : Int)) (aL.drop i) = bL) ∧ Hid (Owns wr w5.heap.size (.slice ng nl nc) dn) ∧ Below w5.heap.size w5 wr) (fun y _ _ => aL.length - (intOf y).toNat)
        case atStart => exact ⟨0, 0, none, 0, [], rfl, rfl, by omega, by omega, by omega, by omega, rfl, by show _ = _; rw [List.drop_zero, List.nil_append]; exact HBL.out, ow.nil _ _ _ _, K5⟩
        case round =>
          obtain ⟨i, nl, ng, nc, dn, rfl, rfl, hi, n1, n2, n3, HNL, HWN, HDN, hB⟩ := hrel
          have HDN1 : Hid (∀ W, Below wr.heap.size wr W → W.ownsRow w5.heap.size 3 1 (.slice ng nl nc) nl (dn.map (Value.int .i64))) := fun W b => by have := ow.later HDN.out b; rw [← HNL.out] at this; exact this
          by_cases hend : i < aL.length
          · obtain ⟨b, off, rfl, hb, hc⟩ := HR5.out.lie i hend
            have k1 := (hB.cell (p := ⟨b, off + i, none⟩) hb).trans hc
            have hbx := (hB.block gA HGL.out).trans HBX.out
            have x1 : wr.cell? ⟨gA, 0, none⟩ = some (.int .i64 p1) := by rw [Lib.cell_of_heap hbx]; rfl
            have x2 : wr.cell? ⟨gA, 1, none⟩ = some (.int .i64 p2) := by rw [Lib.cell_of_heap hbx]; rfl
            clear hbx
            by_cases hlast : i + 1 = aL.length
            · have hl0 : ¬ (i : Int) + 1 < (aL.length : Int) := by omega
              have hl1 : decide ((i : Int) + 1 < (aL.length : Int)) = false := decide_eq_false hl0
              clear hl0
              have HW2 : Hid ((dn ++ [aL[i]]) ++ want (p1, p2) (256 + (l.length : Int)) (aL.drop (i + 1)) = bL) := by show _ = _; rw [← HWN.out, want_last hlast hend, List.append_assoc]; rfl
              generalize aL[i] = x at *
              clear hc HWN hlast HDN
              go_wp2_with (fail)
              go_quiet (fail)
              obtain ⟨wq, hwq⟩ : ∃ wq, wq = wr.drewN nq := ⟨_, rfl⟩
              have hKq : Below wr.heap.size wr wq := by rw [hwq]; exact below_drewN (Below.refl _ _) nq
              have hBq : Below w5.heap.size w5 wq := by rw [hwq]; exact below_drewN hB nq
              have kq : wq.cell? ⟨b, off + i, none⟩ = some (iv x) := by rw [hwq]; exact k1
              rw [← hwq]
              clear hwq k1 hB x1 x2
              have HO2 := (show Hid _ from ow.later (HDN1.out wq hKq) (below_alloc wq (.cells #[.int .i64 x] 3)))
              have HN2 := (show Hid _ from ow.new1 wq (.int .i64 x) 3)
              have hB2 := hBq.alloc hBq.size (.cells #[.int .i64 x] 3)
              have hBw : w5.heap.size ≤ (wq.alloc (.cells #[.int .i64 x] 3)).heap.size := hB2.size
              go_wp2_with (at_builtin; refine ow.wpList_append (by rfl) (.tmp 80) (.tmp 85) 30 (by rfl) 3 (.int .i64 0) 1 8 Try.underlying30 info3 (by rfl) (by decide) (by decide) w5.heap.size (.slice ng nl nc) nl (dn.map (Value.int .i64)) wq.heap.size [.int .i64 x] (by rfl) (by rfl) (by exact HO2.out) (by rfl) (by exact HN2.out) (by exact ow.one1 _ rfl) (by omega) (by exact hBw) ?_; intro g' cap2 w8 ho hgr hw8)
              have B8 : Below w5.heap.size w5 w8 := hB2.grown hgr hB2.size (by intro k hk; exact (ow.lt HO2.out hk).1)
              have ho2 : Owns w8 w5.heap.size (.slice (some ⟨g', 0, none⟩) (nl + 1) cap2) (dn ++ [x]) := by
                unfold Owns
                rw [List.length_append, List.map_append, ← HNL.out]
                exact ho
              obtain ⟨tg3, tc3, h1, h2, h3, h4⟩ := ostart (w := w5) (nl + 1) ho2 (by rw [List.length_append, ← HNL.out]; rfl)
              go_roundw
              case rel => exact ⟨i + 1, nl + 1, tg3, tc3, dn ++ [x], by go_num, h1, by omega, h2, h3, by omega, by show _ = _; rw [List.length_append, ← HNL.out]; rfl, HW2.out, h4, B8⟩
              case measure => simp [intOf]; omega
            · have hl1 : (i : Int) + 1 < (aL.length : Int) := by omega
              have hl2 : i + 1 < aL.length := by omega
              obtain ⟨b2, off2, e2, hb2, hc2⟩ := HR5.out.lie (i + 1) hl2
              obtain ⟨⟨rfl, rfl⟩, _⟩ : (b = b2 ∧ off = off2) ∧ True := by simpa using e2
              have k2 := (hB.cell (p := ⟨b, off + (i + 1), none⟩) hb).trans hc2
              have HWA : Hid ((aL[i], aL[i + 1]) = (p1, p2) → (dn ++ [256 + (l.length : Int)]) ++ want (p1, p2) (256 + (l.length : Int)) (aL.drop (i + 2)) = bL) := fun e => by rw [← HWN.out, want_at hl2 e, List.append_assoc]; rfl
              have HWB : Hid ((aL[i], aL[i + 1]) ≠ (p1, p2) → (dn ++ [aL[i]]) ++ want (p1, p2) (256 + (l.length : Int)) (aL.drop (i + 1)) = bL) := fun e => by rw [← HWN.out, want_not hl2 e, List.append_assoc]; rfl
              generalize aL[i] = x at *
              generalize aL[i + 1] = y at *
              clear hc hc2 HWN HDN e2 hlast
              by_cases hx : x = p1
              · have q1 : (x == p1) = true := beq_iff_eq.2 hx
                by_cases hy : y = p2
                · have q2 : (y == p2) = true := beq_iff_eq.2 hy
                  have HW2 := (show Hid _ from HWA.out (by rw [hx, hy]))
                  clear hx hy HWA HWB
                  go_wp2_with (fail)
                  go_quiet (fail)
                  obtain ⟨wq, hwq⟩ : ∃ wq, wq = wr.drewN nq := ⟨_, rfl⟩
                  have hKq : Below wr.heap.size wr wq := by rw [hwq]; exact below_drewN (Below.refl _ _) nq
                  have hBq : Below w5.heap.size w5 wq := by rw [hwq]; exact below_drewN hB nq
                  have kq : wq.cell? ⟨b, off + i, none⟩ = some (iv x) := by rw [hwq]; exact k1
                  rw [← hwq]
                  clear hwq k1 hB x1 x2
                  have HO2 := (show Hid _ from ow.later (HDN1.out wq hKq) (below_alloc wq (.cells #[.int .i64 (256 + (l.length : Int))] 3)))
                  have HN2 := (show Hid _ from ow.new1 wq (.int .i64 (256 + (l.length : Int))) 3)
                  have hB2 := hBq.alloc hBq.size (.cells #[.int .i64 (256 + (l.length : Int))] 3)
                  have hBw : w5.heap.size ≤ (wq.alloc (.cells #[.int .i64 (256 + (l.length : Int))] 3)).heap.size := hB2.size
                  go_wp2_with (at_builtin; refine ow.wpList_append (by rfl) (.tmp 72) (.tmp 76) 30 (by rfl) 3 (.int .i64 0) 1 8 Try.underlying30 info3 (by rfl) (by decide) (by decide) w5.heap.size (.slice ng nl nc) nl (dn.map (Value.int .i64)) wq.heap.size [.int .i64 (256 + (l.length : Int))] (by rfl) (by rfl) (by exact HO2.out) (by rfl) (by exact HN2.out) (by exact ow.one1 _ rfl) (by omega) (by exact hBw) ?_; intro g' cap2 w8 ho hgr hw8)
                  have B8 : Below w5.heap.size w5 w8 := hB2.grown hgr hB2.size (by intro k hk; exact (ow.lt HO2.out hk).1)
                  have ho2 : Owns w8 w5.heap.size (.slice (some ⟨g', 0, none⟩) (nl + 1) cap2) (dn ++ [(256 + (l.length : Int))]) := by
                    unfold Owns
                    rw [List.length_append, List.map_append, ← HNL.out]
                    exact ho
                  obtain ⟨tg3, tc3, h1, h2, h3, h4⟩ := ostart (w := w5) (nl + 1) ho2 (by rw [List.length_append, ← HNL.out]; rfl)
                  go_roundw
                  case rel => exact ⟨i + 2, nl + 1, tg3, tc3, dn ++ [(256 + (l.length : Int))], by go_num, h1, by omega, h2, h3, by omega, by show _ = _; rw [List.length_append, ← HNL.out]; rfl, HW2.out, h4, B8⟩
                  case measure => simp [intOf]; omega
                · have q2 : (y == p2) = false := beq_eq_false_iff_ne.2 hy
                  have HW2 := (show Hid _ from HWB.out (fun e => hy (congrArg Prod.snd e)))
                  clear hx hy HWA HWB
                  go_wp2_with (fail)
                  go_quiet (fail)
                  obtain ⟨wq, hwq⟩ : ∃ wq, wq = wr.drewN nq := ⟨_, rfl⟩
                  have hKq : Below wr.heap.size wr wq := by rw [hwq]; exact below_drewN (Below.refl _ _) nq
                  have hBq : Below w5.heap.size w5 wq := by rw [hwq]; exact below_drewN hB nq
                  have kq : wq.cell? ⟨b, off + i, none⟩ = some (iv x) := by rw [hwq]; exact k1
                  rw [← hwq]
                  clear hwq k1 hB x1 x2
                  have HO2 := (show Hid _ from ow.later (HDN1.out wq hKq) (below_alloc wq (.cells #[.int .i64 x] 3)))
                  have HN2 := (show Hid _ from ow.new1 wq (.int .i64 x) 3)
                  have hB2 := hBq.alloc hBq.size (.cells #[.int .i64 x] 3)
                  have hBw : w5.heap.size ≤ (wq.alloc (.cells #[.int .i64 x] 3)).heap.size := hB2.size
                  go_wp2_with (at_builtin; refine ow.wpList_append (by rfl) (.tmp 80) (.tmp 85) 30 (by rfl) 3 (.int .i64 0) 1 8 Try.underlying30 info3 (by rfl) (by decide) (by decide) w5.heap.size (.slice ng nl nc) nl (dn.map (Value.int .i64)) wq.heap.size [.int .i64 x] (by rfl) (by rfl) (by exact HO2.out) (by rfl) (by exact HN2.out) (by exact ow.one1 _ rfl) (by omega) (by exact hBw) ?_; intro g' cap2 w8 ho hgr hw8)
                  have B8 : Below w5.heap.size w5 w8 := hB2.grown hgr hB2.size (by intro k hk; exact (ow.lt HO2.out hk).1)
                  have ho2 : Owns w8 w5.heap.size (.slice (some ⟨g', 0, none⟩) (nl + 1) cap2) (dn ++ [x]) := by
                    unfold Owns
                    rw [List.length_append, List.map_append, ← HNL.out]
                    exact ho
                  obtain ⟨tg3, tc3, h1, h2, h3, h4⟩ := ostart (w := w5) (nl + 1) ho2 (by rw [List.length_append, ← HNL.out]; rfl)
                  go_roundw
                  case rel => exact ⟨i + 1, nl + 1, tg3, tc3, dn ++ [x], by go_num, h1, by omega, h2, h3, by omega, by show _ = _; rw [List.length_append, ← HNL.out]; rfl, HW2.out, h4, B8⟩
                  case measure => simp [intOf]; omega
              · have q1 : (x == p1) = false := beq_eq_false_iff_ne.2 hx
                have HW2 := (show Hid _ from HWB.out (fun e => hx (congrArg Prod.fst e)))
                clear hx HWA HWB
                go_wp2_with (fail)
                go_quiet (fail)
                obtain ⟨wq, hwq⟩ : ∃ wq, wq = wr.drewN nq := ⟨_, rfl⟩
                have hKq : Below wr.heap.size wr wq := by rw [hwq]; exact below_drewN (Below.refl _ _) nq
                have hBq : Below w5.heap.size w5 wq := by rw [hwq]; exact below_drewN hB nq
                have kq : wq.cell? ⟨b, off + i, none⟩ = some (iv x) := by rw [hwq]; exact k1
                rw [← hwq]
                clear hwq k1 hB x1 x2
                have HO2 := (show Hid _ from ow.later (HDN1.out wq hKq) (below_alloc wq (.cells #[.int .i64 x] 3)))
                have HN2 := (show Hid _ from ow.new1 wq (.int .i64 x) 3)
                have hB2 := hBq.alloc hBq.size (.cells #[.int .i64 x] 3)
                have hBw : w5.heap.size ≤ (wq.alloc (.cells #[.int .i64 x] 3)).heap.size := hB2.size
                go_wp2_with (at_builtin; refine ow.wpList_append (by rfl) (.tmp 80) (.tmp 85) 30 (by rfl) 3 (.int .i64 0) 1 8 Try.underlying30 info3 (by rfl) (by decide) (by decide) w5.heap.size (.slice ng nl nc) nl (dn.map (Value.int .i64)) wq.heap.size [.int .i64 x] (by rfl) (by rfl) (by exact HO2.out) (by rfl) (by exact HN2.out) (by exact ow.one1 _ rfl) (by omega) (by exact hBw) ?_; intro g' cap2 w8 ho hgr hw8)
                have B8 : Below w5.heap.size w5 w8 := hB2.grown hgr hB2.size (by intro k hk; exact (ow.lt HO2.out hk).1)
                have ho2 : Owns w8 w5.heap.size (.slice (some ⟨g', 0, none⟩) (nl + 1) cap2) (dn ++ [x]) := by
                  unfold Owns
                  rw [List.length_append, List.map_append, ← HNL.out]
                  exact ho
                obtain ⟨tg3, tc3, h1, h2, h3, h4⟩ := ostart (w := w5) (nl + 1) ho2 (by rw [List.length_append, ← HNL.out]; rfl)
                go_roundw
                case rel => exact ⟨i + 1, nl + 1, tg3, tc3, dn ++ [x], by go_num, h1, by omega, h2, h3, by omega, by show _ = _; rw [List.length_append, ← HNL.out]; rfl, HW2.out, h4, B8⟩
                case measure => simp [intOf]; omega
          · have HF : Hid (IntsV wr (.slice ng nl nc) bL) := by
              have h1 := HWN.out
              rw [List.drop_of_length_le (by omega)] at h1
              have h2 : dn = bL := by simpa [want] using h1
              rw [← h2]
              exact Owns.ints HDN.out
            have c13 := ints_same bL _ _ wr (HB5.out.later hB) HF.out
            clear HF HWN HDN HDN1
            go_wp2_with (go_at_call 13; refine c13.mono ?_; rintro e w9 ⟨rfl, b9⟩)
            go_ret
            exact ⟨rfl, by rw [HGW.out]; exact B5.trans ((chain hB b9).mono (Nat.le_of_lt HGL.out))⟩
theorem walk {l : List Mg} {v : Value} {w : World} (hM : Mgs w v l) (hform : (v = .slice none 0 0 ∧ l = []) ∨ ∃ a c, v = .slice (some a) l.length c) (hsm : l.length * 16 ≤ 140737488351232) {p : Mg} {vo : Value} (ho : vo = .agg #[.int .i64 p.1, .int .i64 p.2]) {ids : List Int} {vs : Value} (hs : IntsV w vs ids) (w0 : World) (hw0 : w0 = w := by rfl) :
    Calls Try.prog 7 #[v, vo, vs] w0 fun e w' => e = .returned (.bool true) ∧ Below w0.heap.size w0 w' := by
  subst hw0
  subst ho
  obtain ⟨p1, p2⟩ := p
  by_cases ha : applyE l (ids.take 60) = 0
  · by_cases hb : applyE (l ++ [(p1, p2)]) (ids.take 60) = 0
    · have e2 : errOf (l ++ [(p1, p2)]) = 0 := by
        by_cases e : errOf (l ++ [(p1, p2)]) = 0
        · exact e
        · rw [applyE_err rfl e] at hb; exact absurd hb e
      have e1 : errOf l = 0 := by
        by_cases e : errOf l = 0
        · exact e
        · rw [applyE_err rfl e] at ha; exact absurd ha e
      refine good hM hform hsm hs _ rfl (app l (ids.take 60)) (app (l ++ [(p1, p2)]) (ids.take 60)) (ok_run e1).1 ?_ ha hb (applyL_ok ha) (applyL_ok hb) (app_more e2 _).symm
      have := app_len l (ids.take 60)
      rw [List.length_take] at this
      omega
    · exact err_b hM hform hsm hs _ rfl _ ha rfl hb
  · exact err_a hM hform hsm hs _ rfl _ _ rfl rfl ha

set_option maxRecDepth 100000 in
theorem lifted (os : Os) (started : os.Started) (H : Type) (enc : TypeId × Value → H) :
    ReturnsInHanded {} Try.checked os 7 .any (Rows.mergeMoreSpec.pre6 enc Try.prog Try.f7 Rows.mergeMoreRow.domain false) (Rows.mergeMoreSpec.post enc Try.prog Try.f7 false true false false) := by
  refine returnsInHanded_of_change_sized (C := Try.checked) own started (by kernel_rfl) Try.func7
    (ChangeSpec.witness6 (enc := enc) (C := Try.checked) false ⟨#[], #[.slice none 0 0, .agg #[.int .i64 0, .int .i64 0], .slice none 0 0], []⟩ 8 (by kernel_rfl) (by kernel_rfl) (by kernel_rfl) (by kernel_rfl)) ?_
  intro W base args ds gs before hval0 hW hcnd hsz0 _
  have hsz : (DataW.weightsEach Try.prog (Try.f7.params.toList ++ Rows.mergeMoreSpec.plain.varTypes Try.prog) (ds ++ gs)).all (· ≤ reachBytes) = true := hsz0
  have hval : ∀ (j : Nat) t v, Try.f7.params[j]? = some t → args[j]? = some v → Value.okWide Try.prog W .any base t v := hval0
  have hW' := hW
  obtain ⟨p, q, hA0, hV, rfl, hfz, hnd⟩ := hW
  have hA : DataW.TrodAll enc Try.prog W 0 (fun _ => true) true Try.f7.params.toList args.toList ds p := hA0
  rw [Try.params7] at hA hval hsz
  obtain ⟨v0, vs0, d0, ds0, p0, q0, hargs, rfl, rfl, h0, r0⟩ := trodAll_cons hA
  obtain ⟨v1, vs1, d1, ds1, p1, q1, rfl, rfl, rfl, h1, r1⟩ := trodAll_cons r0
  obtain ⟨v2, vs2, d2, ds2, p2, q2, rfl, rfl, rfl, h2, r2⟩ := trodAll_cons r1
  obtain ⟨rfl, rfl, rfl⟩ := trodAll_nil r2
  obtain rfl : args = #[v0, v1, v2] := by cases args; simp_all
  obtain ⟨rfl, rfl⟩ := trodVars_none hV
  have k0 := h0
  have lt0 : ∀ x ∈ p0, x.block < W.heap.size := by obtain ⟨m, hm⟩ := k0; exact DataW.trod_lt m _ _ _ hm
  obtain ⟨l0, F0, D0⟩ := mg.open22d (hval 0 22 v0 rfl rfl) h0
  have G0 : (v0 = .slice none 0 0 ∧ l0 = []) ∨ ∃ a c, v0 = .slice (some a) l0.length c := by
    rcases D0 with h | ⟨a, c, es, sp, e, _, _⟩
    · exact .inl h
    · exact .inr ⟨a, c, e⟩
  have S0 : l0.length * 16 ≤ 140737488351232 := by
    rcases D0 with ⟨_, h⟩ | ⟨a, c, es, sp, _, h, e⟩
    · rw [h]; simp
    · subst h
      have := sized_slice hsz (j := 0) (t := 22) rfl rfl Try.underlying22
      rw [show Try.prog.bytesOf 43 = 16 by kernel_rfl] at this
      simp only [reachBytes] at this
      omega
  have k1 := h1
  have lt1 : ∀ x ∈ p1, x.block < W.heap.size := by obtain ⟨m, hm⟩ := k1; exact DataW.trod_lt m _ _ _ hm
  obtain ⟨l1, F1⟩ := mg.open43 (hval 1 43 v1 rfl rfl) h1
  have k2 := h2
  have lt2 : ∀ x ∈ p2, x.block < W.heap.size := by obtain ⟨m, hm⟩ := k2; exact DataW.trod_lt m _ _ _ hm
  obtain ⟨l2, F2⟩ := mg.open30 (hval 2 30 v2 rfl rfl) h2
  clear hA0 hval0
  refine (walk F0 G0 S0 F1 F2 W).mono fun e W' ⟨he, bel⟩ => ?_
  subst he
  exact ⟨_, rfl, _, _, _, [], _, [], hW', trodAll_mk1 (shut_bool Try.underlying4 _), (trodAll_cons_mk (Below.trod laidOut (by kernel_rfl) (of_decide_eq_true (by kernel_rfl)) k0 bel lt0) (trodAll_cons_mk (Below.trod laidOut (by kernel_rfl) (of_decide_eq_true (by kernel_rfl)) k1 bel lt1) (trodAll_cons_mk (Below.trod laidOut (by kernel_rfl) (of_decide_eq_true (by kernel_rfl)) k2 bel lt2) trodAll_mk0))), rfl, bel.frame _, fun h => by cases h⟩

theorem over : Rows.mergeMoreRow.holds Try.pinned (OpenSpec.ofChange Rows.mergeMoreSpec) :=
  OpenClaim.holds_of_wide 7 Try.f7 rfl rfl rfl rfl rfl rfl rfl ⟨rfl, rfl, rfl, rfl, rfl⟩ rfl rfl rfl rfl rfl (by kernel_rfl) Try.func7 (by kernel_rfl)
    (of_decide_eq_true (by kernel_rfl)) (by unfold Func.isWrapper; first | (rw [if_pos (by decide +kernel)]; kernel_rfl) | (rw [if_neg (by decide +kernel)]; exact ⟨rfl, rfl⟩))
    (fun os started H enc _ => lifted os started H enc)

theorem proved : Rows.MergeMoreSaid :=
  over
#print axioms proved
end Go.Proofs.Ytciphckjjbinbaa.mergeMore
