/-
  Contracts over this program: maps whose keys are texts; the texts of all ids (merge.Texts).
-/
import Derived.Test.YthmecbonjkcnmaaKMd
import Derived.Maps.OwnSet
import Derived.Maps.OwnIn
import Derived.DeepKeys4
import Derived.MapViews
namespace Go.Proofs.Ythmecbonjkcnmaa.mg
open Go.ChangeShapes Go.WideShapes Go.ChangeAt Go.RowKit Go.Shelf Go.Maps
set_option linter.unusedVariables false

theorem law9 : Keyed Try.prog 9 := string_keyed Try.underlying9
theorem zero3 (w : World) : (zeroValue 3).run Try.prog w = .ok (.int .i64 0) w := by kernel_rfl
def OkT (t : ByteArray) : Prop := t.size ≤ 100000000
def kt (t : ByteArray) : Lit := .string t.data.toList
theorem key9 (t : ByteArray) (h : OkT t) : keyOf Try.prog 9 (.string t) = some (kt t) := Go.WideMaps.keyOf_string_mk (P := Try.prog) Try.underlying9 (by unfold OkT at h; unfold maxLen; omega)
theorem kt_inj {s t : ByteArray} (h : kt s = kt t) : s = t := by
  apply ByteArray.ext
  exact Array.toList_inj.1 (Lit.string.inj h)
theorem map_keep {W W' : World} {K : Nat} {m n : Nat} {D : DataW Unit} (hm : W.ownsMap Try.prog K (plainElem (H := Unit) Try.prog 3) m n D) (e : W'.heap[m]? = W.heap[m]?) : W'.ownsMap Try.prog K (plainElem (H := Unit) Try.prog 3) m n D := by
  obtain ⟨es, clock, hb, hr⟩ := hm
  exact ⟨es, clock, e.trans hb, hr⟩
theorem look81 {W : World} {m n : Nat} {D : DataW Unit} (hown : W.ownsMap Try.prog 9 (plainElem (H := Unit) Try.prog 3) m n D) (t : ByteArray) (ht : OkT t) :
    ∃ c : Int, (Instr.lookup 81 (.map (some m)) (.string t) true).run Try.prog W = .ok (.tuple #[.int .i64 c, .bool (Maps.has D (kt t))]) W := by
  obtain ⟨v, ps, hrun, hv⟩ := hown.look_ok law9 Try.underlying81 (zero3 W) (plainElem_int Try.underlying3 (by decide)) (key9 t ht)
  obtain ⟨c, rfl, hc, hwc⟩ := plainElem_int_inv Try.underlying3 hv
  exact ⟨c, hrun⟩
theorem make81 (n : Int) (w : World) : (Instr.makeMap 81 (some (.int .i64 n))).run Try.prog w = .ok (.map (some w.heap.size)) (w.alloc (.map #[] 0)) := by kernel_rfl

def HasT (D : DataW Unit) (ts : List ByteArray) : Prop := ∀ t, Maps.has D (kt t) = true ↔ t ∈ ts
theorem HasT.put {D : DataW Unit} {ts : List ByteArray} (h : HasT D ts) (hT : Tidy D) (t : ByteArray) (v : DataW Unit) : HasT (D.put (kt t) v) (ts ++ [t]) := by
  intro x
  by_cases e : x = t
  · subst e
    rw [has_put_same hT.isMap (show WideAt.IsKeyLit (kt x) from trivial)]
    simp
  · rw [has_put_other (fun e2 => e (kt_inj e2)), h x]
    simp [e]
/-- how far the texts are told -/
structure TI (w : World) (mb : Nat) (l : List Mg) (i : Nat) (tv : Value) (ts : List ByteArray) (D : DataW Unit) (W : World) : Prop where
  own : W.ownsRow w.heap.size 9 1 tv ts.length (ts.map Value.string)
  map : W.ownsMap Try.prog 9 (plainElem (H := Unit) Try.prog 3) mb i D
  mb : w.heap.size ≤ mb
  fine : Fine (l.take i) ts
  go : run 256 (bytesT 256) l = run 256 ts (l.drop i)
  has : HasT D (ts.drop 256)
  below : Below w.heap.size w W
section
variable {w W W' : World} {mb i : Nat} {l : List Mg} {tv : Value} {ts : List ByteArray} {D : DataW Unit}
theorem TI.mlt (h : TI w mb l i tv ts D W) : mb < W.heap.size := by
  obtain ⟨es, c, hb, _⟩ := h.map
  exact (Array.getElem?_eq_some_iff.1 hb).1
theorem TI.later (h : TI w mb l i tv ts D W) (b : Below W.heap.size W W') : TI w mb l i tv ts D W' :=
  ⟨ow.later h.own b, map_keep h.map (b.block mb h.mlt), h.mb, h.fine, h.go, h.has, h.below.trans (b.mono h.below.size)⟩
theorem TI.ne (h : TI w mb l i tv ts D W) : tv.ownBlock ≠ some mb := fun e => by
  obtain ⟨es, c, hb, _⟩ := h.map
  exact ow.kind h.own hb rfl e.symm
theorem TI.bad (h : TI w mb l i tv ts D W) (hl : l.length ≤ 1024) (hi : i < l.length) (hn : ¬ Ok 256 ts l[i]) : errOf l = 130 ∧ textsOf l = [] := by
  have e : run 256 (bytesT 256) l = none := by
    rw [h.go, List.drop_eq_getElem_cons hi, run, if_neg hn]
  unfold errOf textsOf
  simp only [if_neg (show ¬ 1024 < l.length by omega), e]
  exact ⟨rfl, rfl⟩
theorem TI.done (h : TI w mb l i tv ts D W) (hl : l.length ≤ 1024) (hi : ¬ i < l.length) : errOf l = 0 ∧ textsOf l = ts := by
  have e : run 256 (bytesT 256) l = some ts := by
    rw [h.go, List.drop_eq_nil_of_le (by omega), run]
  unfold errOf textsOf
  simp only [if_neg (show ¬ 1024 < l.length by omega), e]
  exact ⟨rfl, rfl⟩
theorem TI.step (h : TI w mb l i tv ts D W) (hi : i < l.length) (hk : Ok 256 ts l[i]) {tv' : Value} {D' : DataW Unit} (ho : W'.ownsRow w.heap.size 9 1 tv' (ts.length + 1) (ts.map Value.string ++ [.string (txt ts l[i])]))
    (hm : W'.ownsMap Try.prog 9 (plainElem (H := Unit) Try.prog 3) mb (i + 1) D') (hh : HasT D' (ts.drop 256 ++ [txt ts l[i]])) (hb : Below w.heap.size w W') : TI w mb l (i + 1) tv' (ts ++ [txt ts l[i]]) D' W' := by
  refine ⟨?_, hm, h.mb, ?_, ?_, ?_, hb⟩
  · rw [List.length_append, List.map_append]
    exact ho
  · rw [List.take_add_one, List.getElem?_eq_getElem hi]
    exact h.fine.push hk
  · rw [h.go, List.drop_eq_getElem_cons hi, run, if_pos hk]
  · rw [List.drop_append_of_le_length (by have := h.fine.len; omega)]
    exact hh
end
theorem TI.start {w W : World} {mb i : Nat} {l : List Mg} {tv : Value} {ts : List ByteArray} {D : DataW Unit} (h : TI w mb l i tv ts D W) (hi : i ≤ l.length) : ∃ (i' : Nat) (ts : List ByteArray) (D : DataW Unit) (tg : Option Addr) (tc : Nat), Value.int .i64 (i : Int) = .int .i64 (i' : Int) ∧ tv = .slice tg ts.length tc ∧ i' ≤ l.length ∧ ts.length ≤ tc ∧ tc ≤ 9223372036854775807 ∧ Hid (TI w mb l i' (.slice tg ts.length tc) ts D W) := by
  obtain ⟨tg, tc, e, h1, h2⟩ := ow.form h.own
  subst e
  exact ⟨i, ts, D, tg, tc, rfl, rfl, hi, h1, h2, h⟩
theorem txt_at {ts : List ByteArray} {x y : Nat} (hx : x < ts.length) (hy : y < ts.length) : txt ts ((x : Int), (y : Int)) = ts[x] ++ ts[y] := by
  unfold txt atI
  rw [List.getD_eq_getElem?_getD, List.getD_eq_getElem?_getD]
  simp [hx, hy]
def TextsOut (l : List Mg) (w : World) (e : Ending) (w' : World) : Prop := ∃ v', e = .returned (.tuple #[v', .int .i64 (errOf l : Int)]) ∧ w'.ownsRow w.heap.size 9 1 v' (textsOf l).length ((textsOf l).map Value.string) ∧ Below w.heap.size w w'
theorem TextsOut.bad {l : List Mg} {w w' : World} (h : errOf l = 130 ∧ textsOf l = []) (hb : Below w.heap.size w w') : TextsOut l w (.returned (.tuple #[.slice none 0 0, .int .i64 130])) w' := by
  refine ⟨.slice none 0 0, ?_, ?_, hb⟩
  · rw [h.1]; rfl
  · rw [h.2]; exact ⟨rfl, .inl ⟨rfl, rfl⟩⟩

set_option maxHeartbeats 2000000 in
set_option maxRecDepth 100000 in
theorem texts_any (l : List Mg) (v : Value) (w : World) (hv : Mgs w v l) : Calls Try.prog 27 #[v] w (TextsOut l w) := by
  obtain ⟨o, cap, rfl, hl, hm, hc⟩ := hv.form
  by_cases hlong : 1024 < l.length
  · have HO : Hid (TextsOut l w (.returned (.tuple #[.slice none 0 0, .int .i64 2])) w) := by
      refine ⟨.slice none 0 0, ?_, ?_, Below.refl _ _⟩
      · unfold errOf; rw [if_pos hlong]; rfl
      · unfold textsOf; rw [if_pos hlong]; exact ⟨rfl, .inl ⟨rfl, rfl⟩⟩
    clear hv hc
    go_enter Try.func27, Try.ntmps27
    go_wp2_with (fail)
    go_ret2
    exact HO.out
  · have hl2 : l.length ≤ 1024 := by omega
    have h21 := ofBytes_any l.length hl2
    have HC := (show Hid _ from hc)
    have hmm := make81
    clear hv hc
    go_enter Try.func27, Try.ntmps27
    go_wp2_with (go_at_call 39; refine (h21 _).mono ?_; rintro e w1 ⟨tv0, rfl, ho1, b1⟩)
    have T0 : TI w w1.heap.size l 0 tv0 (bytesT 256) (.map []) (w1.alloc (.map #[] 0)) := by
      refine ⟨?_, World.ownsMap_made _ _ _ _, b1.size, ?_, by rw [List.drop_zero], ?_, b1.alloc b1.size _⟩
      · rw [bytesT_len]; exact ow.later ho1 (below_alloc _ _)
      · rw [List.take_zero]; exact fine_nil
      · rw [List.drop_eq_nil_of_le (by rw [bytesT_len]; exact Nat.le_refl _)]
        intro t
        exact ⟨fun h => (by cases h), fun h => (by cases h)⟩
    clear hmm ho1 h21 b1
    generalize w1.alloc (.map #[] 0) = w2 at *
    generalize w1.heap.size = mb at *
    go_loopw [22, 4] (fun y x wr => ∃ (i : Nat) (ts : List ByteArray) (D : DataW Unit) (tg : Option Addr) (tc : Nat), y = .int .i64 i ∧ x = .slice tg ts.length tc ∧ i ≤ l.length ∧ ts.length ≤ tc ∧ tc ≤ 9223372036854775807 ∧ Hid (TI w mb l i (.slice tg ts.length tc) ts D wr)) (fun y _ _ => l.length - (intOf y).toNat)
    case atStart => exact T0.start (by omega)
    case round =>
      obtain ⟨i, ts, D, tg, tc, rfl, rfl, hil, tf1, tf2, HT⟩ := hrel
      by_cases hend : i < l.length
      · obtain ⟨g, off, rfl, hlt, c1, c2⟩ := HC.out i hend
        have hB := HT.out.below
        have k1 := (hB.cell (p := ⟨g, off + i * 2, none⟩) hlt).trans c1
        have k2 := (hB.cell (p := ⟨g, off + i * 2 + 1, none⟩) hlt).trans c2
        have hle := HT.out.fine.len
        rw [List.length_take] at hle
        have htl : ts.length ≤ 1280 := by omega
        clear hle
        have HBAD : Hid (¬ Ok 256 ts l[i] → errOf l = 130 ∧ textsOf l = []) := HT.out.bad hl2 hend
        have HSTEP := (show Hid (∀ W', Ok 256 ts l[i] → ∀ tv' D', _ → _ → _ → _ → TI w mb l (i + 1) tv' (ts ++ [txt ts l[i]]) D' W') from fun W' hk tv' D' h1 h2 h3 h4 => HT.out.step hend hk h1 h2 h3 h4)
        generalize l[i] = m at *
        obtain ⟨x, y⟩ := m
        simp only at k1 k2
        obtain ⟨wA, HWA⟩ : ∃ wA, Hid (wA = wr.alloc (.cells #[.int .i64 x, .int .i64 y] 73)) := ⟨_, rfl⟩
        have BA : Below wr.heap.size wr wA := by rw [HWA.out]; exact below_alloc _ _
        have hA : wA.heap[wr.heap.size]? = some (.cells #[.int .i64 x, .int .i64 y] 73 (0, 0)) := by rw [HWA.out]; exact heap_alloc_new wr _
        have a0 : wA.cell? ⟨wr.heap.size, 0, none⟩ = some (.int .i64 x) := by rw [Lib.cell_of_heap hA]; rfl
        have a1 : wA.cell? ⟨wr.heap.size, 1, none⟩ = some (.int .i64 y) := by rw [Lib.cell_of_heap hA]; rfl
        have HTA := (show Hid _ from HT.out.later BA)
        have HBB : Hid (Below w.heap.size w wA) := HTA.out.below
        clear c1 c2 HT hA
        go_wp2_with (fail)
        rw [← HWA.out]
        generalize wr.heap.size = ag at *
        clear HWA BA hB k1 k2
        have c1 := fun w => isId_any x ts.length w
        have c2 := fun w => isId_any y ts.length w
        by_cases hx : InR x ts.length
        · rw [decide_eq_true hx] at c1
          by_cases hy : InR y ts.length
          · rw [decide_eq_true hy] at c2
            obtain ⟨x1, rfl⟩ : ∃ x1 : Nat, x = (x1 : Int) := ⟨x.toNat, by have := hx.1; omega⟩
            obtain ⟨y1, rfl⟩ : ∃ y1 : Nat, y = (y1 : Int) := ⟨y.toNat, by have := hy.1; omega⟩
            have hx2 : x1 < ts.length := by have := hx.2; omega
            have hy2 : y1 < ts.length := by have := hy.2; omega
            obtain ⟨g1, cap1, e1, hg1, d1⟩ := ow.cell HTA.out.own x1 (by rw [List.length_map]; exact hx2)
            obtain ⟨g2, cap2, e2, hg2, d2⟩ := ow.cell HTA.out.own y1 (by rw [List.length_map]; exact hy2)
            obtain ⟨rfl, rfl⟩ : tg = some ⟨g1, 0, none⟩ ∧ tc = cap1 := by simpa using e1
            obtain ⟨rfl, rfl⟩ : g1 = g2 ∧ tc = cap2 := by simpa using e2
            rw [List.getElem_map] at d1 d2
            have HTX := (show Hid _ from txt_at hx2 hy2)
            have hs1 := (HTA.out.fine.size _ (List.getElem_mem hx2)).2
            have hs2 := (HTA.out.fine.size _ (List.getElem_mem hy2)).2
            have HBAD2 : Hid (64 < (ts[x1] ++ ts[y1]).size ∨ ts[x1] ++ ts[y1] ∈ ts.drop 256 → errOf l = 130 ∧ textsOf l = []) := fun h => HBAD.out (fun k => by
              have k3 := k.2.2
              rw [HTX.out] at k3
              rcases h with h | h
              · omega
              · exact k3.2 h)
            have HOK : Hid ((ts[x1] ++ ts[y1]).size ≤ 64 → ts[x1] ++ ts[y1] ∉ ts.drop 256 → Ok 256 ts ((x1 : Int), (y1 : Int))) := fun h1 h2 => ⟨hx, hy, by rw [HTX.out]; exact h1, by rw [HTX.out]; exact h2⟩
            have hokT : OkT (ts[x1] ++ ts[y1]) := by unfold OkT; rw [app_size]; omega
            have hsz : (ts[x1] ++ ts[y1]).size = ts[x1].size + ts[y1].size := app_size _ _
            rw [HTX.out] at HSTEP
            clear HTX hx hy HBAD e1 e2
            generalize ts[x1] = t1 at *
            generalize ts[y1] = t2 at *
            have hlk := fun n => look81 (W := wA.drewN n) (map_keep (W := wA) (W' := wA.drewN n) HTA.out.map rfl) (t1 ++ t2) hokT
            have hkey := key9 (t1 ++ t2) hokT
            have HHAS := (show Hid _ from HTA.out.has (t1 ++ t2))
            go_wp2_with (first | (go_at_call 40; with_reducible refine (c1 _).mono ?_; rintro e w' ⟨rfl, rfl⟩) | (go_at_call 40; with_reducible refine (c2 _).mono ?_; rintro e w' ⟨rfl, rfl⟩))
            clear c1 c2
            go_quiet (fail)
            obtain ⟨c, hl⟩ := hlk nq
            have HT2 := (show Hid _ from HTA.out.later (below_drewN (Below.refl _ _) nq))
            clear hlk HTA HBB a0 a1 d1 d2 hg1 hg2
            generalize w'.drewN nq = wB at *
            generalize t1 ++ t2 = t at *
            clear hsz hs1 hs2 HC T0
            have HBB : Hid (Below w.heap.size w wB) := HT2.out.below
            by_cases hin : t ∈ ts.drop 256
            · rw [HHAS.out.2 hin] at hl
              have HO := (show Hid _ from TextsOut.bad (HBAD2.out (.inr hin)) HBB.out)
              clear hin HBAD2 HOK HSTEP HT2 HHAS
              go_wp2_with (fail)
              go_ret2
              exact HO.out
            · rw [Bool.eq_false_iff.2 (fun h => hin (HHAS.out.1 h))] at hl
              by_cases hsz : 64 < t.size
              · have HO := (show Hid _ from TextsOut.bad (HBAD2.out (.inl hsz)) HBB.out)
                clear hin HBAD2 HOK HSTEP HT2 HHAS
                go_wp2_with (fail)
                go_ret2
                exact HO.out
              · have HOK2 := (show Hid _ from HOK.out (by omega) hin)
                have HOUT := (show Hid _ from fun W' => HSTEP.out W' HOK2.out)
                clear hin HBAD2 HOK HSTEP HHAS HOK2
                have hmp := HT2.out.map
                have HNE := (show Hid _ from HT2.out.ne)
                have hn64 : ¬ (64 : Int) < (t.size : Int) := by omega
                go_wp2_with (first | (at_mapUpdate; refine wpList_mapUpdate_own _ rfl _ _ _ 81 rfl 9 3 law9 Try.underlying81 _ mb i D rfl hmp (by unfold maxLen; omega) _ _ _ rfl rfl hkey _ [] (plainElem_int Try.underlying3 (WalkArith.wf_i64 (by omega))) ?_; intro w2 hD2 hg2; have HO2 := (show Hid _ from ow.later (ow.keep HT2.out.own (W' := w2) (fun g eg => hg2.block g (ow.lt HT2.out.own eg).2 (fun e => HNE.out (by rw [← Option.some.inj e]; exact eg)))) (below_alloc w2 (.cells #[.string t] 9))); have HN2 := (show Hid _ from ow.new1 w2 (.string t) 9); have hBw : w.heap.size ≤ (w2.alloc (.cells #[.string t] 9)).heap.size := Nat.le_trans HT2.out.below.size (Nat.le_trans hg2.size (below_alloc w2 _).size); clear hmp) | (at_builtin; refine ow.wpList_append (by rfl) (.tmp 67) (.tmp 69) 31 (by rfl) 9 (.string ⟨#[]⟩) 1 16 Try.underlying31 info9 (by rfl) (by decide) (by decide) w.heap.size (.slice (some ⟨g1, 0, none⟩) ts.length tc) ts.length (ts.map Value.string) w2.heap.size [.string t] (by rfl) (by rfl) (by exact HO2.out) (by rfl) (by exact HN2.out) (by exact ow.one1 _ rfl) (by omega) (by exact hBw) ?_; intro g' cap' w3 ho hgr hw3))
                have hmb := HT2.out.mb
                have hmlt : mb < w2.heap.size := Nat.lt_of_lt_of_le HT2.out.mlt hg2.size
                have B2 : Below w.heap.size w w2 := HT2.out.below.grown hg2 HT2.out.below.size (by intro k hk; cases hk; omega)
                have B3 := B2.alloc B2.size (.cells #[.string t] 9)
                have B4 : Below w.heap.size w w3 := B3.grown hgr B3.size (by intro k hk; exact (ow.lt HO2.out hk).1)
                have hD3 : w3.ownsMap Try.prog 9 (plainElem (H := Unit) Try.prog 3) mb (i + 1) (D.put (kt t) (.lit (.int .i64 (i : Nat)))) := map_keep hD2 ((hgr.block mb (Nat.lt_of_lt_of_le hmlt (below_alloc w2 _).size) (fun e => HNE.out e.symm)).trans ((below_alloc w2 _).block mb hmlt))
                have T := HOUT.out w3 _ _ ho hD3 (HT2.out.has.put (HT2.out.map.tidy law9) t _) B4
                go_roundw
                case rel => exact T.start (by omega)
                case measure => simp [intOf]; omega
          · rw [decide_eq_false hy] at c2
            have HO := (show Hid _ from TextsOut.bad (HBAD.out (fun h => hy h.2.1)) HBB.out)
            clear hx hy HBAD HSTEP
            go_wp2_with (first | (go_at_call 40; with_reducible refine (c1 _).mono ?_; rintro e w' ⟨rfl, rfl⟩) | (go_at_call 40; with_reducible refine (c2 _).mono ?_; rintro e w' ⟨rfl, rfl⟩))
            go_ret2
            exact HO.out
        · rw [decide_eq_false hx] at c1
          have HO := (show Hid _ from TextsOut.bad (HBAD.out (fun h => hx h.1)) HBB.out)
          clear hx HBAD HSTEP c2
          go_wp2_with (first | (go_at_call 40; refine (c1 _).mono ?_; rintro e w' ⟨rfl, rfl⟩))
          go_ret2
          exact HO.out
      · obtain ⟨e1, e2⟩ := HT.out.done hl2 hend
        have HO : Hid (TextsOut l w (.returned (.tuple #[.slice tg ts.length tc, .int .i64 0])) wr) := ⟨_, by rw [e1]; rfl, by rw [e2]; exact HT.out.own, HT.out.below⟩
        clear HT HC e1 e2
        go_wp2_with (fail)
        go_ret2
        exact HO.out
end Go.Proofs.Ythmecbonjkcnmaa.mg
