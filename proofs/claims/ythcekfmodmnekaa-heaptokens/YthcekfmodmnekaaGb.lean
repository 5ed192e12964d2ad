/-
  Contracts over this program: the ranks of the merges that are left (heap.ranksOf).
-/
import Derived.Test.YthcekfmodmnekaaGa
import Derived.Maps.OwnSet
namespace Go.Proofs.Ythcekfmodmnekaa.hp
open Go.ChangeShapes Go.WideShapes Go.ChangeAt Go.RowKit Go.Shelf Go.Maps
open mg
set_option linter.unusedVariables false
set_option maxRecDepth 100000

/-- what a map of ranks holds when those of d are gone -/
structure RM (l : List Mg) (d : List Int) (D : DataW Unit) : Prop where
  has : ∀ s, OkM s → (Maps.has D (kp s) = true ↔ ∃ k, l[k]? = some s ∧ ((k : Nat) : Int) ∉ d)
  at' : ∀ (k : Nat) s, l[k]? = some s → (k : Int) ∉ d → D.atKey (kp s) (.lit (.int .i64 0)) = .lit (.int .i64 (k : Int))
theorem RM.of {l : List Mg} {D : DataW Unit} (h : MapN kp OkM l D) : RM l [] D :=
  ⟨fun s hs => by rw [h.has s hs]; exact ⟨fun hm => by obtain ⟨k, hk⟩ := List.getElem?_of_mem hm; exact ⟨k, hk, by simp⟩, fun ⟨k, hk, _⟩ => List.mem_of_getElem? hk⟩, fun k s hk _ => h.at' k s hk⟩
theorem RM.del {l : List Mg} {ts : List ByteArray} (F : Fine l ts) (hw : ∀ m ∈ l, OkM m) {d : List Int} {D : DataW Unit} (h : RM l d D) {x : Nat} {s0 : Mg} (hx : l[x]? = some s0) : RM l (d ++ [(x : Int)]) (D.del (kp s0)) := by
  have hok := hw s0 (List.mem_of_getElem? hx)
  refine ⟨fun s hs => ?_, fun k s hk hn => ?_⟩
  · by_cases e : s = s0
    · subst e
      rw [has_del_same]
      constructor
      · intro h; cases h
      · rintro ⟨k, hk, hn⟩
        have := F.once hk hx
        subst this
        exact absurd (List.mem_append_right d (List.mem_singleton.2 rfl)) hn
    · rw [has_del_other (fun e2 => e (kp_inj s s0 hs hok e2)), h.has s hs]
      constructor
      · rintro ⟨k, hk, hn⟩
        refine ⟨k, hk, fun hm => ?_⟩
        rcases List.mem_append.1 hm with h1 | h1
        · exact hn h1
        · have : k = x := by have := List.mem_singleton.1 h1; omega
          subst this
          rw [hk] at hx
          exact e (Option.some.inj hx)
      · rintro ⟨k, hk, hn⟩
        exact ⟨k, hk, fun hm => hn (List.mem_append_left _ hm)⟩
  · have hkx : k ≠ x := fun e => hn (by rw [e]; simp)
    have e : s ≠ s0 := fun e => hkx (F.once hk (by rw [e]; exact hx))
    rw [atKey_del_other (fun e2 => e (kp_inj s s0 (hw s (List.mem_of_getElem? hk)) hok e2))]
    exact h.at' k s hk (fun hm => hn (List.mem_append_left _ hm))

/-- the ranks of merges in memory -/
def RMap (W : World) (mb : Nat) (K : List Mg) : Prop := ∃ D n, W.ownsMap Try.prog 62 (plainElem (H := Unit) Try.prog 3) mb n D ∧ (∀ s, OkM s → 0 ≤ s.1 → (Maps.has D (kp s) = true ↔ s ∈ K)) ∧ (∀ s, OkM s → 0 ≤ s.1 → s ∈ K → D.atKey (kp s) (.lit (.int .i64 0)) = .lit (.int .i64 (K.idxOf s : Int)))
theorem RMap.of {W : World} {mb n : Nat} {l : List Mg} {ts : List ByteArray} (F : Fine l ts) {d : List Int} {D : DataW Unit} (ho : W.ownsMap Try.prog 62 (plainElem (H := Unit) Try.prog 3) mb n D) (h : RM l d D) : RMap W mb (keptL l d) :=
  ⟨D, n, ho, fun s hs h0 => by rw [h.has s hs, kept_mem h0], fun s hs h0 hm => by
    obtain ⟨k, hk, hn⟩ := (kept_mem h0).1 hm
    rw [kept_idx F h0 hk hn]
    exact h.at' k s hk hn⟩
theorem RMap.obj {W : World} {mb : Nat} {K : List Mg} (h : RMap W mb K) : ∃ es c, W.heap[mb]? = some (.map es c) := by
  obtain ⟨D, n, ⟨es, c, h, _⟩, _⟩ := h
  exact ⟨es, c, h⟩
theorem RMap.lt {W : World} {mb : Nat} {K : List Mg} (h : RMap W mb K) : mb < W.heap.size := by
  obtain ⟨es, c, h⟩ := h.obj
  exact (Array.getElem?_eq_some_iff.1 h).1
theorem RMap.keep {W W' : World} {mb : Nat} {K : List Mg} (h : RMap W mb K) (e : W'.heap[mb]? = W.heap[mb]?) : RMap W' mb K := by
  obtain ⟨D, n, h1, h2⟩ := h
  exact ⟨D, n, map_keep h1 e, h2⟩
theorem RMap.look {W : World} {mb : Nat} {K : List Mg} (h : RMap W mb K) (s : Mg) (hs : OkM s) (h0 : 0 ≤ s.1) : ∃ c : Int, (∀ n, (Instr.lookup 49 (.map (some mb)) (.agg #[.int .i64 s.1, .int .i64 s.2]) true).run Try.prog (W.drewN n) = .ok (.tuple #[.int .i64 c, .bool (decide (s ∈ K))]) (W.drewN n)) ∧ (s ∈ K → c = (K.idxOf s : Int)) := by
  obtain ⟨D, n0, h1, h2, h3⟩ := h
  have hlk := fun n => look57 (W := W.drewN n) (map_keep (W := W) (W' := W.drewN n) h1 rfl) s hs
  obtain ⟨c, _, hc⟩ := hlk 0
  have hd : Maps.has D (kp s) = decide (s ∈ K) := by
    by_cases hm : s ∈ K
    · rw [(h2 s hs h0).2 hm, decide_eq_true hm]
    · rw [decide_eq_false hm]
      exact Bool.eq_false_iff.2 fun h => hm ((h2 s hs h0).1 h)
  refine ⟨c, fun n => ?_, fun hm => ?_⟩
  · obtain ⟨c', e1, e2⟩ := hlk n
    rw [hc] at e2
    simp only [DataW.lit.injEq, Lit.int.injEq, true_and] at e2
    rw [e1, e2, hd]
  · have := h3 s hs h0 hm
    rw [hc] at this
    simpa using this

set_option maxHeartbeats 2000000 in
theorem ranks_any (l : List Mg) (hl4 : l.length ≤ 1024) (ts : List ByteArray) (hF : Fine l ts) (d : List Int) (hd : numB 0 l.length d = true) (v vd : Value) (w : World) (hv : Mgs w v l) (hvd : IntsV w vd d) : Calls Try.prog 23 #[v, vd] w fun e w' => ∃ mb, e = .returned (.map (some mb)) ∧ w.heap.size ≤ mb ∧ RMap w' mb (keptL l d) ∧ Below w.heap.size w w' := by
  obtain ⟨o, cap, rfl, hl, hm, hc⟩ := hv.form
  obtain ⟨od, capd, rfl, hrd⟩ := hvd
  have g1 := hrd.fit
  have g2 := hrd.top
  have HC := (show Hid _ from hc)
  have HF : Hid (Fine l ts) := hF
  have HRD : Hid (Row (In w) w iv od capd d) := hrd
  have HD : Hid (numB 0 l.length d = true) := hd
  have hmm := make49
  have hmade : (w.alloc (.map #[] 0)).ownsMap Try.prog 62 (plainElem (H := Unit) Try.prog 3) w.heap.size 0 (.map []) := World.ownsMap_made _ _ _ _
  have hB0 := below_alloc w (.map #[] 0)
  clear hv hc hF hrd hd
  go_enter Try.func23, Try.ntmps23
  go_wp2
  clear hmm
  generalize w.alloc (.map #[] 0) = w2 at *
  go_loopw [15] (fun y wr => ∃ (i : Nat) (D : DataW Unit), y = .int .i64 i ∧ i ≤ l.length ∧ wr.ownsMap Try.prog 62 (plainElem (H := Unit) Try.prog 3) w.heap.size i D ∧ Hid (MapN kp OkM (l.take i) D) ∧ Below w.heap.size w wr) (fun y _ => l.length - (intOf y).toNat)
  case atStart => exact ⟨0, _, rfl, by omega, hmade, by rw [List.take_zero]; exact mapN_nil _ _, hB0⟩
  case round =>
    clear hmade hB0
    obtain ⟨i, D, rfl, hi, hown, HM, hB⟩ := hrel
    by_cases hend : i < l.length
    · obtain ⟨g, off, rfl, hlt, c1, c2⟩ := HC.out i hend
      have k1 := (hB.cell (p := ⟨g, off + i * 2, none⟩) hlt).trans c1
      have k2 := (hB.cell (p := ⟨g, off + i * 2 + 1, none⟩) hlt).trans c2
      have hok := HF.out.wide hl4 l[i] (List.getElem_mem hend)
      have HT := (show Hid (∀ D', D' = D.put (kp l[i]) (.lit (.int .i64 (i : Int))) → MapN kp OkM (l.take (i + 1)) D') from fun D' e => by
        have := HM.out.put (hown.tidy law43) kp_inj (fun x hx => HF.out.wide hl4 x (List.mem_of_mem_take hx)) hok (kp_lit _) (HF.out.nodup' hend)
        rw [List.length_take, Nat.min_eq_left hi] at this
        rw [e, List.take_add_one, List.getElem?_eq_getElem hend]
        exact this)
      have hkey := key43 l[i] hok
      generalize l[i] = m at *
      obtain ⟨x, y⟩ := m
      simp only at k1 k2 hkey
      have hB1 := hB.alloc hB.size (.cells #[.int .i64 x, .int .i64 y] 62)
      have hown1 := map_keep hown ((below_alloc wr (.cells #[.int .i64 x, .int .i64 y] 62)).block w.heap.size (by obtain ⟨es, c, h, _⟩ := hown; exact (Array.getElem?_eq_some_iff.1 h).1))
      clear c1 c2 HM
      go_wp2_with (at_mapUpdate; refine wpList_mapUpdate_own _ rfl _ _ _ 49 rfl 62 3 law43 Try.underlying49 _ w.heap.size i D rfl hown1 (by unfold maxLen; omega) _ _ _ rfl rfl hkey _ [] (plainElem_int Try.underlying3 (WalkArith.wf_i64 (by omega))) ?_; intro w4 hown4 hgrow4; have hB4 := hB1.grown hgrow4 hB1.size (by intro k hk; cases hk; omega))
      go_roundw
      case rel => exact ⟨i + 1, _, by go_num, by omega, hown4, HT.out _ rfl, hB4⟩
      case measure => simp [intOf]; omega
    · have e : i = l.length := by omega
      have HP : Hid (RM l [] D) := RM.of (by have := HM.out; rwa [List.take_of_length_le (by omega)] at this)
      clear HM e
      go_wp2_with (fail)
      go_loopw [26] (fun y wz => ∃ (j : Nat) (D : DataW Unit), y = .int .i64 j ∧ j ≤ d.length ∧ wz.ownsMap Try.prog 62 (plainElem (H := Unit) Try.prog 3) w.heap.size i D ∧ Hid (RM l (d.take j) D) ∧ Below w.heap.size w wz) (fun y _ => d.length - (intOf y).toNat)
      case atStart => exact ⟨0, D, rfl, by omega, hown, by rw [List.take_zero]; exact HP, hB⟩
      case round =>
        clear hown HP hB
        obtain ⟨j, D, rfl, hj, hown, HP, hB⟩ := hrel
        by_cases hend2 : j < d.length
        · obtain ⟨b, off, rfl, hb, hc⟩ := HRD.out.lie j hend2
          have k0 := (hB.cell (p := ⟨b, off + j, none⟩) hb).trans hc
          have hin := numB_all d 0 (by omega) HD.out d[j] (List.getElem_mem hend2)
          obtain ⟨x, hx⟩ : ∃ x : Nat, d[j] = (x : Int) := ⟨d[j].toNat, by omega⟩
          have hxl : x < l.length := by omega
          obtain ⟨g, off', rfl, hlt, c1, c2⟩ := HC.out x hxl
          have k1 := (hB.cell (p := ⟨g, off' + x * 2, none⟩) hlt).trans c1
          have k2 := (hB.cell (p := ⟨g, off' + x * 2 + 1, none⟩) hlt).trans c2
          have hok := HF.out.wide hl4 l[x] (List.getElem_mem hxl)
          have HT := (show Hid (RM l (d.take (j + 1)) (D.del (kp l[x]))) from by
            show RM _ _ _
            have := HP.out.del HF.out (HF.out.wide hl4) (x := x) (s0 := l[x]) (List.getElem?_eq_getElem hxl)
            rw [List.take_add_one, List.getElem?_eq_getElem hend2, hx]
            exact this)
          have hkey := key43 l[x] hok
          rw [hx] at k0
          generalize l[x] = m at *
          obtain ⟨s1, s2⟩ := m
          simp only at k1 k2 hkey
          clear hc c1 c2 hin hx HP
          go_wp2_with (at_delete; refine wpList_delete_own _ rfl _ _ 49 62 rfl 3 law43 Try.underlying49 _ w.heap.size i D rfl hown _ _ rfl hkey ?_; intro w4 hown4 hturn4)
          have hB4 : Below w.heap.size w w4 := hB.grown (World.mapTurned.grown hturn4) hB.size (by intro k hk; cases hk; omega)
          go_roundw
          case rel => exact ⟨j + 1, _, by go_num, by omega, hown4, HT.out, hB4⟩
          case measure => simp [intOf]; omega
        · have HE : Hid (RMap wr w.heap.size (keptL l d)) := RMap.of HF.out hown (by have := HP.out; rwa [List.take_of_length_le (by omega)] at this)
          clear HP hown
          go_wp2_with (fail)
          go_ret
          exact ⟨_, rfl, Nat.le_refl _, HE.out, hB⟩
end Go.Proofs.Ythcekfmodmnekaa.hp
