/-
  Texts put together: Plain: which numbers may be dropped, the merges that are left. Contracts over this program: heap.areNumbers, the document's Drop. Contracts over this program: the ranks of the merges that are left (heap.ranksOf). Contracts over this program: an engine is made (heap.New); what is refused (Engine.Tokens), what merging costs (heap.Cost).
-/
import Derived.Test.YtmmlibehihknbaaM02
import Derived.Maps.OwnSet
import Derived.Test.YtmmlibehihknbaaM01
namespace Go.Proofs.Ytmmlibehihknbaa.hp
open Go.ChangeShapes Go.WideShapes Go.ChangeAt Go.RowKit Go.Shelf Go.Maps
open mg
set_option linter.unusedVariables false
set_option maxRecDepth 100000

def numB (least : Int) (n : Nat) : List Int → Bool
  | [] => true
  | k :: t => if k < least ∨ (n : Int) ≤ k then false else numB (k + 1) n t
theorem numB_all {n : Nat} : ∀ (l : List Int) (m : Int), 0 ≤ m → numB m n l = true → ∀ k ∈ l, m ≤ k ∧ k < (n : Int) := by
  intro l
  induction l with
  | nil => intro m _ _ k hk; cases hk
  | cons a t ih =>
    intro m hm h k hk
    rw [numB] at h
    split at h
    · cases h
    · rename_i hn
      rcases List.mem_cons.1 hk with rfl | hk
      · omega
      · have := ih (a + 1) (by omega) h k hk
        omega
theorem numB_at {n : Nat} (l : List Int) (m : Int) (i : Nat) (hi : i < l.length) : numB m n (l.drop i) = if l[i] < m ∨ (n : Int) ≤ l[i] then false else numB (l[i] + 1) n (l.drop (i + 1)) := by
  rw [List.drop_eq_getElem_cons hi, numB]
/-- the merges that are left: those that are dropped have ids that nothing has -/
def keptL (l : List Mg) (d : List Int) : List Mg := l.mapIdx fun k m => if ((k : Nat) : Int) ∈ d then (-1, -1) else m
theorem kept_len (l : List Mg) (d : List Int) : (keptL l d).length = l.length := by simp [keptL]
theorem kept_at (l : List Mg) (d : List Int) (k : Nat) : (keptL l d)[k]? = (l[k]?).map fun m => if (k : Int) ∈ d then (-1, -1) else m := by simp [keptL]
theorem kept_nil (l : List Mg) : keptL l [] = l := List.ext_getElem? fun k => by rw [kept_at]; simp
theorem kept_mem {l : List Mg} {d : List Int} {s : Mg} (hs : 0 ≤ s.1) : s ∈ keptL l d ↔ ∃ k, l[k]? = some s ∧ ((k : Nat) : Int) ∉ d := by
  constructor
  · intro h
    obtain ⟨k, hk⟩ := List.getElem?_of_mem h
    rw [kept_at] at hk
    cases e : l[k]? with
    | none => rw [e] at hk; cases hk
    | some m =>
      rw [e] at hk
      simp only [Option.map_some, Option.some.injEq] at hk
      split at hk
      · rw [← hk] at hs; simp at hs
      · rename_i hn
        subst hk
        exact ⟨k, e, hn⟩
  · rintro ⟨k, hk, hn⟩
    refine List.mem_of_getElem? (i := k) ?_
    rw [kept_at, hk]
    simp [hn]
theorem kept_idx {l : List Mg} {ts : List ByteArray} (F : Fine l ts) {d : List Int} {s : Mg} (hs : 0 ≤ s.1) {k : Nat} (hk : l[k]? = some s) (hn : ((k : Nat) : Int) ∉ d) : (keptL l d).idxOf s = k := by
  have hm := (kept_mem hs).2 ⟨k, hk, hn⟩
  have h1 := List.idxOf_lt_length_of_mem hm
  have h2 : (keptL l d)[(keptL l d).idxOf s]? = some s := by rw [List.getElem?_eq_getElem h1, List.getElem_idxOf]
  rw [kept_at] at h2
  cases e : l[(keptL l d).idxOf s]? with
  | none => rw [e] at h2; cases h2
  | some m =>
    rw [e] at h2
    simp only [Option.map_some, Option.some.injEq] at h2
    split at h2
    · rw [← h2] at hs; simp at hs
    · subst h2
      exact F.once e hk
set_option maxHeartbeats 2000000 in
theorem areNums_any (l : List Int) (n : Nat) (hn : n ≤ 1024) (v : Value) (w : World) (h : IntsV w v l) : Calls Try.prog 88 #[v, iv n] w fun e w' => e = .returned (.bool (numB 0 n l)) ∧ Below w.heap.size w w' := by
  obtain ⟨o, cap, rfl, h1⟩ := h
  have f1 := h1.fit
  have f2 := h1.top
  have H1 : Hid (Row (In w) w iv o cap l) := h1
  clear h1
  go_enter Try.func88, Try.ntmps88
  go_wp2_with (fail)
  go_loopw [10, 5] (fun y z wr => ∃ (i : Nat) (m : Nat), y = .int .i64 i ∧ z = .int .i64 m ∧ i ≤ l.length ∧ m ≤ 1024 ∧ Hid (numB 0 n l = numB m n (l.drop i)) ∧ Below w.heap.size w wr) (fun y _ _ => l.length - (intOf y).toNat)
  case atStart => exact ⟨0, 0, rfl, rfl, by omega, by omega, by show _ = _; simp, Below.refl _ _⟩
  case round =>
    obtain ⟨i, m, rfl, rfl, hil, hm, HK, hB⟩ := hrel
    by_cases hend : i < l.length
    · obtain ⟨b, off, rfl, hb, hc⟩ := H1.out.lie i hend
      have k1 := (hB.cell (p := ⟨b, off + i, none⟩) hb).trans hc
      have HN : Hid (numB 0 n l = if l[i] < (m : Int) ∨ (n : Int) ≤ l[i] then false else numB (l[i] + 1) n (l.drop (i + 1))) := by show _ = _; rw [HK.out, numB_at l _ i hend]
      generalize l[i] = x at *
      clear hc HK
      by_cases h1 : x < (m : Int)
      · have HE : Hid (numB 0 n l = false) := by show _ = _; rw [HN.out, if_pos (.inl h1)]
        have d1 : decide (x < (m : Int)) = true := decide_eq_true h1
        clear h1 HN
        go_wp2_with (fail)
        go_ret
        exact ⟨by rw [HE.out]; rfl, hB⟩
      · by_cases h2 : (n : Int) ≤ x
        · have HE : Hid (numB 0 n l = false) := by show _ = _; rw [HN.out, if_pos (.inr h2)]
          have d1 : decide (x < (m : Int)) = false := decide_eq_false h1
          have d2 : decide ((n : Int) ≤ x) = true := decide_eq_true h2
          clear h1 h2 HN
          go_wp2_with (fail)
          go_ret
          exact ⟨by rw [HE.out]; rfl, hB⟩
        · obtain ⟨k, rfl⟩ : ∃ k : Nat, x = (k : Int) := ⟨x.toNat, by omega⟩
          have HE : Hid (numB 0 n l = numB (((k + 1 : Nat) : Int)) n (l.drop (i + 1))) := by show _ = _; rw [HN.out, if_neg (by omega)]; rfl
          have h1' : ¬ k < m := by omega
          have h2' : ¬ n ≤ k := by omega
          clear h1 h2 HN
          go_wp2_with (fail)
          go_roundw
          case rel => exact ⟨i + 1, k + 1, by go_num, by go_num, by omega, by omega, HE.out, hB⟩
          case measure => simp [intOf]; omega
    · have HE : Hid (numB 0 n l = true) := by show _ = _; rw [HK.out, List.drop_of_length_le (by omega)]; rfl
      clear HK
      go_wp2_with (fail)
      go_ret
      exact ⟨by rw [HE.out]; rfl, hB⟩
end Go.Proofs.Ytmmlibehihknbaa.hp

namespace Go.Proofs.Ytmmlibehihknbaa.hp
open Go.ChangeShapes Go.WideShapes Go.ChangeAt Go.RowKit Go.Shelf Go.Maps
open mg
set_option linter.unusedVariables false
set_option maxRecDepth 100000

/-- what a map of ranks holds when those of d are gone -/
structure RM (l : List Mg) (d : List Int) (D : DataW Unit) : Prop where
  has : ∀ s, OkM s → (Maps.has D (kp s) = true ↔ ∃ k, l[k]? = some s ∧ ((k : Nat) : Int) ∉ d)
  at' : ∀ (k : Nat) s, l[k]? = some s → (k : Int) ∉ d → D.atKey (kp s) (.lit (.int .i64 0)) = .lit (.int .i64 (k : Int))
theorem RM.of {l : List Mg} {D : DataW Unit} (h : MapN kp OkM l D) : RM l [] D :=
  ⟨fun s hs => by rw [h.has s hs]; exact ⟨fun hm => by obtain ⟨k, hk⟩ := List.getElem?_of_mem hm; exact ⟨k, hk, by simp⟩, fun ⟨k, hk, _⟩ => List.mem_of_getElem? hk⟩, fun k s hk _ => h.at' k s hk⟩
theorem RM.del {l : List Mg} {ts : List ByteArray} (F : Fine l ts) (hw : ∀ m ∈ l, OkM m) {d : List Int} {D : DataW Unit} (h : RM l d D) {x : Nat} {s0 : Mg} (hx : l[x]? = some s0) : RM l (d ++ [(x : Int)]) (D.del (kp s0)) := by
  have hok := hw s0 (List.mem_of_getElem? hx)
  refine ⟨fun s hs => ?_, fun k s hk hn => ?_⟩
  · by_cases e : s = s0
    · subst e
      rw [has_del_same]
      constructor
      · intro h; cases h
      · rintro ⟨k, hk, hn⟩
        have := F.once hk hx
        subst this
        exact absurd (List.mem_append_right d (List.mem_singleton.2 rfl)) hn
    · rw [has_del_other (fun e2 => e (kp_inj s s0 hs hok e2)), h.has s hs]
      constructor
      · rintro ⟨k, hk, hn⟩
        refine ⟨k, hk, fun hm => ?_⟩
        rcases List.mem_append.1 hm with h1 | h1
        · exact hn h1
        · have : k = x := by have := List.mem_singleton.1 h1; omega
          subst this
          rw [hk] at hx
          exact e (Option.some.inj hx)
      · rintro ⟨k, hk, hn⟩
        exact ⟨k, hk, fun hm => hn (List.mem_append_left _ hm)⟩
  · have hkx : k ≠ x := fun e => hn (by rw [e]; simp)
    have e : s ≠ s0 := fun e => hkx (F.once hk (by rw [e]; exact hx))
    rw [atKey_del_other (fun e2 => e (kp_inj s s0 (hw s (List.mem_of_getElem? hk)) hok e2))]
    exact h.at' k s hk (fun hm => hn (List.mem_append_left _ hm))

/-- the ranks of merges in memory -/
def RMap (W : World) (mb : Nat) (K : List Mg) : Prop := ∃ D n, W.ownsMap Try.prog 70 (plainElem (H := Unit) Try.prog 3) mb n D ∧ (∀ s, OkM s → 0 ≤ s.1 → (Maps.has D (kp s) = true ↔ s ∈ K)) ∧ (∀ s, OkM s → 0 ≤ s.1 → s ∈ K → D.atKey (kp s) (.lit (.int .i64 0)) = .lit (.int .i64 (K.idxOf s : Int)))
theorem RMap.of {W : World} {mb n : Nat} {l : List Mg} {ts : List ByteArray} (F : Fine l ts) {d : List Int} {D : DataW Unit} (ho : W.ownsMap Try.prog 70 (plainElem (H := Unit) Try.prog 3) mb n D) (h : RM l d D) : RMap W mb (keptL l d) :=
  ⟨D, n, ho, fun s hs h0 => by rw [h.has s hs, kept_mem h0], fun s hs h0 hm => by
    obtain ⟨k, hk, hn⟩ := (kept_mem h0).1 hm
    rw [kept_idx F h0 hk hn]
    exact h.at' k s hk hn⟩
theorem RMap.obj {W : World} {mb : Nat} {K : List Mg} (h : RMap W mb K) : ∃ es c, W.heap[mb]? = some (.map es c) := by
  obtain ⟨D, n, ⟨es, c, h, _⟩, _⟩ := h
  exact ⟨es, c, h⟩
theorem RMap.lt {W : World} {mb : Nat} {K : List Mg} (h : RMap W mb K) : mb < W.heap.size := by
  obtain ⟨es, c, h⟩ := h.obj
  exact (Array.getElem?_eq_some_iff.1 h).1
theorem RMap.keep {W W' : World} {mb : Nat} {K : List Mg} (h : RMap W mb K) (e : W'.heap[mb]? = W.heap[mb]?) : RMap W' mb K := by
  obtain ⟨D, n, h1, h2⟩ := h
  exact ⟨D, n, map_keep h1 e, h2⟩
theorem RMap.look {W : World} {mb : Nat} {K : List Mg} (h : RMap W mb K) (s : Mg) (hs : OkM s) (h0 : 0 ≤ s.1) : ∃ c : Int, (∀ n, (Instr.lookup 140 (.map (some mb)) (.agg #[.int .i64 s.1, .int .i64 s.2]) true).run Try.prog (W.drewN n) = .ok (.tuple #[.int .i64 c, .bool (decide (s ∈ K))]) (W.drewN n)) ∧ (s ∈ K → c = (K.idxOf s : Int)) := by
  obtain ⟨D, n0, h1, h2, h3⟩ := h
  have hlk := fun n => look147 (W := W.drewN n) (map_keep (W := W) (W' := W.drewN n) h1 rfl) s hs
  obtain ⟨c, _, hc⟩ := hlk 0
  have hd : Maps.has D (kp s) = decide (s ∈ K) := by
    by_cases hm : s ∈ K
    · rw [(h2 s hs h0).2 hm, decide_eq_true hm]
    · rw [decide_eq_false hm]
      exact Bool.eq_false_iff.2 fun h => hm ((h2 s hs h0).1 h)
  refine ⟨c, fun n => ?_, fun hm => ?_⟩
  · obtain ⟨c', e1, e2⟩ := hlk n
    rw [hc] at e2
    simp only [DataW.lit.injEq, Lit.int.injEq, true_and] at e2
    rw [e1, e2, hd]
  · have := h3 s hs h0 hm
    rw [hc] at this
    simpa using this

set_option maxHeartbeats 2000000 in
theorem ranks_any (l : List Mg) (hl4 : l.length ≤ 1024) (ts : List ByteArray) (hF : Fine l ts) (d : List Int) (hd : numB 0 l.length d = true) (v vd : Value) (w : World) (hv : Mgs w v l) (hvd : IntsV w vd d) : Calls Try.prog 89 #[v, vd] w fun e w' => ∃ mb, e = .returned (.map (some mb)) ∧ w.heap.size ≤ mb ∧ RMap w' mb (keptL l d) ∧ Below w.heap.size w w' := by
  obtain ⟨o, cap, rfl, hl, hm, hc⟩ := hv.form
  obtain ⟨od, capd, rfl, hrd⟩ := hvd
  have g1 := hrd.fit
  have g2 := hrd.top
  have HC := (show Hid _ from hc)
  have HF : Hid (Fine l ts) := hF
  have HRD : Hid (Row (In w) w iv od capd d) := hrd
  have HD : Hid (numB 0 l.length d = true) := hd
  have hmm := make140
  have hmade : (w.alloc (.map #[] 0)).ownsMap Try.prog 70 (plainElem (H := Unit) Try.prog 3) w.heap.size 0 (.map []) := World.ownsMap_made _ _ _ _
  have hB0 := below_alloc w (.map #[] 0)
  clear hv hc hF hrd hd
  go_enter Try.func89, Try.ntmps89
  go_wp2
  clear hmm
  generalize w.alloc (.map #[] 0) = w2 at *
  go_loopw [15] (fun y wr => ∃ (i : Nat) (D : DataW Unit), y = .int .i64 i ∧ i ≤ l.length ∧ wr.ownsMap Try.prog 70 (plainElem (H := Unit) Try.prog 3) w.heap.size i D ∧ Hid (MapN kp OkM (l.take i) D) ∧ Below w.heap.size w wr) (fun y _ => l.length - (intOf y).toNat)
  case atStart => exact ⟨0, _, rfl, by omega, hmade, by rw [List.take_zero]; exact mapN_nil _ _, hB0⟩
  case round =>
    clear hmade hB0
    obtain ⟨i, D, rfl, hi, hown, HM, hB⟩ := hrel
    by_cases hend : i < l.length
    · obtain ⟨g, off, rfl, hlt, c1, c2⟩ := HC.out i hend
      have k1 := (hB.cell (p := ⟨g, off + i * 2, none⟩) hlt).trans c1
      have k2 := (hB.cell (p := ⟨g, off + i * 2 + 1, none⟩) hlt).trans c2
      have hok := HF.out.wide hl4 l[i] (List.getElem_mem hend)
      have HT := (show Hid (∀ D', D' = D.put (kp l[i]) (.lit (.int .i64 (i : Int))) → MapN kp OkM (l.take (i + 1)) D') from fun D' e => by
        have := HM.out.put (hown.tidy law43) kp_inj (fun x hx => HF.out.wide hl4 x (List.mem_of_mem_take hx)) hok (kp_lit _) (HF.out.nodup' hend)
        rw [List.length_take, Nat.min_eq_left hi] at this
        rw [e, List.take_add_one, List.getElem?_eq_getElem hend]
        exact this)
      have hkey := key43 l[i] hok
      generalize l[i] = m at *
      obtain ⟨x, y⟩ := m
      simp only at k1 k2 hkey
      have hB1 := hB.alloc hB.size (.cells #[.int .i64 x, .int .i64 y] 70)
      have hown1 := map_keep hown ((below_alloc wr (.cells #[.int .i64 x, .int .i64 y] 70)).block w.heap.size (by obtain ⟨es, c, h, _⟩ := hown; exact (Array.getElem?_eq_some_iff.1 h).1))
      clear c1 c2 HM
      go_wp2_with (at_mapUpdate; refine wpList_mapUpdate_own _ rfl _ _ _ 140 rfl 70 3 law43 Try.underlying140 _ w.heap.size i D rfl hown1 (by unfold maxLen; omega) _ _ _ rfl rfl hkey _ [] (plainElem_int Try.underlying3 (WalkArith.wf_i64 (by omega))) ?_; intro w4 hown4 hgrow4; have hB4 := hB1.grown hgrow4 hB1.size (by intro k hk; cases hk; omega))
      go_roundw
      case rel => exact ⟨i + 1, _, by go_num, by omega, hown4, HT.out _ rfl, hB4⟩
      case measure => simp [intOf]; omega
    · have e : i = l.length := by omega
      have HP : Hid (RM l [] D) := RM.of (by have := HM.out; rwa [List.take_of_length_le (by omega)] at this)
      clear HM e
      go_wp2_with (fail)
      go_loopw [26] (fun y wz => ∃ (j : Nat) (D : DataW Unit), y = .int .i64 j ∧ j ≤ d.length ∧ wz.ownsMap Try.prog 70 (plainElem (H := Unit) Try.prog 3) w.heap.size i D ∧ Hid (RM l (d.take j) D) ∧ Below w.heap.size w wz) (fun y _ => d.length - (intOf y).toNat)
      case atStart => exact ⟨0, D, rfl, by omega, hown, by rw [List.take_zero]; exact HP, hB⟩
      case round =>
        clear hown HP hB
        obtain ⟨j, D, rfl, hj, hown, HP, hB⟩ := hrel
        by_cases hend2 : j < d.length
        · obtain ⟨b, off, rfl, hb, hc⟩ := HRD.out.lie j hend2
          have k0 := (hB.cell (p := ⟨b, off + j, none⟩) hb).trans hc
          have hin := numB_all d 0 (by omega) HD.out d[j] (List.getElem_mem hend2)
          obtain ⟨x, hx⟩ : ∃ x : Nat, d[j] = (x : Int) := ⟨d[j].toNat, by omega⟩
          have hxl : x < l.length := by omega
          obtain ⟨g, off', rfl, hlt, c1, c2⟩ := HC.out x hxl
          have k1 := (hB.cell (p := ⟨g, off' + x * 2, none⟩) hlt).trans c1
          have k2 := (hB.cell (p := ⟨g, off' + x * 2 + 1, none⟩) hlt).trans c2
          have hok := HF.out.wide hl4 l[x] (List.getElem_mem hxl)
          have HT := (show Hid (RM l (d.take (j + 1)) (D.del (kp l[x]))) from by
            show RM _ _ _
            have := HP.out.del HF.out (HF.out.wide hl4) (x := x) (s0 := l[x]) (List.getElem?_eq_getElem hxl)
            rw [List.take_add_one, List.getElem?_eq_getElem hend2, hx]
            exact this)
          have hkey := key43 l[x] hok
          rw [hx] at k0
          generalize l[x] = m at *
          obtain ⟨s1, s2⟩ := m
          simp only at k1 k2 hkey
          clear hc c1 c2 hin hx HP
          go_wp2_with (at_delete; refine wpList_delete_own _ rfl _ _ 140 70 rfl 3 law43 Try.underlying140 _ w.heap.size i D rfl hown _ _ rfl hkey ?_; intro w4 hown4 hturn4)
          have hB4 : Below w.heap.size w w4 := hB.grown (World.mapTurned.grown hturn4) hB.size (by intro k hk; cases hk; omega)
          go_roundw
          case rel => exact ⟨j + 1, _, by go_num, by omega, hown4, HT.out, hB4⟩
          case measure => simp [intOf]; omega
        · have HE : Hid (RMap wr w.heap.size (keptL l d)) := RMap.of HF.out hown (by have := HP.out; rwa [List.take_of_length_le (by omega)] at this)
          clear HP hown
          go_wp2_with (fail)
          go_ret
          exact ⟨_, rfl, Nat.le_refl _, HE.out, hB⟩
end Go.Proofs.Ytmmlibehihknbaa.hp

namespace Go.Proofs.Ytmmlibehihknbaa.hp
open Go.ChangeShapes Go.WideShapes Go.ChangeAt Go.RowKit Go.Shelf Go.Maps
open mg
set_option linter.unusedVariables false
set_option maxRecDepth 100000

/-- what an engine's cells hold: a lock that is free -/
abbrev ecells (mb : Nat) (sp : Value) : Array Value := #[.map (some mb), .int .i32 0, .int .u32 0, sp]
def newE (l : List Mg) (d : List Int) : Nat := if errOf l ≠ 0 then errOf l else if numB 0 l.length d = true then 0 else 1
def NewOut (l : List Mg) (d : List Int) (w : World) (e : Ending) (w' : World) : Prop :=
  ∃ v, e = .returned (.tuple #[v, .int .i64 (newE l d : Int)]) ∧ Below w.heap.size w w' ∧ ((newE l d ≠ 0 ∧ v = .pointer none) ∨ (newE l d = 0 ∧ ∃ eb mb, v = .pointer (some ⟨eb, 0, none⟩) ∧ w'.heap[eb]? = some (.cells (ecells mb (.pointer none)) 150 (0, 0)) ∧ RMap w' mb (keptL l d) ∧ w.heap.size ≤ eb ∧ w.heap.size ≤ mb))
theorem NewOut.bad {l : List Mg} {d : List Int} {w w' : World} (x : Nat) (hx : newE l d = x) (h0 : x ≠ 0) (hb : Below w.heap.size w w') : NewOut l d w (.returned (.tuple #[.pointer none, .int .i64 (x : Int)])) w' :=
  ⟨_, by rw [hx], hb, .inl ⟨by rw [hx]; exact h0, rfl⟩⟩
set_option maxHeartbeats 2000000 in
theorem new_any (l : List Mg) (d : List Int) (v vd : Value) (w : World) (hv : Mgs w v l) (hvd : IntsV w vd d) : Calls Try.prog 85 #[v, vd] w (NewOut l d w) := by
  have c21 := right_any l v w hv
  have HM : Hid (∀ W, Below w.heap.size w W → Mgs W v l) := fun W b => hv.later b
  have HD : Hid (∀ W, Below w.heap.size w W → IntsV W vd d) := fun W b => hvd.later b
  obtain ⟨o, cap, rfl, g1, g2, -⟩ := hv.form
  obtain ⟨od, capd, rfl, hrd⟩ := id hvd
  have g3 := hrd.fit
  have g4 := hrd.top
  clear hv hvd hrd
  rcases errOf_cases l with h | h | h
  · have HE : Hid (newE l d = 2) := by show _ = _; unfold newE; rw [if_pos (by rw [h]; simp), h]
    rw [h] at c21
    clear h
    go_enter Try.func85, Try.ntmps85
    go_wp2_with (go_at_call 87; refine c21.mono ?_; rintro e w1 ⟨rfl, b1⟩)
    go_ret2
    exact NewOut.bad 2 HE.out (by omega) b1
  · have HE : Hid (newE l d = 130) := by show _ = _; unfold newE; rw [if_pos (by rw [h]; simp), h]
    rw [h] at c21
    clear h
    go_enter Try.func85, Try.ntmps85
    go_wp2_with (go_at_call 87; refine c21.mono ?_; rintro e w1 ⟨rfl, b1⟩)
    go_ret2
    exact NewOut.bad 130 HE.out (by omega) b1
  · have hl4 : l.length ≤ 1024 := (ok_run h).1
    have HF : Hid (Fine l (textsOf l)) := fine h
    rw [h] at c21
    cases hn : numB 0 l.length d with
    | false =>
      have HE : Hid (newE l d = 1) := by show _ = _; unfold newE; rw [if_neg (by rw [h]; simp), if_neg (by rw [hn]; simp)]
      have c22 : ∀ W, Below w.heap.size w W → Calls Try.prog 88 #[.slice od d.length capd, iv l.length] W fun e w' => e = .returned (.bool false) ∧ Below W.heap.size W w' := fun W b => hn ▸ areNums_any d l.length hl4 _ W (HD.out W b)
      have C22 := (show Hid _ from c22)
      clear h hn c22
      go_enter Try.func85, Try.ntmps85
      go_wp2_with (first | (go_at_call 87; refine c21.mono ?_; rintro e w1 ⟨rfl, b1⟩) | (go_at_call 88; refine (C22.out _ b1).mono ?_; rintro e w2 ⟨rfl, b2⟩))
      go_ret2
      exact NewOut.bad 1 HE.out (by omega) (chain b1 b2)
    | true =>
      have HE : Hid (newE l d = 0) := by show _ = _; unfold newE; rw [if_neg (by rw [h]; simp), if_pos hn]
      have c22 : ∀ W, Below w.heap.size w W → Calls Try.prog 88 #[.slice od d.length capd, iv l.length] W fun e w' => e = .returned (.bool true) ∧ Below W.heap.size W w' := fun W b => hn ▸ areNums_any d l.length hl4 _ W (HD.out W b)
      have C22 := (show Hid _ from c22)
      have C23 := (show Hid (∀ W, Below w.heap.size w W → _) from fun W b => ranks_any l hl4 _ HF.out d hn _ _ W (HM.out W b) (HD.out W b))
      clear h hn c22
      go_enter Try.func85, Try.ntmps85
      go_wp2_with (first | (go_at_call 87; refine c21.mono ?_; rintro e w1 ⟨rfl, b1⟩) | (go_at_call 88; refine (C22.out _ b1).mono ?_; rintro e w2 ⟨rfl, b2⟩) | (go_at_call 89; refine (C23.out _ (chain b1 b2)).mono ?_; rintro e w3 ⟨mb, rfl, m1, m2, b3⟩))
      have b4 := below_alloc w3 (.cells #[.map (some mb), .int .i32 0, .int .u32 0, .pointer none] 150)
      go_ret2
      have b12 := chain b1 b2
      have b13 := chain b12 b3
      exact ⟨_, by rw [HE.out]; rfl, chain b13 b4, .inr ⟨HE.out, w3.heap.size, mb, rfl, World.alloc_heap_new w3 _, m2.keep (b4.block mb m2.lt), b13.size, Nat.le_trans b12.size m1⟩⟩
theorem tokens_nil (s : ByteArray) (w : World) : Calls Try.prog 86 #[.pointer none, .string s] w fun e w' => e = .returned (.tuple #[.slice none 0 0, .int .i64 1]) ∧ w' = w := by
  go_enter_defers Try.func86, Try.ntmps86
  go_wp2_with (fail)
  exact ⟨_, results_tmp2 rfl _ _ _, rfl, rfl⟩
theorem tokens_long (s : ByteArray) (hs : 262144 < s.size) (a : Addr) (w : World) : Calls Try.prog 86 #[.pointer (some a), .string s] w fun e w' => e = .returned (.tuple #[.slice none 0 0, .int .i64 2]) ∧ w' = w := by
  go_enter_defers Try.func86, Try.ntmps86
  go_wp2_with (fail)
  exact ⟨_, results_tmp2 rfl _ _ _, rfl, rfl⟩
def costOf (n : Int) : Int := if n < 0 ∨ 262144 < n then 0 else 1 + 4 * n
end Go.Proofs.Ytmmlibehihknbaa.hp
