/-
  Contracts over this program: the rank of each pair (byPair), in a map whose keys are pairs.
-/
import Derived.Test.YthcekfmodmnekaaMh
namespace Go.Proofs.Ythcekfmodmnekaa.mg
open Go.ChangeShapes Go.WideShapes Go.ChangeAt Go.RowKit Go.Shelf Go.Maps
set_option linter.unusedVariables false
set_option maxRecDepth 100000

/-- what a map of numbers holds -/
structure MapN {κ : Type} (key : κ → Lit) (Ok : κ → Prop) (l : List κ) (D : DataW Unit) : Prop where
  has : ∀ k, Ok k → (Maps.has D (key k) = true ↔ k ∈ l)
  at' : ∀ (i : Nat) k, l[i]? = some k → D.atKey (key k) (.lit (.int .i64 0)) = .lit (.int .i64 (i : Int))
theorem mapN_nil {κ : Type} (key : κ → Lit) (Ok : κ → Prop) : MapN key Ok [] (.map []) := ⟨fun k _ => ⟨fun h => (by cases h), fun h => (by cases h)⟩, fun i k h => by simp at h⟩
theorem MapN.put {κ : Type} {key : κ → Lit} {Ok : κ → Prop} {l : List κ} {D : DataW Unit} (h : MapN key Ok l D) (hT : Tidy D) (inj : ∀ x y, Ok x → Ok y → key x = key y → x = y) (hl : ∀ x ∈ l, Ok x) {k : κ} (hk : Ok k) (hlit : WideAt.IsKeyLit (key k)) (hn : k ∉ l) : MapN key Ok (l ++ [k]) (D.put (key k) (.lit (.int .i64 (l.length : Int)))) := by
  refine ⟨fun x hx => ?_, fun i x hi => ?_⟩
  · by_cases e : x = k
    · subst e
      rw [has_put_same hT.isMap hlit]
      simp
    · rw [has_put_other (fun e2 => e (inj x k hx hk e2)), h.has x hx]
      simp [e]
  · by_cases h2 : i < l.length
    · rw [List.getElem?_append_left h2] at hi
      have hm := List.mem_of_getElem? hi
      rw [atKey_put_other (fun e2 => hn (by rw [← inj x k (hl x hm) hk e2]; exact hm))]
      exact h.at' i x hi
    · have h3 := (List.getElem?_eq_some_iff.1 hi).1
      have e : i = l.length := by simp at h3; omega
      subst e
      rw [List.getElem?_append_right (Nat.le_refl _)] at hi
      simp at hi
      subst hi
      rw [atKey_put_same hT.isMap hlit]

theorem laidOut : laidOutB Try.prog = true := by kernel_rfl
theorem wide43 : (match Try.prog.underlying 62 with | some (.array _ _) | some (.struct _) => true | _ => false) = true := by rw [Try.underlying62]
set_option maxRecDepth 100000 in
theorem law43 : Keyed Try.prog 62 := Keyed.of_law (deep_law_laid laidOut (m := 2) (by omega) (of_decide_eq_true (by kernel_rfl)) (by kernel_rfl) wide43)
def OkM (s : Mg) : Prop := I64 s.1 ∧ I64 s.2
def kp (s : Mg) : Lit := (DataW.agg (H := Unit) [.lit (.int .i64 s.1), .lit (.int .i64 s.2)]).asKey
set_option maxRecDepth 100000 in
theorem key43 (s : Mg) (h : OkM s) : keyOf Try.prog 62 (.agg #[.int .i64 s.1, .int .i64 s.2]) = some (kp s) := by
  have hf : (Value.agg #[.int .i64 s.1, .int .i64 s.2]).formed Try.prog 62 = true := by
    have : Try.prog.cellsOf 62 = 2 := by kernel_rfl
    simp [Value.formed, Try.underlying62, this]
  have hd : DataW.Trod (H := Unit) (fun _ => ()) Try.prog (default : World) 0 (fun _ => true) true 62 (.agg #[.int .i64 s.1, .int .i64 s.2]) (.agg [.lit (.int .i64 s.1), .lit (.int .i64 s.2)]) [] := by
    refine ⟨2, ?_⟩
    have c43 : Try.prog.cellsOf 62 = 2 := by kernel_rfl
    have c3 : Try.prog.cellsOf 3 = 1 := by kernel_rfl
    simp [Value.cells, DataW.trod, Try.underlying62, Try.underlying3, c43, c3, WalkArith.wf_i64 h.1, WalkArith.wf_i64 h.2]
  obtain ⟨h, _⟩ := keyOf_asKey (by kernel_rfl) wide43 hf hd
  exact h
theorem kp_inj (s r : Mg) (hs : OkM s) (hr : OkM r) (h : kp s = kp r) : s = r := by
  have h1 := key43 s hs
  have h2 := key43 r hr
  rw [h] at h1
  have := law43.inj h1 h2
  obtain ⟨a, b⟩ := s
  obtain ⟨c, d⟩ := r
  simp at this
  simp only [Prod.mk.injEq]
  exact this
theorem look57 {W : World} {m n : Nat} {D : DataW Unit} (hown : W.ownsMap Try.prog 62 (plainElem (H := Unit) Try.prog 3) m n D) (s : Mg) (hs : OkM s) :
    ∃ c : Int, (Instr.lookup 49 (.map (some m)) (.agg #[.int .i64 s.1, .int .i64 s.2]) true).run Try.prog W = .ok (.tuple #[.int .i64 c, .bool (Maps.has D (kp s))]) W ∧ D.atKey (kp s) (.lit (.int .i64 0)) = .lit (.int .i64 c) := by
  obtain ⟨v, ps, hrun, hv⟩ := hown.look_ok law43 Try.underlying49 (zero3 W) (plainElem_int Try.underlying3 (by decide)) (key43 s hs)
  obtain ⟨c, rfl, hc, hwc⟩ := plainElem_int_inv Try.underlying3 hv
  exact ⟨c, hrun, congrArg Prod.fst hc⟩
theorem make49 (n : Int) (w : World) : (Instr.makeMap 49 (some (.int .i64 n))).run Try.prog w = .ok (.map (some w.heap.size)) (w.alloc (.map #[] 0)) := by kernel_rfl
theorem kp_lit (s : Mg) : WideAt.IsKeyLit (kp s) := trivial

/-- merges that may be stand once, and are small -/
theorem Fine.wide {l : List Mg} {ts : List ByteArray} (h : Fine l ts) (hl : l.length ≤ 1024) : ∀ m ∈ l, OkM m := fun m hm => by
  obtain ⟨k, hk, e⟩ := List.mem_iff_getElem.1 hm
  have := h.rng k m (by rw [List.getElem?_eq_getElem hk, e])
  unfold InR at this
  unfold OkM I64
  omega
theorem Fine.nodup' {l : List Mg} {ts : List ByteArray} (h : Fine l ts) {i : Nat} (hi : i < l.length) : l[i] ∉ l.take i := fun hm => by
  obtain ⟨k, hk, e⟩ := List.mem_iff_getElem.1 hm
  rw [List.length_take] at hk
  rw [List.getElem_take] at e
  have := h.once (i := i) (j := k) (m := l[i]) (List.getElem?_eq_getElem hi) (by rw [List.getElem?_eq_getElem (by omega), e])
  omega
def PairMap (W : World) (mb : Nat) (l : List Mg) : Prop := ∃ D, W.ownsMap Try.prog 62 (plainElem (H := Unit) Try.prog 3) mb l.length D ∧ MapN kp OkM l D
theorem PairMap.obj {W : World} {mb : Nat} {l : List Mg} (h : PairMap W mb l) : ∃ es c, W.heap[mb]? = some (.map es c) := by
  obtain ⟨D, ⟨es, c, h, _⟩, _⟩ := h
  exact ⟨es, c, h⟩
theorem PairMap.lt {W : World} {mb : Nat} {l : List Mg} (h : PairMap W mb l) : mb < W.heap.size := by
  obtain ⟨es, c, h⟩ := h.obj
  exact (Array.getElem?_eq_some_iff.1 h).1
theorem PairMap.keep {W W' : World} {mb : Nat} {l : List Mg} (h : PairMap W mb l) (e : W'.heap[mb]? = W.heap[mb]?) : PairMap W' mb l := by
  obtain ⟨D, h1, h2⟩ := h
  exact ⟨D, map_keep h1 e, h2⟩
/-- what a pair is looked up as -/
theorem PairMap.look {W : World} {mb : Nat} {l : List Mg} (h : PairMap W mb l) (s : Mg) (hs : OkM s) : ∃ c : Int, (∀ n, (Instr.lookup 49 (.map (some mb)) (.agg #[.int .i64 s.1, .int .i64 s.2]) true).run Try.prog (W.drewN n) = .ok (.tuple #[.int .i64 c, .bool (decide (s ∈ l))]) (W.drewN n)) ∧ (s ∈ l → c = (l.idxOf s : Int)) := by
  obtain ⟨D, h1, h2⟩ := h
  have hlk := fun n => look57 (W := W.drewN n) (map_keep (W := W) (W' := W.drewN n) h1 rfl) s hs
  obtain ⟨c, _, hc⟩ := hlk 0
  have hd : Maps.has D (kp s) = decide (s ∈ l) := by
    by_cases hm : s ∈ l
    · rw [(h2.has s hs).2 hm, decide_eq_true hm]
    · rw [decide_eq_false hm]
      exact Bool.eq_false_iff.2 fun h => hm ((h2.has s hs).1 h)
  refine ⟨c, fun n => ?_, fun hm => ?_⟩
  · obtain ⟨c', e1, e2⟩ := hlk n
    rw [hc] at e2
    simp only [DataW.lit.injEq, Lit.int.injEq, true_and] at e2
    rw [e1, e2, hd]
  · have := h2.at' (l.idxOf s) s (by rw [List.getElem?_eq_getElem (List.idxOf_lt_length_of_mem hm), List.getElem_idxOf])
    rw [hc] at this
    simpa using this

set_option maxHeartbeats 2000000 in
set_option maxRecDepth 100000 in
theorem byPair_any (l : List Mg) (hl4 : l.length ≤ 1024) (ts : List ByteArray) (hF : Fine l ts) (v : Value) (w : World) (hv : Mgs w v l) : Calls Try.prog 65 #[v] w fun e w' => ∃ mb, e = .returned (.map (some mb)) ∧ w.heap.size ≤ mb ∧ PairMap w' mb l ∧ Below w.heap.size w w' := by
  obtain ⟨o, cap, rfl, hl, hm, hc⟩ := hv.form
  have HC := (show Hid _ from hc)
  have HF : Hid (Fine l ts) := hF
  have hmm := make49
  have hmade : (w.alloc (.map #[] 0)).ownsMap Try.prog 62 (plainElem (H := Unit) Try.prog 3) w.heap.size 0 (.map []) := World.ownsMap_made _ _ _ _
  have hB0 := below_alloc w (.map #[] 0)
  clear hv hc hF
  go_enter Try.func65, Try.ntmps65
  go_wp2
  clear hmm
  generalize w.alloc (.map #[] 0) = w2 at *
  go_loopw [11] (fun y wr => ∃ (i : Nat) (D : DataW Unit), y = .int .i64 i ∧ i ≤ l.length ∧ wr.ownsMap Try.prog 62 (plainElem (H := Unit) Try.prog 3) w.heap.size i D ∧ Hid (MapN kp OkM (l.take i) D) ∧ Below w.heap.size w wr) (fun y _ => l.length - (intOf y).toNat)
  case atStart => exact ⟨0, _, rfl, by omega, hmade, by rw [List.take_zero]; exact mapN_nil _ _, hB0⟩
  case round =>
    obtain ⟨i, D, rfl, hi, hown, HM, hB⟩ := hrel
    by_cases hend : i < l.length
    · obtain ⟨g, off, rfl, hlt, c1, c2⟩ := HC.out i hend
      have k1 := (hB.cell (p := ⟨g, off + i * 2, none⟩) hlt).trans c1
      have k2 := (hB.cell (p := ⟨g, off + i * 2 + 1, none⟩) hlt).trans c2
      have hok := HF.out.wide hl4 l[i] (List.getElem_mem hend)
      have HT := (show Hid (∀ D', D' = D.put (kp l[i]) (.lit (.int .i64 (i : Int))) → MapN kp OkM (l.take (i + 1)) D') from fun D' e => by
        have := HM.out.put (hown.tidy law43) kp_inj (fun x hx => HF.out.wide hl4 x (List.mem_of_mem_take hx)) hok (kp_lit _) (HF.out.nodup' hend)
        rw [List.length_take, Nat.min_eq_left hi] at this
        rw [e, List.take_add_one, List.getElem?_eq_getElem hend]
        exact this)
      have hkey := key43 l[i] hok
      generalize l[i] = m at *
      obtain ⟨x, y⟩ := m
      simp only at k1 k2 hkey
      have hB1 := hB.alloc hB.size (.cells #[.int .i64 x, .int .i64 y] 62)
      have hown1 := map_keep hown ((below_alloc wr (.cells #[.int .i64 x, .int .i64 y] 62)).block w.heap.size (by obtain ⟨es, c, h, _⟩ := hown; exact (Array.getElem?_eq_some_iff.1 h).1))
      clear c1 c2 HM
      go_wp2_with (at_mapUpdate; refine wpList_mapUpdate_own _ rfl _ _ _ 49 rfl 62 3 law43 Try.underlying49 _ w.heap.size i D rfl hown1 (by unfold maxLen; omega) _ _ _ rfl rfl hkey _ [] (plainElem_int Try.underlying3 (WalkArith.wf_i64 (by omega))) ?_; intro w4 hown4 hgrow4; have hB4 := hB1.grown hgrow4 hB1.size (by intro k hk; cases hk; omega))
      go_roundw
      case rel => exact ⟨i + 1, _, by go_num, by omega, hown4, HT.out _ rfl, hB4⟩
      case measure => simp [intOf]; omega
    · have e : i = l.length := by omega
      have HP : Hid (PairMap wr w.heap.size l) := ⟨D, by rw [← e]; exact hown, by have := HM.out; rwa [List.take_of_length_le (by omega)] at this⟩
      clear HM e hown
      go_wp2_with (fail)
      go_ret
      exact ⟨_, rfl, Nat.le_refl _, HP.out, hB⟩
end Go.Proofs.Ythcekfmodmnekaa.mg
