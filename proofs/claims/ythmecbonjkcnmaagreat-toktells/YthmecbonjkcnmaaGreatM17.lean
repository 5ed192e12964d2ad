/-
  Texts put together: Lists of merges and of ids that came in as arguments. The library's Clone and Delete of ints, laid at this program; what they leave of an own row. Contracts over this program: the rank of each pair (byPair), in a map whose keys are pairs. Contracts over this program: ids that are being merged, in memory (merge.row): look, least. Contracts over this program: one id of a pair (row.join). Over this program: a region that draws its order, walked by hand. Contracts over this program: a row that is begun (newRow). Contracts over this program: ids merged (merged), merge.Apply.
-/
import Derived.Test.YthmecbonjkcnmaaGreatM16
import Derived.Laws.IdiomArrays
import Derived.Deep.Slices
import Derived.Deep.SlicePairs
import Derived.SizedLaws
import Derived.ChangeOld
import Derived.Below
import Derived.OpenShut
import Derived.Shelf.Slices.Clone
import Derived.Shelf.Slices.Delete
import Derived.OrdersHeld
namespace Go.Proofs.YthmecbonjkcnmaaGreat.mg
open Go.ChangeShapes Go.WideShapes Go.ChangeAt Go.RowKit
set_option linter.unusedVariables false
set_option maxRecDepth 100000

section
variable {H : Type} {enc : TypeId × Value → H} {W : World}
theorem row_of {sp : Nat → Bool} {held : Bool} {α : Type} [Inhabited α] (g : α → Value) {t e : TypeId} (ht : Tryz.prog.underlying t = some (.slice e)) (hc : Tryz.prog.cellsOf e = 1)
    (dec : ∀ n V y, DataW.trod enc Tryz.prog W 0 sp held n e [V] = some y → ∃ x, V = g x) {fuel : Nat} {cs : List Value} {x : DataW H × List MemPlace} (h : DataW.trod enc Tryz.prog W 0 sp held fuel t cs = some x) :
    ∃ (o : Option Addr) (cap : Nat) (l : List α), cs = [.slice o l.length cap] ∧ Row (In W) W g o cap l := by
  rcases Deep.open_slice1 ht hc h with ⟨rfl, _⟩ | ⟨a, len, cap, m, n, V, D, Pl, rfl, hb, hl, hm, hmm, _, hV⟩
  · exact ⟨none, 0, [], rfl, Nat.le_refl _, by omega, fun i hi => by simp at hi⟩
  · have hlm : len ≤ m := by rw [hmm]; split <;> omega
    obtain ⟨f, hf⟩ := Deep.choose_lt (α := α) (p := fun i x => V i = g x) (fun i (hi : i < len) => dec n (V i) _ (hV i (by omega)).2)
    have hln : ((List.range len).map f).length = len := by simp
    unfold maxLen at hm
    refine ⟨some a, cap, (List.range len).map f, by rw [hln], by rw [hln]; exact hl, hm, fun i hi => ?_⟩
    rw [hln] at hi
    obtain ⟨b, off, spot⟩ := a
    have h1 := (hV i (by omega)).1
    have hspot : spot = none := by simpa [Addr.add] using World.cell?_spot (hV 0 (by omega)).1
    subst hspot
    have hadd : (⟨b, off, none⟩ : Addr).add i = ⟨b, off + i, none⟩ := by simp [Addr.add]
    rw [hadd] at h1
    refine ⟨b, off, rfl, block_lt_of_cell h1, ?_⟩
    rw [h1, hf i hi]
    simp
theorem open32 {base : Nat} {v : Value} {d : DataW H} {p : List MemPlace} (hok : Value.okWide Tryz.prog W .any base 32 v) (h0 : DataW.Trod enc Tryz.prog W 0 (fun _ => true) true 32 v d p) : ∃ l, IntsV W v l := by
  obtain ⟨a, len, cap, rfl⟩ := okWide_slice Tryz.underlying32 hok
  obtain ⟨fuel, hf⟩ := h0
  obtain ⟨o, c, l, e, h⟩ := row_of iv Tryz.underlying32 (by kernel_rfl) (fun n V y h => by
    obtain ⟨z, e, _, _⟩ := DataW.trod_int Tryz.underlying3 h
    simp at e
    exact ⟨z, e⟩) hf
  simp [Value.cells] at e
  obtain ⟨rfl, rfl, rfl⟩ := e
  exact ⟨l, _, _, rfl, h⟩
theorem open30 {base : Nat} {v : Value} {d : DataW H} {p : List MemPlace} (hok : Value.okWide Tryz.prog W .any base 30 v) (h0 : DataW.Trod enc Tryz.prog W 0 (fun _ => true) true 30 v d p) : ∃ l, Mgs W v l := by
  obtain ⟨a, len, cap, rfl⟩ := okWide_slice Tryz.underlying30 hok
  obtain ⟨fuel, hf⟩ := h0
  rcases Deep.open_slice_pairs Tryz.underlying30 Tryz.underlying97 (by kernel_rfl) rfl rfl (by kernel_rfl) (by kernel_rfl) hf with ⟨hcs, _⟩ | ⟨x, l, c, m, n, V0, V1, D0, D1, P0, P1, hcs, _, hl, hm, hmm, hx, hall⟩
  · simp [Value.cells] at hcs
    obtain ⟨rfl, rfl, rfl⟩ := hcs
    exact ⟨[], ⟨_, _, rfl, Nat.le_refl _, by omega, fun i h => by simp at h⟩⟩
  · simp [Value.cells] at hcs
    obtain ⟨rfl, rfl, rfl⟩ := hcs
    simp only [Prod.mk.injEq] at hx
    obtain ⟨rfl, _⟩ := hx
    have hlm : len ≤ m := by rw [hmm]; simp; omega
    have each : ∀ i, i < len → ∃ y : Mg, W.cell? (x.add (i * 2)) = some (iv y.1) ∧ W.cell? (x.add (i * 2 + 1)) = some (iv y.2) := by
      intro i hi
      obtain ⟨c0, c1, t0, t1⟩ := hall i (by omega)
      obtain ⟨s0, e0, y0, ws0⟩ := DataW.trod_int Tryz.underlying3 t0
      obtain ⟨s1, e1, y1, ws1⟩ := DataW.trod_int Tryz.underlying3 t1
      simp at e0 e1
      exact ⟨(s0, s1), by rw [c0, e0], by rw [c1, e1]⟩
    obtain ⟨f, hfam⟩ := Deep.choose_lt each
    have hlen : ((List.range len).map f).length = len := by simp
    refine ⟨(List.range len).map f, ⟨some x, cap, by rw [hlen], by rw [hlen]; exact hl, by unfold maxLen at hm; omega, fun i hi => ?_⟩⟩
    rw [hlen] at hi
    obtain ⟨b, off, spot⟩ := x
    have hc := (hfam 0 (by omega)).1
    have hspot : spot = none := by simpa [Addr.add] using World.cell?_spot hc
    subst hspot
    have hadd : ∀ i, (⟨b, off, none⟩ : Addr).add i = ⟨b, off + i, none⟩ := fun i => by simp [Addr.add]
    rw [hadd] at hc
    have h := hfam i hi
    rw [hadd, hadd] at h
    refine ⟨b, off, rfl, block_lt_of_cell hc, ?_, ?_⟩
    · rw [h.1]; simp
    · rw [Nat.add_assoc, h.2]; simp
end
end Go.Proofs.YthmecbonjkcnmaaGreat.mg

namespace Go.Proofs.YthmecbonjkcnmaaGreat.mg
open Go.ChangeShapes Go.WideShapes Go.ChangeAt Go.RowKit Go.Shelf Go.Sort
set_option linter.unusedVariables false
set_option maxRecDepth 100000

def Owns (W : World) (B : Nat) (v : Value) (l : List Int) : Prop := W.ownsRow B 3 1 v l.length (l.map (Value.int .i64))
theorem put_block {α : Type} [Inhabited α] (enc : α → Value) (w : World) (blk off : Nat) (d : Array α) (k : Nat) (h : k ≠ blk) : (putRow enc w blk off d).heap[k]? = w.heap[k]? := by
  unfold putRow mapBlock
  show (w.heap.modify blk _)[k]? = _
  rw [Array.getElem?_modify, if_neg (fun e => h e.symm)]
/-- a row that was written over, and what has grown beside it -/
theorem put_owns {w w' : World} {B g cap : Nat} {cur : Array Value} {l m z : List Int} {n : Nat} (hb : B ≤ g) (hg : w.heap[g]? = some (.cells cur 3 (0, 0))) (hlt : g < w.heap.size) (hlm : l.length = (m ++ z).length) (hn : l.length ≤ cap) (hc : cap ≤ maxLen) (hs : cur.size = cap * 1)
    (hw : w' = putRow (Value.int .i64) (Sort.ahead w n) g 0 (m ++ z).toArray) : Owns w' B (.slice (some ⟨g, 0, none⟩) m.length cap) m ∧ w.grownBy w' (some g) := by
  subst hw
  have hml : m.length ≤ l.length := by rw [hlm]; simp
  refine ⟨?_, ?_⟩
  · have hblk : (putRow (Value.int .i64) (Sort.ahead w n) g 0 (m ++ z).toArray).heap[g]? = some (.cells (putCells (Value.int .i64) 0 (m ++ z).toArray cur) 3 (0, 0)) := by
      unfold putRow mapBlock
      show (w.heap.modify g _)[g]? = _
      rw [Array.getElem?_modify, if_pos rfl, hg]
      rfl
    refine ⟨by simp, .inr ⟨g, cap, _, rfl, hb, hblk, by omega, hc, ?_, ?_⟩⟩
    · unfold putCells; simpa using hs
    · apply List.ext_getElem?
      intro i
      rw [List.getElem?_take]
      by_cases hi : i < m.length * 1
      · rw [if_pos hi, Array.getElem?_toList]
        unfold putCells
        rw [Array.getElem?_mapIdx]
        have hi2 : i < cur.size := by omega
        have hi3 : i < (m ++ z).length := by simp; omega
        rw [Array.getElem?_eq_getElem hi2, Option.map_some, if_pos ⟨by omega, by simpa using hi3⟩, List.getElem?_map, List.getElem?_eq_getElem (by omega)]
        congr 2
        rw [getElem!_pos _ _ (by simpa using hi3)]
        simp
        rw [List.getElem_append_left (by omega)]
      · rw [if_neg hi, List.getElem?_eq_none (by simp; omega)]
  · refine ⟨rfl, rfl, rfl, ?_, fun k hk hne => ?_⟩
    · simp [Sort.ahead]
    · rw [put_block _ _ _ _ _ _ (fun e => hne (by rw [e]))]
      rfl
theorem holds_of {w : World} {B g cap : Nat} {cur : Array Value} {l : List Int} (ho : Owns w B (.slice (some ⟨g, 0, none⟩) l.length cap) l) (hg : w.heap[g]? = some (.cells cur 3 (0, 0))) : Holds (Value.int .i64) w g 0 l.toArray := fun j hj => by
  have hj2 : j < l.length := by simpa using hj
  refine ⟨?_, ?_⟩
  · rw [Nat.zero_add, World.ownsRow.cellAt ho j (by omega), List.getElem?_map, List.getElem?_eq_getElem hj2, getElem!_pos _ j hj]
    simp
  · exact Lib.frozen_of_heap hg _


theorem Owns.ints {W : World} {B : Nat} {v : Value} {l : List Int} (h : Owns W B v l) : IntsV W v l := RowV.own h
theorem info3 : (Tryz.prog.info? 3).map (fun i => (i.zero, i.size, i.bytes)) = some (some (.int .i64 0), 1, 8) := by kernel_rfl
end Go.Proofs.YthmecbonjkcnmaaGreat.mg

namespace Go.Proofs.YthmecbonjkcnmaaGreat.mg
open Go.ChangeShapes Go.WideShapes Go.ChangeAt Go.RowKit Go.Shelf Go.Maps
set_option linter.unusedVariables false
set_option maxRecDepth 100000

/-- what a map of numbers holds -/
structure MapN {κ : Type} (key : κ → Lit) (Ok : κ → Prop) (l : List κ) (D : DataW Unit) : Prop where
  has : ∀ k, Ok k → (Maps.has D (key k) = true ↔ k ∈ l)
  at' : ∀ (i : Nat) k, l[i]? = some k → D.atKey (key k) (.lit (.int .i64 0)) = .lit (.int .i64 (i : Int))
theorem mapN_nil {κ : Type} (key : κ → Lit) (Ok : κ → Prop) : MapN key Ok [] (.map []) := ⟨fun k _ => ⟨fun h => (by cases h), fun h => (by cases h)⟩, fun i k h => by simp at h⟩
theorem MapN.put {κ : Type} {key : κ → Lit} {Ok : κ → Prop} {l : List κ} {D : DataW Unit} (h : MapN key Ok l D) (hT : Tidy D) (inj : ∀ x y, Ok x → Ok y → key x = key y → x = y) (hl : ∀ x ∈ l, Ok x) {k : κ} (hk : Ok k) (hlit : WideAt.IsKeyLit (key k)) (hn : k ∉ l) : MapN key Ok (l ++ [k]) (D.put (key k) (.lit (.int .i64 (l.length : Int)))) := by
  refine ⟨fun x hx => ?_, fun i x hi => ?_⟩
  · by_cases e : x = k
    · subst e
      rw [has_put_same hT.isMap hlit]
      simp
    · rw [has_put_other (fun e2 => e (inj x k hx hk e2)), h.has x hx]
      simp [e]
  · by_cases h2 : i < l.length
    · rw [List.getElem?_append_left h2] at hi
      have hm := List.mem_of_getElem? hi
      rw [atKey_put_other (fun e2 => hn (by rw [← inj x k (hl x hm) hk e2]; exact hm))]
      exact h.at' i x hi
    · have h3 := (List.getElem?_eq_some_iff.1 hi).1
      have e : i = l.length := by simp at h3; omega
      subst e
      rw [List.getElem?_append_right (Nat.le_refl _)] at hi
      simp at hi
      subst hi
      rw [atKey_put_same hT.isMap hlit]

theorem laidOut : laidOutB Tryz.prog = true := by kernel_rfl
theorem wide43 : (match Tryz.prog.underlying 97 with | some (.array _ _) | some (.struct _) => true | _ => false) = true := by rw [Tryz.underlying97]
set_option maxRecDepth 100000 in
theorem law43 : Keyed Tryz.prog 97 := Keyed.of_law (deep_law_laid laidOut (m := 2) (by omega) (of_decide_eq_true (by kernel_rfl)) (by kernel_rfl) wide43)
def OkM (s : Mg) : Prop := I64 s.1 ∧ I64 s.2
def kp (s : Mg) : Lit := (DataW.agg (H := Unit) [.lit (.int .i64 s.1), .lit (.int .i64 s.2)]).asKey
set_option maxRecDepth 100000 in
theorem key43 (s : Mg) (h : OkM s) : keyOf Tryz.prog 97 (.agg #[.int .i64 s.1, .int .i64 s.2]) = some (kp s) := by
  have hf : (Value.agg #[.int .i64 s.1, .int .i64 s.2]).formed Tryz.prog 97 = true := by
    have : Tryz.prog.cellsOf 97 = 2 := by kernel_rfl
    simp [Value.formed, Tryz.underlying97, this]
  have hd : DataW.Trod (H := Unit) (fun _ => ()) Tryz.prog (default : World) 0 (fun _ => true) true 97 (.agg #[.int .i64 s.1, .int .i64 s.2]) (.agg [.lit (.int .i64 s.1), .lit (.int .i64 s.2)]) [] := by
    refine ⟨2, ?_⟩
    have c43 : Tryz.prog.cellsOf 97 = 2 := by kernel_rfl
    have c3 : Tryz.prog.cellsOf 3 = 1 := by kernel_rfl
    simp [Value.cells, DataW.trod, Tryz.underlying97, Tryz.underlying3, c43, c3, WalkArith.wf_i64 h.1, WalkArith.wf_i64 h.2]
  obtain ⟨h, _⟩ := keyOf_asKey (by kernel_rfl) wide43 hf hd
  exact h
theorem kp_inj (s r : Mg) (hs : OkM s) (hr : OkM r) (h : kp s = kp r) : s = r := by
  have h1 := key43 s hs
  have h2 := key43 r hr
  rw [h] at h1
  have := law43.inj h1 h2
  obtain ⟨a, b⟩ := s
  obtain ⟨c, d⟩ := r
  simp at this
  simp only [Prod.mk.injEq]
  exact this
theorem look123 {W : World} {m n : Nat} {D : DataW Unit} (hown : W.ownsMap Tryz.prog 97 (plainElem (H := Unit) Tryz.prog 3) m n D) (s : Mg) (hs : OkM s) :
    ∃ c : Int, (Instr.lookup 115 (.map (some m)) (.agg #[.int .i64 s.1, .int .i64 s.2]) true).run Tryz.prog W = .ok (.tuple #[.int .i64 c, .bool (Maps.has D (kp s))]) W ∧ D.atKey (kp s) (.lit (.int .i64 0)) = .lit (.int .i64 c) := by
  obtain ⟨v, ps, hrun, hv⟩ := hown.look_ok law43 Tryz.underlying115 (zero3 W) (plainElem_int Tryz.underlying3 (by decide)) (key43 s hs)
  obtain ⟨c, rfl, hc, hwc⟩ := plainElem_int_inv Tryz.underlying3 hv
  exact ⟨c, hrun, congrArg Prod.fst hc⟩
theorem make115 (n : Int) (w : World) : (Instr.makeMap 115 (some (.int .i64 n))).run Tryz.prog w = .ok (.map (some w.heap.size)) (w.alloc (.map #[] 0)) := by kernel_rfl
theorem kp_lit (s : Mg) : WideAt.IsKeyLit (kp s) := trivial

/-- merges that may be stand once, and are small -/
theorem Fine.wide {l : List Mg} {ts : List ByteArray} (h : Fine l ts) (hl : l.length ≤ 1024) : ∀ m ∈ l, OkM m := fun m hm => by
  obtain ⟨k, hk, e⟩ := List.mem_iff_getElem.1 hm
  have := h.rng k m (by rw [List.getElem?_eq_getElem hk, e])
  unfold InR at this
  unfold OkM I64
  omega
theorem Fine.nodup' {l : List Mg} {ts : List ByteArray} (h : Fine l ts) {i : Nat} (hi : i < l.length) : l[i] ∉ l.take i := fun hm => by
  obtain ⟨k, hk, e⟩ := List.mem_iff_getElem.1 hm
  rw [List.length_take] at hk
  rw [List.getElem_take] at e
  have := h.once (i := i) (j := k) (m := l[i]) (List.getElem?_eq_getElem hi) (by rw [List.getElem?_eq_getElem (by omega), e])
  omega
def PairMap (W : World) (mb : Nat) (l : List Mg) : Prop := ∃ D, W.ownsMap Tryz.prog 97 (plainElem (H := Unit) Tryz.prog 3) mb l.length D ∧ MapN kp OkM l D
theorem PairMap.obj {W : World} {mb : Nat} {l : List Mg} (h : PairMap W mb l) : ∃ es c, W.heap[mb]? = some (.map es c) := by
  obtain ⟨D, ⟨es, c, h, _⟩, _⟩ := h
  exact ⟨es, c, h⟩
theorem PairMap.lt {W : World} {mb : Nat} {l : List Mg} (h : PairMap W mb l) : mb < W.heap.size := by
  obtain ⟨es, c, h⟩ := h.obj
  exact (Array.getElem?_eq_some_iff.1 h).1
theorem PairMap.keep {W W' : World} {mb : Nat} {l : List Mg} (h : PairMap W mb l) (e : W'.heap[mb]? = W.heap[mb]?) : PairMap W' mb l := by
  obtain ⟨D, h1, h2⟩ := h
  exact ⟨D, map_keep h1 e, h2⟩
/-- what a pair is looked up as -/
theorem PairMap.look {W : World} {mb : Nat} {l : List Mg} (h : PairMap W mb l) (s : Mg) (hs : OkM s) : ∃ c : Int, (∀ n, (Instr.lookup 115 (.map (some mb)) (.agg #[.int .i64 s.1, .int .i64 s.2]) true).run Tryz.prog (W.drewN n) = .ok (.tuple #[.int .i64 c, .bool (decide (s ∈ l))]) (W.drewN n)) ∧ (s ∈ l → c = (l.idxOf s : Int)) := by
  obtain ⟨D, h1, h2⟩ := h
  have hlk := fun n => look123 (W := W.drewN n) (map_keep (W := W) (W' := W.drewN n) h1 rfl) s hs
  obtain ⟨c, _, hc⟩ := hlk 0
  have hd : Maps.has D (kp s) = decide (s ∈ l) := by
    by_cases hm : s ∈ l
    · rw [(h2.has s hs).2 hm, decide_eq_true hm]
    · rw [decide_eq_false hm]
      exact Bool.eq_false_iff.2 fun h => hm ((h2.has s hs).1 h)
  refine ⟨c, fun n => ?_, fun hm => ?_⟩
  · obtain ⟨c', e1, e2⟩ := hlk n
    rw [hc] at e2
    simp only [DataW.lit.injEq, Lit.int.injEq, true_and] at e2
    rw [e1, e2, hd]
  · have := h2.at' (l.idxOf s) s (by rw [List.getElem?_eq_getElem (List.idxOf_lt_length_of_mem hm), List.getElem_idxOf])
    rw [hc] at this
    simpa using this

end Go.Proofs.YthmecbonjkcnmaaGreat.mg

namespace Go.Proofs.YthmecbonjkcnmaaGreat.mg
open Go.ChangeShapes Go.WideShapes Go.ChangeAt Go.RowKit Go.Shelf Go.Maps
set_option linter.unusedVariables false
set_option maxRecDepth 100000

theorem Owns.put {W : World} {B g n cap : Nat} {l : List Int} (h : Owns W B (.slice (some ⟨g, 0, none⟩) n cap) l) (i : Nat) (x : Int) : Owns (W.setCell ⟨g, i, none⟩ (.int .i64 x)) B (.slice (some ⟨g, 0, none⟩) n cap) (l.set i x) := by
  refine ⟨by simp, ?_⟩
  rcases h.2 with ⟨e, _⟩ | ⟨g', cap', cur, e, hb, hg, h1, h2, h3, h4⟩
  · cases e
  · obtain ⟨rfl, rfl, rfl⟩ : g = g' ∧ n = l.length ∧ cap = cap' := by simpa using e
    refine .inr ⟨g, cap, _, by simp, hb, set_heap W g _ _ i _ hg, by simpa using h1, h2, by simpa using h3, ?_⟩
    rw [Array.toList_setIfInBounds, List.take_set, List.length_set, h4, List.map_set]
theorem Owns.form {W : World} {B : Nat} {v : Value} {l : List Int} (h : Owns W B v l) (hp : 0 < l.length) : ∃ g cap, v = .slice (some ⟨g, 0, none⟩) l.length cap ∧ l.length ≤ cap ∧ cap ≤ 9223372036854775807 ∧ B ≤ g ∧ g < W.heap.size ∧ (∀ i (hi : i < l.length), W.cell? ⟨g, i, none⟩ = some (.int .i64 l[i])) ∧ ∀ i, W.frozen? ⟨g, i, none⟩ = false := by
  have h0 := h
  rcases h.2 with ⟨_, e⟩ | ⟨g, cap, cur, rfl, hb, hg, h1, h2, h3, h4⟩
  · omega
  · refine ⟨g, cap, rfl, h1, by unfold maxLen at h2; omega, hb, (Array.getElem?_eq_some_iff.1 hg).1, fun i hi => ?_, fun i => Lib.frozen_of_heap hg i⟩
    obtain ⟨g2, c2, e, _, hc⟩ := ow.cell h0 i (by rw [List.length_map]; exact hi)
    obtain ⟨⟨rfl, _⟩, rfl⟩ : (g = g2 ∧ True) ∧ cap = c2 := by simpa using e
    rw [hc]
    simp
def nz (kn : List Nat) : List Int := kn.map fun k : Nat => (k : Int)
theorem nz_len (kn : List Nat) : (nz kn).length = kn.length := by simp [nz]
theorem nz_set (kn : List Nat) (i k : Nat) : nz (kn.set i k) = (nz kn).set i (k : Int) := by simp [nz, List.map_set]
theorem nz_at (kn : List Nat) (i : Nat) (h : i < (nz kn).length) : (nz kn)[i] = ((kn[i]'(by rw [nz_len] at h; exact h) : Nat) : Int) := by simp [nz]
/-- a row in memory -/
structure RS (B rb mb : Nat) (l : List Mg) (vi vr : Value) (ids : List Int) (kn : List Nat) (W : World) : Prop where
  box : W.heap[rb]? = some (.cells #[.map (some mb), vi, vr] 104 (0, 0))
  oi : Owns W B vi ids
  ok : Owns W B vr (nz kn)
  kl : kn.length = ids.length
  map : PairMap W mb l
  ne : ∀ g, vi.ownBlock = some g → vr.ownBlock ≠ some g
  bb : B ≤ rb
  bm : B ≤ mb
section
variable {B rb mb : Nat} {l : List Mg} {vi vr : Value} {ids : List Int} {kn : List Nat} {W W' : World}
theorem RS.c0 (h : RS B rb mb l vi vr ids kn W) : W.cell? ⟨rb, 0, none⟩ = some (.map (some mb)) := by rw [Lib.cell_of_heap h.box]; rfl
theorem RS.c1 (h : RS B rb mb l vi vr ids kn W) : W.cell? ⟨rb, 1, none⟩ = some vi := by rw [Lib.cell_of_heap h.box]; rfl
theorem RS.c2 (h : RS B rb mb l vi vr ids kn W) : W.cell? ⟨rb, 2, none⟩ = some vr := by rw [Lib.cell_of_heap h.box]; rfl
theorem RS.fz (h : RS B rb mb l vi vr ids kn W) (i : Nat) : W.frozen? ⟨rb, i, none⟩ = false := Lib.frozen_of_heap h.box i
theorem RS.rlt (h : RS B rb mb l vi vr ids kn W) : rb < W.heap.size := (Array.getElem?_eq_some_iff.1 h.box).1
theorem RS.nrb (h : RS B rb mb l vi vr ids kn W) : vr.ownBlock ≠ some rb := fun e => ow.type h.ok h.box (by decide) e.symm
theorem RS.nri (h : RS B rb mb l vi vr ids kn W) : vi.ownBlock ≠ some rb := fun e => ow.type h.oi h.box (by decide) e.symm
theorem RS.nmr (h : RS B rb mb l vi vr ids kn W) : vr.ownBlock ≠ some mb := fun e => by
  obtain ⟨es, c, hm⟩ := h.map.obj
  exact ow.kind h.ok hm rfl e.symm
theorem RS.nmi (h : RS B rb mb l vi vr ids kn W) : vi.ownBlock ≠ some mb := fun e => by
  obtain ⟨es, c, hm⟩ := h.map.obj
  exact ow.kind h.oi hm rfl e.symm
theorem RS.nbm (h : RS B rb mb l vi vr ids kn W) : rb ≠ mb := fun e => by
  obtain ⟨es, c, hm⟩ := h.map.obj
  have := h.box
  rw [e, hm] at this
  cases this
theorem RS.later (h : RS B rb mb l vi vr ids kn W) (b : Below W.heap.size W W') : RS B rb mb l vi vr ids kn W' :=
  ⟨(b.block rb h.rlt).trans h.box, ow.later h.oi b, ow.later h.ok b, h.kl, h.map.keep (b.block mb h.map.lt), h.ne, h.bb, h.bm⟩
/-- the ranks are written -/
theorem RS.ranks (h : RS B rb mb l vi vr ids kn W) {kn' : List Nat} (ho : Owns W' B vr (nz kn')) (hk : kn'.length = ids.length) (hg : ∀ g, g < W.heap.size → vr.ownBlock ≠ some g → W'.heap[g]? = W.heap[g]?) : RS B rb mb l vi vr ids kn' W' :=
  ⟨(hg rb h.rlt h.nrb).trans h.box, ow.keep h.oi (fun g eg => hg g (ow.lt h.oi eg).2 (h.ne g eg)), ho, hk, h.map.keep (hg mb h.map.lt h.nmr), h.ne, h.bb, h.bm⟩
end
/-- what changes in the ranks' row alone -/
structure Only (W W' : World) (v : Value) : Prop where
  os : W'.os = W.os
  tape : W'.tape = W.tape
  output : W'.output = W.output
  size : W.heap.size ≤ W'.heap.size
  block : ∀ g, g < W.heap.size → v.ownBlock ≠ some g → W'.heap[g]? = W.heap[g]?
theorem Only.refl (W : World) (v : Value) : Only W W v := ⟨rfl, rfl, rfl, Nat.le_refl _, fun _ _ _ => rfl⟩
theorem Only.trans {W W' W'' : World} {v : Value} (h : Only W W' v) (k : Only W' W'' v) : Only W W'' v :=
  ⟨k.os.trans h.os, k.tape.trans h.tape, k.output.trans h.output, Nat.le_trans h.size k.size, fun g hg hv => (k.block g (Nat.lt_of_lt_of_le hg h.size) hv).trans (h.block g hg hv)⟩
theorem Only.set (W : World) (g i n cap : Nat) (x : Value) : Only W (W.setCell ⟨g, i, none⟩ x) (.slice (some ⟨g, 0, none⟩) n cap) :=
  ⟨rfl, rfl, rfl, by simp, fun k hk hv => Below.heap_setCell _ _ _ _ (fun e => hv (by subst e; rfl))⟩
theorem Only.drew (W : World) (n : Nat) (v : Value) : Only W (W.drewN n) v := ⟨rfl, rfl, rfl, Nat.le_refl _, fun _ _ _ => rfl⟩
theorem Only.below {B : Nat} {W W' : World} {v : Value} (h : Only W W' v) (hB : ∀ g, v.ownBlock = some g → B ≤ g) (hs : B ≤ W.heap.size) : Below B W W' :=
  ⟨h.os, h.tape, h.output, h.size, fun g hg => h.block g (Nat.lt_of_lt_of_le hg hs) (fun e => by have := hB g e; omega)⟩

theorem rk_last {l : List Mg} {ids : List Int} {i : Nat} (h : i + 1 = ids.length) : rk l ids i = 1024 := by unfold rk; rw [if_neg (by omega)]
theorem rk_in {l : List Mg} {ids : List Int} {i : Nat} (h : i + 1 < ids.length) (hm : (ids[i], ids[i + 1]) ∈ l) : rk l ids i = l.idxOf (ids[i], ids[i + 1]) := by
  unfold rk pr
  rw [if_pos h]
  have e1 : ids.getD i 0 = ids[i] := by rw [List.getD_eq_getElem?_getD, List.getElem?_eq_getElem (by omega)]; rfl
  have e2 : ids.getD (i + 1) 0 = ids[i + 1] := by rw [List.getD_eq_getElem?_getD, List.getElem?_eq_getElem (by omega)]; rfl
  rw [e1, e2, if_pos hm]
theorem rk_out {l : List Mg} {ids : List Int} {i : Nat} (h : i + 1 < ids.length) (hm : (ids[i], ids[i + 1]) ∉ l) : rk l ids i = 1024 := by
  unfold rk pr
  rw [if_pos h]
  have e1 : ids.getD i 0 = ids[i] := by rw [List.getD_eq_getElem?_getD, List.getElem?_eq_getElem (by omega)]; rfl
  have e2 : ids.getD (i + 1) 0 = ids[i + 1] := by rw [List.getD_eq_getElem?_getD, List.getElem?_eq_getElem (by omega)]; rfl
  rw [e1, e2, if_neg hm]
def LookOut (B rb mb : Nat) (l : List Mg) (vi vr : Value) (ids : List Int) (kn : List Nat) (i : Nat) (W : World) (e : Ending) (W' : World) : Prop := ∃ r, e = .returned r ∧ RS B rb mb l vi vr ids (kn.set i (rk l ids i)) W' ∧ Only W W' vr
theorem getD_lt {kn : List Nat} {i : Nat} (h : i < kn.length) : kn.getD i 0 = kn[i] := by rw [List.getD_eq_getElem?_getD, List.getElem?_eq_getElem h]; rfl
end Go.Proofs.YthmecbonjkcnmaaGreat.mg

namespace Go.Proofs.YthmecbonjkcnmaaGreat.mg
open Go.ChangeShapes Go.WideShapes Go.ChangeAt Go.RowKit Go.Shelf Go.Maps
set_option linter.unusedVariables false
set_option maxRecDepth 100000

/-- a row in memory, the lengths aside -/
structure RB (B rb mb : Nat) (l : List Mg) (vi vr : Value) (ids : List Int) (kn : List Nat) (W : World) : Prop where
  box : W.heap[rb]? = some (.cells #[.map (some mb), vi, vr] 104 (0, 0))
  oi : Owns W B vi ids
  ok : Owns W B vr (nz kn)
  map : PairMap W mb l
  ne : ∀ g, vi.ownBlock = some g → vr.ownBlock ≠ some g
  bb : B ≤ rb
  bm : B ≤ mb
section
variable {B rb mb : Nat} {l : List Mg} {vi vr vi' vr' : Value} {ids ids' : List Int} {kn kn' : List Nat} {W W' : World}
theorem RS.bare (h : RS B rb mb l vi vr ids kn W) : RB B rb mb l vi vr ids kn W := ⟨h.box, h.oi, h.ok, h.map, h.ne, h.bb, h.bm⟩
theorem RB.rs (h : RB B rb mb l vi vr ids kn W) (hk : kn.length = ids.length) : RS B rb mb l vi vr ids kn W := ⟨h.box, h.oi, h.ok, hk, h.map, h.ne, h.bb, h.bm⟩
theorem RB.c1 (h : RB B rb mb l vi vr ids kn W) : W.cell? ⟨rb, 1, none⟩ = some vi := by rw [Lib.cell_of_heap h.box]; rfl
theorem RB.c2 (h : RB B rb mb l vi vr ids kn W) : W.cell? ⟨rb, 2, none⟩ = some vr := by rw [Lib.cell_of_heap h.box]; rfl
theorem RB.fz (h : RB B rb mb l vi vr ids kn W) (i : Nat) : W.frozen? ⟨rb, i, none⟩ = false := Lib.frozen_of_heap h.box i
theorem RB.rlt (h : RB B rb mb l vi vr ids kn W) : rb < W.heap.size := (Array.getElem?_eq_some_iff.1 h.box).1
theorem RB.nrb (h : RB B rb mb l vi vr ids kn W) : vr.ownBlock ≠ some rb := fun e => ow.type h.ok h.box (by decide) e.symm
theorem RB.nri (h : RB B rb mb l vi vr ids kn W) : vi.ownBlock ≠ some rb := fun e => ow.type h.oi h.box (by decide) e.symm
theorem RB.nmr (h : RB B rb mb l vi vr ids kn W) : vr.ownBlock ≠ some mb := fun e => by
  obtain ⟨es, c, hm⟩ := h.map.obj
  exact ow.kind h.ok hm rfl e.symm
theorem RB.nmi (h : RB B rb mb l vi vr ids kn W) : vi.ownBlock ≠ some mb := fun e => by
  obtain ⟨es, c, hm⟩ := h.map.obj
  exact ow.kind h.oi hm rfl e.symm
theorem RB.nbm (h : RB B rb mb l vi vr ids kn W) : rb ≠ mb := fun e => by
  obtain ⟨es, c, hm⟩ := h.map.obj
  have := h.box
  rw [e, hm] at this
  cases this
theorem RB.later (h : RB B rb mb l vi vr ids kn W) (b : Below W.heap.size W W') : RB B rb mb l vi vr ids kn W' :=
  ⟨(b.block rb h.rlt).trans h.box, ow.later h.oi b, ow.later h.ok b, h.map.keep (b.block mb h.map.lt), h.ne, h.bb, h.bm⟩
/-- the ids are written -/
theorem RB.wrote (h : RB B rb mb l vi vr ids kn W) (ho : Owns W' B vi ids') (hg : ∀ g, g < W.heap.size → vi.ownBlock ≠ some g → W'.heap[g]? = W.heap[g]?) : RB B rb mb l vi vr ids' kn W' :=
  ⟨(hg rb h.rlt h.nri).trans h.box, ho, ow.keep h.ok (fun g eg => hg g (ow.lt h.ok eg).2 (fun e => h.ne g e eg)), h.map.keep (hg mb h.map.lt h.nmi), h.ne, h.bb, h.bm⟩
theorem box_put1 {x0 x1 x2 v : Value} (h : W.heap[rb]? = some (.cells #[x0, x1, x2] 104 (0, 0))) : (W.setCell ⟨rb, 1, none⟩ v).heap[rb]? = some (.cells #[x0, v, x2] 104 (0, 0)) := by
  rw [set_heap W rb _ _ 1 _ h]; rfl
theorem box_put2 {x0 x1 x2 v : Value} (h : W.heap[rb]? = some (.cells #[x0, x1, x2] 104 (0, 0))) : (W.setCell ⟨rb, 2, none⟩ v).heap[rb]? = some (.cells #[x0, x1, v] 104 (0, 0)) := by
  rw [set_heap W rb _ _ 2 _ h]; rfl
/-- the ids are cut -/
theorem RB.cutI (h : RB B rb mb l vi vr ids kn W) (ho : Owns W' B vi' ids') (hg : W.grownBy W' vi.ownBlock) (hv : vi'.ownBlock = vi.ownBlock) : RB B rb mb l vi' vr ids' kn (W'.setCell ⟨rb, 1, none⟩ vi') := by
  have hk : ∀ g, g < W.heap.size → g ≠ rb → vi.ownBlock ≠ some g → (W'.setCell ⟨rb, 1, none⟩ vi').heap[g]? = W.heap[g]? := fun g h1 h2 h3 => by
    rw [Below.heap_setCell _ _ _ _ h2]
    exact hg.block g h1 (fun e => h3 e.symm)
  refine ⟨box_put1 ((hg.block rb h.rlt (fun e => h.nri e.symm)).trans h.box), ow.keep ho (fun g eg => Below.heap_setCell _ _ _ _ (fun e => h.nri (by rw [← hv, eg, e]))), ow.keep h.ok (fun g eg => hk g (ow.lt h.ok eg).2 (fun e => h.nrb (by rw [eg, e])) (fun e => h.ne g e eg)), h.map.keep (hk mb h.map.lt (fun e => h.nbm e.symm) h.nmi), fun g eg => h.ne g (by rw [← hv]; exact eg), h.bb, h.bm⟩
theorem RB.cutK (h : RB B rb mb l vi vr ids kn W) (ho : Owns W' B vr' (nz kn')) (hg : W.grownBy W' vr.ownBlock) (hv : vr'.ownBlock = vr.ownBlock) : RB B rb mb l vi vr' ids kn' (W'.setCell ⟨rb, 2, none⟩ vr') := by
  have hk : ∀ g, g < W.heap.size → g ≠ rb → vr.ownBlock ≠ some g → (W'.setCell ⟨rb, 2, none⟩ vr').heap[g]? = W.heap[g]? := fun g h1 h2 h3 => by
    rw [Below.heap_setCell _ _ _ _ h2]
    exact hg.block g h1 (fun e => h3 e.symm)
  refine ⟨box_put2 ((hg.block rb h.rlt (fun e => h.nrb e.symm)).trans h.box), ow.keep h.oi (fun g eg => hk g (ow.lt h.oi eg).2 (fun e => h.nri (by rw [eg, e])) (h.ne g eg)), ow.keep ho (fun g eg => Below.heap_setCell _ _ _ _ (fun e => h.nrb (by rw [← hv, eg, e]))), h.map.keep (hk mb h.map.lt (fun e => h.nbm e.symm) h.nmr), fun g eg => (by rw [hv]; exact h.ne g eg), h.bb, h.bm⟩
end
/-- the ranks are those of the ids -/
def Rk (l : List Mg) (ids : List Int) (kn : List Nat) : Prop := kn.length = ids.length ∧ ∀ i, i < ids.length → kn.getD i 0 = rk l ids i
def cut (α : Type) (k : Nat) (xs : List α) : List α := xs.take (k + 1) ++ xs.drop (k + 2)
theorem cut_join (ids : List Int) (k r : Nat) (h : k + 1 < ids.length) : (ids.set k (256 + (r : Int))).take (k + 1) ++ (ids.set k (256 + (r : Int))).drop (k + 2) = joinAt ids k r := by
  unfold joinAt
  rw [List.take_add_one, List.take_set_of_le (Nat.le_refl k), List.getElem?_set_self (by omega), List.drop_set_of_lt (by omega), List.append_assoc]
  rfl
theorem cut_get (kn : List Nat) (k i : Nat) (h : k + 1 < kn.length) : (kn.take (k + 1) ++ kn.drop (k + 2)).getD i 0 = if i ≤ k then kn.getD i 0 else kn.getD (i + 1) 0 := by
  rw [List.getD_eq_getElem?_getD]
  by_cases h1 : i ≤ k
  · rw [if_pos h1, List.getElem?_append_left (by simp; omega), List.getElem?_take_of_lt (by omega), List.getD_eq_getElem?_getD]
  · rw [if_neg h1, List.getElem?_append_right (by simp; omega), List.length_take, Nat.min_eq_left (by omega), List.getElem?_drop, List.getD_eq_getElem?_getD]
    congr 2
    omega
theorem getD_set (kn : List Nat) (k i x : Nat) (h : k < kn.length) : (kn.set k x).getD i 0 = if i = k then x else kn.getD i 0 := by
  rw [List.getD_eq_getElem?_getD, List.getD_eq_getElem?_getD]
  by_cases e : i = k
  · subst e
    rw [if_pos rfl, List.getElem?_set_self h]
    rfl
  · rw [if_neg e, List.getElem?_set_ne (fun e2 => e e2.symm)]
theorem rk_join_low {l : List Mg} {ids : List Int} {k r i : Nat} (h : k + 1 < ids.length) (hi : i + 1 < k) : rk l (joinAt ids k r) i = rk l ids i := by
  have hl := joinAt_len ids k r h
  unfold rk
  rw [if_pos (by omega), if_pos (by omega), joinAt_get ids k r i h, joinAt_get ids k r (i + 1) h, if_pos (by omega), if_pos (by omega)]
theorem rk_join_high {l : List Mg} {ids : List Int} {k r i : Nat} (h : k + 1 < ids.length) (hi : k < i) : rk l (joinAt ids k r) i = rk l ids (i + 1) := by
  have hl := joinAt_len ids k r h
  unfold rk
  by_cases h2 : i + 1 + 1 < ids.length
  · rw [if_pos (by omega), if_pos (by omega), joinAt_get ids k r i h, joinAt_get ids k r (i + 1) h, if_neg (by omega), if_neg (by omega), if_neg (by omega), if_neg (by omega)]
  · rw [if_neg (by omega), if_neg (by omega)]
theorem rk_after0 {l : List Mg} {ids : List Int} {kn : List Nat} {r : Nat} (h : 0 + 1 < ids.length) (hR : Rk l ids kn) : Rk l (joinAt ids 0 r) ((kn.take (0 + 1) ++ kn.drop (0 + 2)).set 0 (rk l (joinAt ids 0 r) 0)) := by
  have hl := joinAt_len ids 0 r h
  have hk := hR.1
  refine ⟨by simp; omega, fun i hi => ?_⟩
  rw [getD_set _ _ _ _ (by simp; omega)]
  by_cases e : i = 0
  · subst e; rw [if_pos rfl]
  · rw [if_neg e, cut_get _ _ _ (by omega), if_neg (by omega), rk_join_high h (by omega)]
    exact hR.2 (i + 1) (by omega)
theorem rk_after {l : List Mg} {ids : List Int} {kn : List Nat} {k r : Nat} (h : k + 1 + 1 < ids.length) (hR : Rk l ids kn) : Rk l (joinAt ids (k + 1) r) (((kn.take (k + 1 + 1) ++ kn.drop (k + 1 + 2)).set (k + 1) (rk l (joinAt ids (k + 1) r) (k + 1))).set k (rk l (joinAt ids (k + 1) r) k)) := by
  have hl := joinAt_len ids (k + 1) r h
  have hk := hR.1
  refine ⟨by simp; omega, fun i hi => ?_⟩
  rw [getD_set _ _ _ _ (by simp; omega)]
  by_cases e : i = k
  · subst e; rw [if_pos rfl]
  · rw [if_neg e, getD_set _ _ _ _ (by simp; omega)]
    by_cases e2 : i = k + 1
    · subst e2; rw [if_pos rfl]
    · rw [if_neg e2, cut_get _ _ _ (by omega)]
      by_cases e3 : i ≤ k + 1
      · rw [if_pos e3, rk_join_low h (by omega)]
        exact hR.2 i (by omega)
      · rw [if_neg e3, rk_join_high h (by omega)]
        exact hR.2 (i + 1) (by omega)
theorem nz_cut (kn : List Nat) (k : Nat) : (nz kn).take (k + 1) ++ (nz kn).drop (k + 2) = nz (kn.take (k + 1) ++ kn.drop (k + 2)) := by
  simp [nz, List.map_take, List.map_drop]

theorem grown_below {B : Nat} {W W' : World} {v : Value} (hg : W.grownBy W' v.ownBlock) (hB : ∀ g, v.ownBlock = some g → B ≤ g) (hs : B ≤ W.heap.size) : Below B W W' := (Below.refl B W).grown hg hs (fun k hk => hB k hk)
def JoinOut (B rb mb : Nat) (l : List Mg) (ids : List Int) (k r : Nat) (W : World) (e : Ending) (W' : World) : Prop := ∃ v vi vr kn, e = .returned v ∧ RS B rb mb l vi vr (joinAt ids k r) kn W' ∧ Rk l (joinAt ids k r) kn ∧ Below B W W'
end Go.Proofs.YthmecbonjkcnmaaGreat.mg

namespace Go.Proofs.YthmecbonjkcnmaaGreat.mg
open Go.ChangeShapes Go.WideShapes Go.ChangeAt Go.RowKit Go.Shelf Go.Maps
def icells (l : List Int) : Array Value := (l.map (Value.int .i64)).toArray
theorem icells_made (n : Nat) : madeCells #[.int .i64 0] n = icells (List.replicate n 0) := by
  apply Array.toList_inj.1
  rw [toList_madeCells_one]
  simp [icells]
theorem make32 (n : Nat) (hn : n ≤ 1000000) (W : World) : (Instr.makeSlice 32 (.int .i64 (n : Int)) (.int .i64 (n : Int))).run Tryz.prog W = .ok (.slice (some ⟨W.heap.size, 0, none⟩) n n) (W.alloc (.cells (icells (List.replicate n 0)) 3)) := by
  rw [← icells_made]
  exact run_make_row' (P := Tryz.prog) 32 3 (.int .i64 0) 8 Tryz.underlying32 info3 rfl .i64 .i64 n (by omega) (by omega) W
end Go.Proofs.YthmecbonjkcnmaaGreat.mg
namespace Go.Proofs.YthmecbonjkcnmaaGreat.rg
open Go.RowKit
set_option linter.unusedVariables false
set_option maxRecDepth 100000

section
variable {ops : Array Oper} {S : World → Prop} {op : Oper} {a : Act} {Q : Exit → Act → World → Prop} {fuel : Nat} {listed : Array Bool} {w : World}
theorem yields_run (hw : Region.wanted op (yielded ops a.tmps) = true) {v : Value} (h : ∀ W, S W → (execOp a.eval op).run Tryz.prog W = .ok (.value v) W) : YieldsIf Tryz.prog ops S op v a := .inl ⟨hw, h⟩
theorem yields_not (hw : Region.wanted op (yielded ops a.tmps) = false) : YieldsIf Tryz.prog ops S op undef a := .inr ⟨hw, rfl⟩
theorem take_op {i : Nat} (k : Nat) {v : Value} (hi : ops[i]? = some op) (hd : op.dst = some k) (hy : YieldsIf Tryz.prog ops S op v a) (hs : Region.noSelect ops = true) (hf : Region.free .any ops listed i = true) (hr : (Region.ready .any ops listed).contains i = true)
    (hQ : ∀ c a w, Q (.panic c) (a.put (some k) v) w → Q (.panic c) a w) (hS : S w)
    (h : wpAnyH Tryz.prog .any ops Q S fuel (listed.setIfInBounds i true) (a.put (some k) v) w) : wpAnyH Tryz.prog .any ops Q S (fuel + 1) listed a w :=
  wpAnyH_take hi hs hf hr (by rw [hd]; exact hQ) hy hS (by rw [hd]; exact h)
theorem call_op (i k : Nat) {f : FuncId} {args : Array Value} (hr : Region.ready .any ops listed = [i]) (ho : ops[i]? = some op) (hd : op.dst = some k) (hw : Region.wanted op (yielded ops a.tmps) = true) (hx : (execOp a.eval op).run Tryz.prog w = .ok (.enter f args) w)
    (hc : Calls Tryz.prog f args w fun e w' => ∃ v, e = .returned v ∧ S w' ∧ wpAnyH Tryz.prog .any ops Q S fuel (listed.setIfInBounds i true) (a.put (some k) v) w') : wpAnyH Tryz.prog .any ops Q S (fuel + 1) listed a w := by
  refine wpAnyH_all hr (by simp) (fun j hj => ?_)
  simp at hj
  subst hj
  unfold wpOp
  simp only [ho, hw, if_true]
  refine .inl ?_
  unfold Oper.wp
  rw [hx]
  simp only [Oper.upon]
  refine hc.mono ?_
  rintro e w' ⟨v, rfl, h1, h2⟩
  rw [hd]
  exact ⟨h1, h2⟩
theorem eff_op (i k : Nat) {v : Value} {w' : World} (hr : Region.ready .any ops listed = [i]) (ho : ops[i]? = some op) (hd : op.dst = some k) (hw : Region.wanted op (yielded ops a.tmps) = true) (hx : (execOp a.eval op).run Tryz.prog w = .ok (.value v) w') (hS : S w')
    (h : wpAnyH Tryz.prog .any ops Q S fuel (listed.setIfInBounds i true) (a.put (some k) v) w') : wpAnyH Tryz.prog .any ops Q S (fuel + 1) listed a w := by
  refine wpAnyH_all hr (by simp) (fun j hj => ?_)
  simp at hj
  subst hj
  unfold wpOp
  simp only [ho, hw, if_true]
  refine .inl ?_
  unfold Oper.wp
  rw [hx]
  simp only [Oper.upon]
  rw [hd]
  exact ⟨hS, h⟩
/-- a store: any operation that comes up alone -/
theorem wp_op (i : Nat) (hr : Region.ready .any ops listed = [i]) (ho : ops[i]? = some op) (hw : Region.wanted op (yielded ops a.tmps) = true) (h : Oper.wp Tryz.prog op a w (fun a' w' => S w' ∧ wpAnyH Tryz.prog .any ops Q S fuel (listed.setIfInBounds i true) a' w') Q) : wpAnyH Tryz.prog .any ops Q S (fuel + 1) listed a w := by
  refine wpAnyH_all hr (by simp) (fun j hj => ?_)
  simp at hj
  subst hj
  unfold wpOp
  simp only [ho, hw, if_true]
  exact .inl h
theorem done_op (hr : Region.ready .any ops listed = []) (h : Q .normal a w) : wpAnyH Tryz.prog .any ops Q S fuel listed a w := wpAnyH_done hr h fuel
end
section
variable {ops : Array Oper} {S : World → Prop} {op : Oper} {a : Act} {Q : Exit → Act → World → Prop} {fuel : Nat} {listed : Array Bool} {w : World} {R : Act → World → Prop}
theorem op_val (i k : Nat) {v : Value} {w' : World} (ho : ops[i]? = some op) (hd : op.dst = some k) (hw : Region.wanted op (yielded ops a.tmps) = true) (hx : (execOp a.eval op).run Tryz.prog w = .ok (.value v) w') (h : R (a.put (some k) v) w') : wpOp Tryz.prog ops Q i R a w := by
  unfold wpOp
  simp only [ho, hw, if_true]
  refine .inl ?_
  unfold Oper.wp
  rw [hx]
  simp only [Oper.upon]
  rw [hd]
  exact h
theorem op_call (i k : Nat) {f : FuncId} {args : Array Value} (ho : ops[i]? = some op) (hd : op.dst = some k) (hw : Region.wanted op (yielded ops a.tmps) = true) (hx : (execOp a.eval op).run Tryz.prog w = .ok (.enter f args) w)
    (hc : Calls Tryz.prog f args w fun e w' => ∃ v, e = .returned v ∧ R (a.put (some k) v) w') : wpOp Tryz.prog ops Q i R a w := by
  unfold wpOp
  simp only [ho, hw, if_true]
  refine .inl ?_
  unfold Oper.wp
  rw [hx]
  simp only [Oper.upon]
  refine hc.mono ?_
  rintro e w' ⟨v, rfl, h1⟩
  rw [hd]
  exact h1
theorem op_wp (i : Nat) (ho : ops[i]? = some op) (hw : Region.wanted op (yielded ops a.tmps) = true) (h : Oper.wp Tryz.prog op a w R Q) : wpOp Tryz.prog ops Q i R a w := by
  unfold wpOp
  simp only [ho, hw, if_true]
  exact .inl h
theorem one {i : Nat} (hr : Region.ready .any ops listed = [i]) (h : wpOp Tryz.prog ops Q i (fun a' w' => S w' ∧ wpAnyH Tryz.prog .any ops Q S fuel (listed.setIfInBounds i true) a' w') a w) : wpAnyH Tryz.prog .any ops Q S (fuel + 1) listed a w := by
  refine wpAnyH_all hr (by simp) (fun j hj => ?_)
  simp at hj
  subst hj
  exact h
theorem two {i j : Nat} (hr : Region.ready .any ops listed = [i, j]) (h : wpOp Tryz.prog ops Q i (fun a' w' => S w' ∧ wpAnyH Tryz.prog .any ops Q S fuel (listed.setIfInBounds i true) a' w') a w) (h' : wpOp Tryz.prog ops Q j (fun a' w' => S w' ∧ wpAnyH Tryz.prog .any ops Q S fuel (listed.setIfInBounds j true) a' w') a w) : wpAnyH Tryz.prog .any ops Q S (fuel + 1) listed a w := by
  refine wpAnyH_all hr (by simp) (fun l hl => ?_)
  simp at hl
  rcases hl with rfl | rfl
  · exact h
  · exact h'
theorem three {i j k : Nat} (hr : Region.ready .any ops listed = [i, j, k]) (h : wpOp Tryz.prog ops Q i (fun a' w' => S w' ∧ wpAnyH Tryz.prog .any ops Q S fuel (listed.setIfInBounds i true) a' w') a w) (h' : wpOp Tryz.prog ops Q j (fun a' w' => S w' ∧ wpAnyH Tryz.prog .any ops Q S fuel (listed.setIfInBounds j true) a' w') a w) (h'' : wpOp Tryz.prog ops Q k (fun a' w' => S w' ∧ wpAnyH Tryz.prog .any ops Q S fuel (listed.setIfInBounds k true) a' w') a w) : wpAnyH Tryz.prog .any ops Q S (fuel + 1) listed a w := by
  refine wpAnyH_all hr (by simp) (fun l hl => ?_)
  simp at hl
  rcases hl with rfl | rfl | rfl
  · exact h
  · exact h'
  · exact h''
end
section
variable {o : Oper} {a : Act} {w : World}
theorem x_move {x : Operand} {v : Value} (h : o.op = .move x) (hx : a.eval x = v) : (execOp a.eval o).run Tryz.prog w = .ok (.value v) w := by
  unfold execOp; rw [h]; simp only [hx]; go_simp
theorem x_make30 {x y : Operand} {n : Nat} (h : o.op = .makeSlice 32 x y) (hx : a.eval x = .int .i64 (n : Int)) (hy : a.eval y = .int .i64 (n : Int)) (hn : n ≤ 1000000) : (execOp a.eval o).run Tryz.prog w = .ok (.value (.slice (some ⟨w.heap.size, 0, none⟩) n n)) (w.alloc (.cells (mg.icells (List.replicate n 0)) 3)) := by
  have := mg.make32 n hn w
  unfold execOp; rw [h]; simp only [hx, hy]; simp [this, Result.andThen]
end
end Go.Proofs.YthmecbonjkcnmaaGreat.rg

namespace Go.Proofs.YthmecbonjkcnmaaGreat.mg
open Go.ChangeShapes Go.WideShapes Go.ChangeAt Go.RowKit Go.Shelf Go.Maps
set_option linter.unusedVariables false
set_option maxRecDepth 100000

theorem Owns.base {W : World} {B B' : Nat} {v : Value} {l : List Int} (h : Owns W B v l) (hb : B' ≤ B) : Owns W B' v l := by
  refine ⟨h.1, ?_⟩
  rcases h.2 with h0 | ⟨g, cap, cur, e, hg, r⟩
  · exact .inl h0
  · exact .inr ⟨g, cap, cur, e, Nat.le_trans hb hg, r⟩
theorem nz_rep (n : Nat) : nz (List.replicate n 0) = List.replicate n (0 : Int) := by simp [nz]
theorem made_owns (W : World) (B n : Nat) (hB : B ≤ W.heap.size) (hn : n ≤ 1000000) : Owns (W.alloc (.cells (icells (List.replicate n 0)) 3)) B (.slice (some ⟨W.heap.size, 0, none⟩) n n) (nz (List.replicate n 0)) := by
  rw [nz_rep]
  refine ⟨by simp, .inr ⟨W.heap.size, n, _, by simp, hB, World.alloc_heap_new W _, by simp, by unfold maxLen; omega, by simp [icells], ?_⟩⟩
  simp [icells]
theorem own_lt {W : World} {B : Nat} {v : Value} {l : List Int} (h : Owns W B v l) {g : Nat} (e : v.ownBlock = some g) : B ≤ g ∧ g < W.heap.size := ow.lt h e
/-- what the three that are begun with leave -/
def Three (w : World) (l : List Mg) (ids : List Int) (n mb : Nat) (vi vr : Value) (W : World) : Prop :=
  w.heap.size ≤ mb ∧ PairMap W mb l ∧ Owns W w.heap.size vi ids ∧ Owns W w.heap.size vr (nz (List.replicate n 0)) ∧ (∀ g, vi.ownBlock = some g → vr.ownBlock ≠ some g) ∧ Below w.heap.size w W
theorem Three.row {w : World} {l : List Mg} {ids : List Int} {mb : Nat} {vi vr : Value} {W : World} (h : Three w l ids ids.length mb vi vr W) : RS w.heap.size W.heap.size mb l vi vr ids (List.replicate ids.length 0) (W.alloc (.cells #[.map (some mb), vi, vr] 104)) := by
  obtain ⟨h1, h2, h3, h4, h5, h6⟩ := h
  have b := below_alloc W (.cells #[.map (some mb), vi, vr] 104)
  exact ⟨World.alloc_heap_new W _, ow.later h3 b, ow.later h4 b, by simp, h2.keep (b.block mb h2.lt), h5, h6.size, h1⟩
theorem next_rank {l : List Mg} {ids : List Int} {kn : List Nat} {i : Nat} (hk : kn.length = ids.length) (h : ∀ j, j < i → kn.getD j 0 = rk l ids j) (hi : i < ids.length) (j : Nat) (hj : j < i + 1) : (kn.set i (rk l ids i)).getD j 0 = rk l ids j := by
  rw [getD_set _ _ _ _ (by omega)]
  by_cases e : j = i
  · subst e; rw [if_pos rfl]
  · rw [if_neg e]; exact h j (by omega)
def NewOut (l : List Mg) (ids : List Int) (w : World) (e : Ending) (W' : World) : Prop := ∃ rb mb vi vr kn, e = .returned (.pointer (some ⟨rb, 0, none⟩)) ∧ RS w.heap.size rb mb l vi vr ids kn W' ∧ Rk l ids kn ∧ Below w.heap.size w W'
end Go.Proofs.YthmecbonjkcnmaaGreat.mg

namespace Go.Proofs.YthmecbonjkcnmaaGreat.mg
open Go.ChangeShapes Go.WideShapes Go.ChangeAt Go.RowKit Go.Shelf Go.Maps
set_option linter.unusedVariables false
set_option maxRecDepth 100000

def rowLen (w : World) (rb : Nat) : Nat := match w.cell? ⟨rb, 1, none⟩ with
  | some (.slice _ n _) => n
  | _ => 0
theorem RS.len {B rb mb : Nat} {l : List Mg} {vi vr : Value} {ids : List Int} {kn : List Nat} {W : World} (h : RS B rb mb l vi vr ids kn W) : rowLen W rb = ids.length := by
  obtain ⟨g, c, e, _, _⟩ := ow.form h.oi
  unfold rowLen
  rw [h.c1, e]
theorem Rk.lst {l : List Mg} {ids : List Int} {kn : List Nat} (h : Rk l ids kn) : lst (fun i => kn.getD i 0) kn.length = lst (rk l ids) ids.length := by
  rw [h.1]
  exact lst_congr _ _ _ (fun i hi => h.2 i hi)
/-- how far the ids are merged -/
structure MI (w : World) (rb mb : Nat) (l : List Mg) (ids0 ids : List Int) (W : World) : Prop where
  row : ∃ vi vr kn, RS w.heap.size rb mb l vi vr ids kn W ∧ Rk l ids kn
  app : app l ids = app l ids0
  all : AllIn 100000 ids
  le : ids.length ≤ ids0.length
  below : Below w.heap.size w W
def MergedOut (l : List Mg) (ids : List Int) (w : World) (e : Ending) (W' : World) : Prop := ∃ v', e = .returned v' ∧ IntsV W' v' (app l ids) ∧ Below w.heap.size w W'
instance (n : Nat) (ids : List Int) : Decidable (AllIn n ids) := by unfold AllIn; infer_instance
def applyE (l : List Mg) (ids : List Int) : Nat := if errOf l ≠ 0 then errOf l else if 4096 < ids.length then 2 else if AllIn (256 + l.length) ids then 0 else 1
def applyL (l : List Mg) (ids : List Int) : List Int := if applyE l ids = 0 then app l ids else []
def ApplyOut (l : List Mg) (ids : List Int) (w : World) (e : Ending) (W' : World) : Prop := ∃ v', e = .returned (.tuple #[v', .int .i64 (applyE l ids : Int)]) ∧ IntsV W' v' (applyL l ids) ∧ Below w.heap.size w W'
theorem ApplyOut.bad {l : List Mg} {ids : List Int} {w w' : World} (x : Nat) (hx : applyE l ids = x) (h0 : x ≠ 0) (hb : Below w.heap.size w w') : ApplyOut l ids w (.returned (.tuple #[.slice none 0 0, .int .i64 (x : Int)])) w' := by
  refine ⟨.slice none 0 0, by rw [hx], ?_, hb⟩
  unfold applyL
  rw [if_neg (by rw [hx]; exact h0)]
  exact RowV.nil _
theorem applyE_err {l : List Mg} {ids : List Int} {x : Nat} (h : errOf l = x) (h0 : x ≠ 0) : applyE l ids = x := by unfold applyE; rw [if_pos (by rw [h]; exact h0), h]
theorem applyE_long {l : List Mg} {ids : List Int} (h : errOf l = 0) (h0 : 4096 < ids.length) : applyE l ids = 2 := by unfold applyE; rw [if_neg (by rw [h]; simp), if_pos h0]
theorem applyE_arg {l : List Mg} {ids : List Int} (h : errOf l = 0) (h0 : ¬ 4096 < ids.length) {i : Nat} (hi : i < ids.length) (h1 : ¬ InR ids[i] (256 + l.length)) : applyE l ids = 1 := by
  unfold applyE
  rw [if_neg (by rw [h]; simp), if_neg h0, if_neg (fun k => h1 (k _ (List.getElem_mem hi)))]
theorem applyE_ok {l : List Mg} {ids : List Int} (h : errOf l = 0) (h0 : ¬ 4096 < ids.length) (h1 : AllIn (256 + l.length) ids) : applyE l ids = 0 := by
  unfold applyE
  rw [if_neg (by rw [h]; simp), if_neg h0, if_pos h1]
end Go.Proofs.YthmecbonjkcnmaaGreat.mg
