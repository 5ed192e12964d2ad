/-
  Texts put together: The library's Clone and Delete of ints, laid at this program; what they leave of an own row. Contracts over this program: the rank of each pair (byPair), in a map whose keys are pairs. Contracts over this program: ids that are being merged, in memory (merge.row): look, least. Contracts over this program: one id of a pair (row.join).
-/
import Derived.Test.YtmmlibehihknbaaM01
import Derived.Shelf.Slices.Clone
import Derived.Shelf.Slices.Delete
namespace Go.Proofs.Ytmmlibehihknbaa.mg
open Go.ChangeShapes Go.WideShapes Go.ChangeAt Go.RowKit Go.Shelf Go.Sort
set_option linter.unusedVariables false
set_option maxRecDepth 100000

def Owns (W : World) (B : Nat) (v : Value) (l : List Int) : Prop := W.ownsRow B 3 1 v l.length (l.map (Value.int .i64))
theorem put_block {α : Type} [Inhabited α] (enc : α → Value) (w : World) (blk off : Nat) (d : Array α) (k : Nat) (h : k ≠ blk) : (putRow enc w blk off d).heap[k]? = w.heap[k]? := by
  unfold putRow mapBlock
  show (w.heap.modify blk _)[k]? = _
  rw [Array.getElem?_modify, if_neg (fun e => h e.symm)]
/-- a row that was written over, and what has grown beside it -/
theorem put_owns {w w' : World} {B g cap : Nat} {cur : Array Value} {l m z : List Int} {n : Nat} (hb : B ≤ g) (hg : w.heap[g]? = some (.cells cur 3 (0, 0))) (hlt : g < w.heap.size) (hlm : l.length = (m ++ z).length) (hn : l.length ≤ cap) (hc : cap ≤ maxLen) (hs : cur.size = cap * 1)
    (hw : w' = putRow (Value.int .i64) (Sort.ahead w n) g 0 (m ++ z).toArray) : Owns w' B (.slice (some ⟨g, 0, none⟩) m.length cap) m ∧ w.grownBy w' (some g) := by
  subst hw
  have hml : m.length ≤ l.length := by rw [hlm]; simp
  refine ⟨?_, ?_⟩
  · have hblk : (putRow (Value.int .i64) (Sort.ahead w n) g 0 (m ++ z).toArray).heap[g]? = some (.cells (putCells (Value.int .i64) 0 (m ++ z).toArray cur) 3 (0, 0)) := by
      unfold putRow mapBlock
      show (w.heap.modify g _)[g]? = _
      rw [Array.getElem?_modify, if_pos rfl, hg]
      rfl
    refine ⟨by simp, .inr ⟨g, cap, _, rfl, hb, hblk, by omega, hc, ?_, ?_⟩⟩
    · unfold putCells; simpa using hs
    · apply List.ext_getElem?
      intro i
      rw [List.getElem?_take]
      by_cases hi : i < m.length * 1
      · rw [if_pos hi, Array.getElem?_toList]
        unfold putCells
        rw [Array.getElem?_mapIdx]
        have hi2 : i < cur.size := by omega
        have hi3 : i < (m ++ z).length := by simp; omega
        rw [Array.getElem?_eq_getElem hi2, Option.map_some, if_pos ⟨by omega, by simpa using hi3⟩, List.getElem?_map, List.getElem?_eq_getElem (by omega)]
        congr 2
        rw [getElem!_pos _ _ (by simpa using hi3)]
        simp
        rw [List.getElem_append_left (by omega)]
      · rw [if_neg hi, List.getElem?_eq_none (by simp; omega)]
  · refine ⟨rfl, rfl, rfl, ?_, fun k hk hne => ?_⟩
    · simp [Sort.ahead]
    · rw [put_block _ _ _ _ _ _ (fun e => hne (by rw [e]))]
      rfl
theorem holds_of {w : World} {B g cap : Nat} {cur : Array Value} {l : List Int} (ho : Owns w B (.slice (some ⟨g, 0, none⟩) l.length cap) l) (hg : w.heap[g]? = some (.cells cur 3 (0, 0))) : Holds (Value.int .i64) w g 0 l.toArray := fun j hj => by
  have hj2 : j < l.length := by simpa using hj
  refine ⟨?_, ?_⟩
  · rw [Nat.zero_add, World.ownsRow.cellAt ho j (by omega), List.getElem?_map, List.getElem?_eq_getElem hj2, getElem!_pos _ j hj]
    simp
  · exact Lib.frozen_of_heap hg _


theorem Owns.ints {W : World} {B : Nat} {v : Value} {l : List Int} (h : Owns W B v l) : IntsV W v l := RowV.own h
theorem info3 : (Try.prog.info? 3).map (fun i => (i.zero, i.size, i.bytes)) = some (some (.int .i64 0), 1, 8) := by kernel_rfl
end Go.Proofs.Ytmmlibehihknbaa.mg

namespace Go.Proofs.Ytmmlibehihknbaa.mg
open Go.ChangeShapes Go.WideShapes Go.ChangeAt Go.RowKit Go.Shelf Go.Maps
set_option linter.unusedVariables false
set_option maxRecDepth 100000

/-- what a map of numbers holds -/
structure MapN {κ : Type} (key : κ → Lit) (Ok : κ → Prop) (l : List κ) (D : DataW Unit) : Prop where
  has : ∀ k, Ok k → (Maps.has D (key k) = true ↔ k ∈ l)
  at' : ∀ (i : Nat) k, l[i]? = some k → D.atKey (key k) (.lit (.int .i64 0)) = .lit (.int .i64 (i : Int))
theorem mapN_nil {κ : Type} (key : κ → Lit) (Ok : κ → Prop) : MapN key Ok [] (.map []) := ⟨fun k _ => ⟨fun h => (by cases h), fun h => (by cases h)⟩, fun i k h => by simp at h⟩
theorem MapN.put {κ : Type} {key : κ → Lit} {Ok : κ → Prop} {l : List κ} {D : DataW Unit} (h : MapN key Ok l D) (hT : Tidy D) (inj : ∀ x y, Ok x → Ok y → key x = key y → x = y) (hl : ∀ x ∈ l, Ok x) {k : κ} (hk : Ok k) (hlit : WideAt.IsKeyLit (key k)) (hn : k ∉ l) : MapN key Ok (l ++ [k]) (D.put (key k) (.lit (.int .i64 (l.length : Int)))) := by
  refine ⟨fun x hx => ?_, fun i x hi => ?_⟩
  · by_cases e : x = k
    · subst e
      rw [has_put_same hT.isMap hlit]
      simp
    · rw [has_put_other (fun e2 => e (inj x k hx hk e2)), h.has x hx]
      simp [e]
  · by_cases h2 : i < l.length
    · rw [List.getElem?_append_left h2] at hi
      have hm := List.mem_of_getElem? hi
      rw [atKey_put_other (fun e2 => hn (by rw [← inj x k (hl x hm) hk e2]; exact hm))]
      exact h.at' i x hi
    · have h3 := (List.getElem?_eq_some_iff.1 hi).1
      have e : i = l.length := by simp at h3; omega
      subst e
      rw [List.getElem?_append_right (Nat.le_refl _)] at hi
      simp at hi
      subst hi
      rw [atKey_put_same hT.isMap hlit]

theorem laidOut : laidOutB Try.prog = true := by kernel_rfl
theorem wide43 : (match Try.prog.underlying 70 with | some (.array _ _) | some (.struct _) => true | _ => false) = true := by rw [Try.underlying70]
set_option maxRecDepth 100000 in
theorem law43 : Keyed Try.prog 70 := Keyed.of_law (deep_law_laid laidOut (m := 2) (by omega) (of_decide_eq_true (by kernel_rfl)) (by kernel_rfl) wide43)
def OkM (s : Mg) : Prop := I64 s.1 ∧ I64 s.2
def kp (s : Mg) : Lit := (DataW.agg (H := Unit) [.lit (.int .i64 s.1), .lit (.int .i64 s.2)]).asKey
set_option maxRecDepth 100000 in
theorem key43 (s : Mg) (h : OkM s) : keyOf Try.prog 70 (.agg #[.int .i64 s.1, .int .i64 s.2]) = some (kp s) := by
  have hf : (Value.agg #[.int .i64 s.1, .int .i64 s.2]).formed Try.prog 70 = true := by
    have : Try.prog.cellsOf 70 = 2 := by kernel_rfl
    simp [Value.formed, Try.underlying70, this]
  have hd : DataW.Trod (H := Unit) (fun _ => ()) Try.prog (default : World) 0 (fun _ => true) true 70 (.agg #[.int .i64 s.1, .int .i64 s.2]) (.agg [.lit (.int .i64 s.1), .lit (.int .i64 s.2)]) [] := by
    refine ⟨2, ?_⟩
    have c43 : Try.prog.cellsOf 70 = 2 := by kernel_rfl
    have c3 : Try.prog.cellsOf 3 = 1 := by kernel_rfl
    simp [Value.cells, DataW.trod, Try.underlying70, Try.underlying3, c43, c3, WalkArith.wf_i64 h.1, WalkArith.wf_i64 h.2]
  obtain ⟨h, _⟩ := keyOf_asKey (by kernel_rfl) wide43 hf hd
  exact h
theorem kp_inj (s r : Mg) (hs : OkM s) (hr : OkM r) (h : kp s = kp r) : s = r := by
  have h1 := key43 s hs
  have h2 := key43 r hr
  rw [h] at h1
  have := law43.inj h1 h2
  obtain ⟨a, b⟩ := s
  obtain ⟨c, d⟩ := r
  simp at this
  simp only [Prod.mk.injEq]
  exact this
theorem look147 {W : World} {m n : Nat} {D : DataW Unit} (hown : W.ownsMap Try.prog 70 (plainElem (H := Unit) Try.prog 3) m n D) (s : Mg) (hs : OkM s) :
    ∃ c : Int, (Instr.lookup 140 (.map (some m)) (.agg #[.int .i64 s.1, .int .i64 s.2]) true).run Try.prog W = .ok (.tuple #[.int .i64 c, .bool (Maps.has D (kp s))]) W ∧ D.atKey (kp s) (.lit (.int .i64 0)) = .lit (.int .i64 c) := by
  obtain ⟨v, ps, hrun, hv⟩ := hown.look_ok law43 Try.underlying140 (zero3 W) (plainElem_int Try.underlying3 (by decide)) (key43 s hs)
  obtain ⟨c, rfl, hc, hwc⟩ := plainElem_int_inv Try.underlying3 hv
  exact ⟨c, hrun, congrArg Prod.fst hc⟩
theorem make140 (n : Int) (w : World) : (Instr.makeMap 140 (some (.int .i64 n))).run Try.prog w = .ok (.map (some w.heap.size)) (w.alloc (.map #[] 0)) := by kernel_rfl
theorem kp_lit (s : Mg) : WideAt.IsKeyLit (kp s) := trivial

/-- merges that may be stand once, and are small -/
theorem Fine.wide {l : List Mg} {ts : List ByteArray} (h : Fine l ts) (hl : l.length ≤ 1024) : ∀ m ∈ l, OkM m := fun m hm => by
  obtain ⟨k, hk, e⟩ := List.mem_iff_getElem.1 hm
  have := h.rng k m (by rw [List.getElem?_eq_getElem hk, e])
  unfold InR at this
  unfold OkM I64
  omega
theorem Fine.nodup' {l : List Mg} {ts : List ByteArray} (h : Fine l ts) {i : Nat} (hi : i < l.length) : l[i] ∉ l.take i := fun hm => by
  obtain ⟨k, hk, e⟩ := List.mem_iff_getElem.1 hm
  rw [List.length_take] at hk
  rw [List.getElem_take] at e
  have := h.once (i := i) (j := k) (m := l[i]) (List.getElem?_eq_getElem hi) (by rw [List.getElem?_eq_getElem (by omega), e])
  omega
def PairMap (W : World) (mb : Nat) (l : List Mg) : Prop := ∃ D, W.ownsMap Try.prog 70 (plainElem (H := Unit) Try.prog 3) mb l.length D ∧ MapN kp OkM l D
theorem PairMap.obj {W : World} {mb : Nat} {l : List Mg} (h : PairMap W mb l) : ∃ es c, W.heap[mb]? = some (.map es c) := by
  obtain ⟨D, ⟨es, c, h, _⟩, _⟩ := h
  exact ⟨es, c, h⟩
theorem PairMap.lt {W : World} {mb : Nat} {l : List Mg} (h : PairMap W mb l) : mb < W.heap.size := by
  obtain ⟨es, c, h⟩ := h.obj
  exact (Array.getElem?_eq_some_iff.1 h).1
theorem PairMap.keep {W W' : World} {mb : Nat} {l : List Mg} (h : PairMap W mb l) (e : W'.heap[mb]? = W.heap[mb]?) : PairMap W' mb l := by
  obtain ⟨D, h1, h2⟩ := h
  exact ⟨D, map_keep h1 e, h2⟩
/-- what a pair is looked up as -/
theorem PairMap.look {W : World} {mb : Nat} {l : List Mg} (h : PairMap W mb l) (s : Mg) (hs : OkM s) : ∃ c : Int, (∀ n, (Instr.lookup 140 (.map (some mb)) (.agg #[.int .i64 s.1, .int .i64 s.2]) true).run Try.prog (W.drewN n) = .ok (.tuple #[.int .i64 c, .bool (decide (s ∈ l))]) (W.drewN n)) ∧ (s ∈ l → c = (l.idxOf s : Int)) := by
  obtain ⟨D, h1, h2⟩ := h
  have hlk := fun n => look147 (W := W.drewN n) (map_keep (W := W) (W' := W.drewN n) h1 rfl) s hs
  obtain ⟨c, _, hc⟩ := hlk 0
  have hd : Maps.has D (kp s) = decide (s ∈ l) := by
    by_cases hm : s ∈ l
    · rw [(h2.has s hs).2 hm, decide_eq_true hm]
    · rw [decide_eq_false hm]
      exact Bool.eq_false_iff.2 fun h => hm ((h2.has s hs).1 h)
  refine ⟨c, fun n => ?_, fun hm => ?_⟩
  · obtain ⟨c', e1, e2⟩ := hlk n
    rw [hc] at e2
    simp only [DataW.lit.injEq, Lit.int.injEq, true_and] at e2
    rw [e1, e2, hd]
  · have := h2.at' (l.idxOf s) s (by rw [List.getElem?_eq_getElem (List.idxOf_lt_length_of_mem hm), List.getElem_idxOf])
    rw [hc] at this
    simpa using this

end Go.Proofs.Ytmmlibehihknbaa.mg

namespace Go.Proofs.Ytmmlibehihknbaa.mg
open Go.ChangeShapes Go.WideShapes Go.ChangeAt Go.RowKit Go.Shelf Go.Maps
set_option linter.unusedVariables false
set_option maxRecDepth 100000

theorem Owns.put {W : World} {B g n cap : Nat} {l : List Int} (h : Owns W B (.slice (some ⟨g, 0, none⟩) n cap) l) (i : Nat) (x : Int) : Owns (W.setCell ⟨g, i, none⟩ (.int .i64 x)) B (.slice (some ⟨g, 0, none⟩) n cap) (l.set i x) := by
  refine ⟨by simp, ?_⟩
  rcases h.2 with ⟨e, _⟩ | ⟨g', cap', cur, e, hb, hg, h1, h2, h3, h4⟩
  · cases e
  · obtain ⟨rfl, rfl, rfl⟩ : g = g' ∧ n = l.length ∧ cap = cap' := by simpa using e
    refine .inr ⟨g, cap, _, by simp, hb, set_heap W g _ _ i _ hg, by simpa using h1, h2, by simpa using h3, ?_⟩
    rw [Array.toList_setIfInBounds, List.take_set, List.length_set, h4, List.map_set]
theorem Owns.form {W : World} {B : Nat} {v : Value} {l : List Int} (h : Owns W B v l) (hp : 0 < l.length) : ∃ g cap, v = .slice (some ⟨g, 0, none⟩) l.length cap ∧ l.length ≤ cap ∧ cap ≤ 9223372036854775807 ∧ B ≤ g ∧ g < W.heap.size ∧ (∀ i (hi : i < l.length), W.cell? ⟨g, i, none⟩ = some (.int .i64 l[i])) ∧ ∀ i, W.frozen? ⟨g, i, none⟩ = false := by
  have h0 := h
  rcases h.2 with ⟨_, e⟩ | ⟨g, cap, cur, rfl, hb, hg, h1, h2, h3, h4⟩
  · omega
  · refine ⟨g, cap, rfl, h1, by unfold maxLen at h2; omega, hb, (Array.getElem?_eq_some_iff.1 hg).1, fun i hi => ?_, fun i => Lib.frozen_of_heap hg i⟩
    obtain ⟨g2, c2, e, _, hc⟩ := ow.cell h0 i (by rw [List.length_map]; exact hi)
    obtain ⟨⟨rfl, _⟩, rfl⟩ : (g = g2 ∧ True) ∧ cap = c2 := by simpa using e
    rw [hc]
    simp
def nz (kn : List Nat) : List Int := kn.map fun k : Nat => (k : Int)
theorem nz_len (kn : List Nat) : (nz kn).length = kn.length := by simp [nz]
theorem nz_set (kn : List Nat) (i k : Nat) : nz (kn.set i k) = (nz kn).set i (k : Int) := by simp [nz, List.map_set]
theorem nz_at (kn : List Nat) (i : Nat) (h : i < (nz kn).length) : (nz kn)[i] = ((kn[i]'(by rw [nz_len] at h; exact h) : Nat) : Int) := by simp [nz]
/-- a row in memory -/
structure RS (B rb mb : Nat) (l : List Mg) (vi vr : Value) (ids : List Int) (kn : List Nat) (W : World) : Prop where
  box : W.heap[rb]? = some (.cells #[.map (some mb), vi, vr] 109 (0, 0))
  oi : Owns W B vi ids
  ok : Owns W B vr (nz kn)
  kl : kn.length = ids.length
  map : PairMap W mb l
  ne : ∀ g, vi.ownBlock = some g → vr.ownBlock ≠ some g
  bb : B ≤ rb
  bm : B ≤ mb
section
variable {B rb mb : Nat} {l : List Mg} {vi vr : Value} {ids : List Int} {kn : List Nat} {W W' : World}
theorem RS.c0 (h : RS B rb mb l vi vr ids kn W) : W.cell? ⟨rb, 0, none⟩ = some (.map (some mb)) := by rw [Lib.cell_of_heap h.box]; rfl
theorem RS.c1 (h : RS B rb mb l vi vr ids kn W) : W.cell? ⟨rb, 1, none⟩ = some vi := by rw [Lib.cell_of_heap h.box]; rfl
theorem RS.c2 (h : RS B rb mb l vi vr ids kn W) : W.cell? ⟨rb, 2, none⟩ = some vr := by rw [Lib.cell_of_heap h.box]; rfl
theorem RS.fz (h : RS B rb mb l vi vr ids kn W) (i : Nat) : W.frozen? ⟨rb, i, none⟩ = false := Lib.frozen_of_heap h.box i
theorem RS.rlt (h : RS B rb mb l vi vr ids kn W) : rb < W.heap.size := (Array.getElem?_eq_some_iff.1 h.box).1
theorem RS.nrb (h : RS B rb mb l vi vr ids kn W) : vr.ownBlock ≠ some rb := fun e => ow.type h.ok h.box (by decide) e.symm
theorem RS.nri (h : RS B rb mb l vi vr ids kn W) : vi.ownBlock ≠ some rb := fun e => ow.type h.oi h.box (by decide) e.symm
theorem RS.nmr (h : RS B rb mb l vi vr ids kn W) : vr.ownBlock ≠ some mb := fun e => by
  obtain ⟨es, c, hm⟩ := h.map.obj
  exact ow.kind h.ok hm rfl e.symm
theorem RS.nmi (h : RS B rb mb l vi vr ids kn W) : vi.ownBlock ≠ some mb := fun e => by
  obtain ⟨es, c, hm⟩ := h.map.obj
  exact ow.kind h.oi hm rfl e.symm
theorem RS.nbm (h : RS B rb mb l vi vr ids kn W) : rb ≠ mb := fun e => by
  obtain ⟨es, c, hm⟩ := h.map.obj
  have := h.box
  rw [e, hm] at this
  cases this
theorem RS.later (h : RS B rb mb l vi vr ids kn W) (b : Below W.heap.size W W') : RS B rb mb l vi vr ids kn W' :=
  ⟨(b.block rb h.rlt).trans h.box, ow.later h.oi b, ow.later h.ok b, h.kl, h.map.keep (b.block mb h.map.lt), h.ne, h.bb, h.bm⟩
/-- the ranks are written -/
theorem RS.ranks (h : RS B rb mb l vi vr ids kn W) {kn' : List Nat} (ho : Owns W' B vr (nz kn')) (hk : kn'.length = ids.length) (hg : ∀ g, g < W.heap.size → vr.ownBlock ≠ some g → W'.heap[g]? = W.heap[g]?) : RS B rb mb l vi vr ids kn' W' :=
  ⟨(hg rb h.rlt h.nrb).trans h.box, ow.keep h.oi (fun g eg => hg g (ow.lt h.oi eg).2 (h.ne g eg)), ho, hk, h.map.keep (hg mb h.map.lt h.nmr), h.ne, h.bb, h.bm⟩
end
/-- what changes in the ranks' row alone -/
structure Only (W W' : World) (v : Value) : Prop where
  os : W'.os = W.os
  tape : W'.tape = W.tape
  output : W'.output = W.output
  size : W.heap.size ≤ W'.heap.size
  block : ∀ g, g < W.heap.size → v.ownBlock ≠ some g → W'.heap[g]? = W.heap[g]?
theorem Only.refl (W : World) (v : Value) : Only W W v := ⟨rfl, rfl, rfl, Nat.le_refl _, fun _ _ _ => rfl⟩
theorem Only.trans {W W' W'' : World} {v : Value} (h : Only W W' v) (k : Only W' W'' v) : Only W W'' v :=
  ⟨k.os.trans h.os, k.tape.trans h.tape, k.output.trans h.output, Nat.le_trans h.size k.size, fun g hg hv => (k.block g (Nat.lt_of_lt_of_le hg h.size) hv).trans (h.block g hg hv)⟩
theorem Only.set (W : World) (g i n cap : Nat) (x : Value) : Only W (W.setCell ⟨g, i, none⟩ x) (.slice (some ⟨g, 0, none⟩) n cap) :=
  ⟨rfl, rfl, rfl, by simp, fun k hk hv => Below.heap_setCell _ _ _ _ (fun e => hv (by subst e; rfl))⟩
theorem Only.drew (W : World) (n : Nat) (v : Value) : Only W (W.drewN n) v := ⟨rfl, rfl, rfl, Nat.le_refl _, fun _ _ _ => rfl⟩
theorem Only.below {B : Nat} {W W' : World} {v : Value} (h : Only W W' v) (hB : ∀ g, v.ownBlock = some g → B ≤ g) (hs : B ≤ W.heap.size) : Below B W W' :=
  ⟨h.os, h.tape, h.output, h.size, fun g hg => h.block g (Nat.lt_of_lt_of_le hg hs) (fun e => by have := hB g e; omega)⟩

theorem rk_last {l : List Mg} {ids : List Int} {i : Nat} (h : i + 1 = ids.length) : rk l ids i = 1024 := by unfold rk; rw [if_neg (by omega)]
theorem rk_in {l : List Mg} {ids : List Int} {i : Nat} (h : i + 1 < ids.length) (hm : (ids[i], ids[i + 1]) ∈ l) : rk l ids i = l.idxOf (ids[i], ids[i + 1]) := by
  unfold rk pr
  rw [if_pos h]
  have e1 : ids.getD i 0 = ids[i] := by rw [List.getD_eq_getElem?_getD, List.getElem?_eq_getElem (by omega)]; rfl
  have e2 : ids.getD (i + 1) 0 = ids[i + 1] := by rw [List.getD_eq_getElem?_getD, List.getElem?_eq_getElem (by omega)]; rfl
  rw [e1, e2, if_pos hm]
theorem rk_out {l : List Mg} {ids : List Int} {i : Nat} (h : i + 1 < ids.length) (hm : (ids[i], ids[i + 1]) ∉ l) : rk l ids i = 1024 := by
  unfold rk pr
  rw [if_pos h]
  have e1 : ids.getD i 0 = ids[i] := by rw [List.getD_eq_getElem?_getD, List.getElem?_eq_getElem (by omega)]; rfl
  have e2 : ids.getD (i + 1) 0 = ids[i + 1] := by rw [List.getD_eq_getElem?_getD, List.getElem?_eq_getElem (by omega)]; rfl
  rw [e1, e2, if_neg hm]
def LookOut (B rb mb : Nat) (l : List Mg) (vi vr : Value) (ids : List Int) (kn : List Nat) (i : Nat) (W : World) (e : Ending) (W' : World) : Prop := ∃ r, e = .returned r ∧ RS B rb mb l vi vr ids (kn.set i (rk l ids i)) W' ∧ Only W W' vr
theorem getD_lt {kn : List Nat} {i : Nat} (h : i < kn.length) : kn.getD i 0 = kn[i] := by rw [List.getD_eq_getElem?_getD, List.getElem?_eq_getElem h]; rfl
end Go.Proofs.Ytmmlibehihknbaa.mg

namespace Go.Proofs.Ytmmlibehihknbaa.mg
open Go.ChangeShapes Go.WideShapes Go.ChangeAt Go.RowKit Go.Shelf Go.Maps
set_option linter.unusedVariables false
set_option maxRecDepth 100000

/-- a row in memory, the lengths aside -/
structure RB (B rb mb : Nat) (l : List Mg) (vi vr : Value) (ids : List Int) (kn : List Nat) (W : World) : Prop where
  box : W.heap[rb]? = some (.cells #[.map (some mb), vi, vr] 109 (0, 0))
  oi : Owns W B vi ids
  ok : Owns W B vr (nz kn)
  map : PairMap W mb l
  ne : ∀ g, vi.ownBlock = some g → vr.ownBlock ≠ some g
  bb : B ≤ rb
  bm : B ≤ mb
section
variable {B rb mb : Nat} {l : List Mg} {vi vr vi' vr' : Value} {ids ids' : List Int} {kn kn' : List Nat} {W W' : World}
theorem RS.bare (h : RS B rb mb l vi vr ids kn W) : RB B rb mb l vi vr ids kn W := ⟨h.box, h.oi, h.ok, h.map, h.ne, h.bb, h.bm⟩
theorem RB.rs (h : RB B rb mb l vi vr ids kn W) (hk : kn.length = ids.length) : RS B rb mb l vi vr ids kn W := ⟨h.box, h.oi, h.ok, hk, h.map, h.ne, h.bb, h.bm⟩
theorem RB.c1 (h : RB B rb mb l vi vr ids kn W) : W.cell? ⟨rb, 1, none⟩ = some vi := by rw [Lib.cell_of_heap h.box]; rfl
theorem RB.c2 (h : RB B rb mb l vi vr ids kn W) : W.cell? ⟨rb, 2, none⟩ = some vr := by rw [Lib.cell_of_heap h.box]; rfl
theorem RB.fz (h : RB B rb mb l vi vr ids kn W) (i : Nat) : W.frozen? ⟨rb, i, none⟩ = false := Lib.frozen_of_heap h.box i
theorem RB.rlt (h : RB B rb mb l vi vr ids kn W) : rb < W.heap.size := (Array.getElem?_eq_some_iff.1 h.box).1
theorem RB.nrb (h : RB B rb mb l vi vr ids kn W) : vr.ownBlock ≠ some rb := fun e => ow.type h.ok h.box (by decide) e.symm
theorem RB.nri (h : RB B rb mb l vi vr ids kn W) : vi.ownBlock ≠ some rb := fun e => ow.type h.oi h.box (by decide) e.symm
theorem RB.nmr (h : RB B rb mb l vi vr ids kn W) : vr.ownBlock ≠ some mb := fun e => by
  obtain ⟨es, c, hm⟩ := h.map.obj
  exact ow.kind h.ok hm rfl e.symm
theorem RB.nmi (h : RB B rb mb l vi vr ids kn W) : vi.ownBlock ≠ some mb := fun e => by
  obtain ⟨es, c, hm⟩ := h.map.obj
  exact ow.kind h.oi hm rfl e.symm
theorem RB.nbm (h : RB B rb mb l vi vr ids kn W) : rb ≠ mb := fun e => by
  obtain ⟨es, c, hm⟩ := h.map.obj
  have := h.box
  rw [e, hm] at this
  cases this
theorem RB.later (h : RB B rb mb l vi vr ids kn W) (b : Below W.heap.size W W') : RB B rb mb l vi vr ids kn W' :=
  ⟨(b.block rb h.rlt).trans h.box, ow.later h.oi b, ow.later h.ok b, h.map.keep (b.block mb h.map.lt), h.ne, h.bb, h.bm⟩
/-- the ids are written -/
theorem RB.wrote (h : RB B rb mb l vi vr ids kn W) (ho : Owns W' B vi ids') (hg : ∀ g, g < W.heap.size → vi.ownBlock ≠ some g → W'.heap[g]? = W.heap[g]?) : RB B rb mb l vi vr ids' kn W' :=
  ⟨(hg rb h.rlt h.nri).trans h.box, ho, ow.keep h.ok (fun g eg => hg g (ow.lt h.ok eg).2 (fun e => h.ne g e eg)), h.map.keep (hg mb h.map.lt h.nmi), h.ne, h.bb, h.bm⟩
theorem box_put1 {x0 x1 x2 v : Value} (h : W.heap[rb]? = some (.cells #[x0, x1, x2] 109 (0, 0))) : (W.setCell ⟨rb, 1, none⟩ v).heap[rb]? = some (.cells #[x0, v, x2] 109 (0, 0)) := by
  rw [set_heap W rb _ _ 1 _ h]; rfl
theorem box_put2 {x0 x1 x2 v : Value} (h : W.heap[rb]? = some (.cells #[x0, x1, x2] 109 (0, 0))) : (W.setCell ⟨rb, 2, none⟩ v).heap[rb]? = some (.cells #[x0, x1, v] 109 (0, 0)) := by
  rw [set_heap W rb _ _ 2 _ h]; rfl
/-- the ids are cut -/
theorem RB.cutI (h : RB B rb mb l vi vr ids kn W) (ho : Owns W' B vi' ids') (hg : W.grownBy W' vi.ownBlock) (hv : vi'.ownBlock = vi.ownBlock) : RB B rb mb l vi' vr ids' kn (W'.setCell ⟨rb, 1, none⟩ vi') := by
  have hk : ∀ g, g < W.heap.size → g ≠ rb → vi.ownBlock ≠ some g → (W'.setCell ⟨rb, 1, none⟩ vi').heap[g]? = W.heap[g]? := fun g h1 h2 h3 => by
    rw [Below.heap_setCell _ _ _ _ h2]
    exact hg.block g h1 (fun e => h3 e.symm)
  refine ⟨box_put1 ((hg.block rb h.rlt (fun e => h.nri e.symm)).trans h.box), ow.keep ho (fun g eg => Below.heap_setCell _ _ _ _ (fun e => h.nri (by rw [← hv, eg, e]))), ow.keep h.ok (fun g eg => hk g (ow.lt h.ok eg).2 (fun e => h.nrb (by rw [eg, e])) (fun e => h.ne g e eg)), h.map.keep (hk mb h.map.lt (fun e => h.nbm e.symm) h.nmi), fun g eg => h.ne g (by rw [← hv]; exact eg), h.bb, h.bm⟩
theorem RB.cutK (h : RB B rb mb l vi vr ids kn W) (ho : Owns W' B vr' (nz kn')) (hg : W.grownBy W' vr.ownBlock) (hv : vr'.ownBlock = vr.ownBlock) : RB B rb mb l vi vr' ids kn' (W'.setCell ⟨rb, 2, none⟩ vr') := by
  have hk : ∀ g, g < W.heap.size → g ≠ rb → vr.ownBlock ≠ some g → (W'.setCell ⟨rb, 2, none⟩ vr').heap[g]? = W.heap[g]? := fun g h1 h2 h3 => by
    rw [Below.heap_setCell _ _ _ _ h2]
    exact hg.block g h1 (fun e => h3 e.symm)
  refine ⟨box_put2 ((hg.block rb h.rlt (fun e => h.nrb e.symm)).trans h.box), ow.keep h.oi (fun g eg => hk g (ow.lt h.oi eg).2 (fun e => h.nri (by rw [eg, e])) (h.ne g eg)), ow.keep ho (fun g eg => Below.heap_setCell _ _ _ _ (fun e => h.nrb (by rw [← hv, eg, e]))), h.map.keep (hk mb h.map.lt (fun e => h.nbm e.symm) h.nmr), fun g eg => (by rw [hv]; exact h.ne g eg), h.bb, h.bm⟩
end
/-- the ranks are those of the ids -/
def Rk (l : List Mg) (ids : List Int) (kn : List Nat) : Prop := kn.length = ids.length ∧ ∀ i, i < ids.length → kn.getD i 0 = rk l ids i
def cut (α : Type) (k : Nat) (xs : List α) : List α := xs.take (k + 1) ++ xs.drop (k + 2)
theorem cut_join (ids : List Int) (k r : Nat) (h : k + 1 < ids.length) : (ids.set k (256 + (r : Int))).take (k + 1) ++ (ids.set k (256 + (r : Int))).drop (k + 2) = joinAt ids k r := by
  unfold joinAt
  rw [List.take_add_one, List.take_set_of_le (Nat.le_refl k), List.getElem?_set_self (by omega), List.drop_set_of_lt (by omega), List.append_assoc]
  rfl
theorem cut_get (kn : List Nat) (k i : Nat) (h : k + 1 < kn.length) : (kn.take (k + 1) ++ kn.drop (k + 2)).getD i 0 = if i ≤ k then kn.getD i 0 else kn.getD (i + 1) 0 := by
  rw [List.getD_eq_getElem?_getD]
  by_cases h1 : i ≤ k
  · rw [if_pos h1, List.getElem?_append_left (by simp; omega), List.getElem?_take_of_lt (by omega), List.getD_eq_getElem?_getD]
  · rw [if_neg h1, List.getElem?_append_right (by simp; omega), List.length_take, Nat.min_eq_left (by omega), List.getElem?_drop, List.getD_eq_getElem?_getD]
    congr 2
    omega
theorem getD_set (kn : List Nat) (k i x : Nat) (h : k < kn.length) : (kn.set k x).getD i 0 = if i = k then x else kn.getD i 0 := by
  rw [List.getD_eq_getElem?_getD, List.getD_eq_getElem?_getD]
  by_cases e : i = k
  · subst e
    rw [if_pos rfl, List.getElem?_set_self h]
    rfl
  · rw [if_neg e, List.getElem?_set_ne (fun e2 => e e2.symm)]
theorem rk_join_low {l : List Mg} {ids : List Int} {k r i : Nat} (h : k + 1 < ids.length) (hi : i + 1 < k) : rk l (joinAt ids k r) i = rk l ids i := by
  have hl := joinAt_len ids k r h
  unfold rk
  rw [if_pos (by omega), if_pos (by omega), joinAt_get ids k r i h, joinAt_get ids k r (i + 1) h, if_pos (by omega), if_pos (by omega)]
theorem rk_join_high {l : List Mg} {ids : List Int} {k r i : Nat} (h : k + 1 < ids.length) (hi : k < i) : rk l (joinAt ids k r) i = rk l ids (i + 1) := by
  have hl := joinAt_len ids k r h
  unfold rk
  by_cases h2 : i + 1 + 1 < ids.length
  · rw [if_pos (by omega), if_pos (by omega), joinAt_get ids k r i h, joinAt_get ids k r (i + 1) h, if_neg (by omega), if_neg (by omega), if_neg (by omega), if_neg (by omega)]
  · rw [if_neg (by omega), if_neg (by omega)]
theorem rk_after0 {l : List Mg} {ids : List Int} {kn : List Nat} {r : Nat} (h : 0 + 1 < ids.length) (hR : Rk l ids kn) : Rk l (joinAt ids 0 r) ((kn.take (0 + 1) ++ kn.drop (0 + 2)).set 0 (rk l (joinAt ids 0 r) 0)) := by
  have hl := joinAt_len ids 0 r h
  have hk := hR.1
  refine ⟨by simp; omega, fun i hi => ?_⟩
  rw [getD_set _ _ _ _ (by simp; omega)]
  by_cases e : i = 0
  · subst e; rw [if_pos rfl]
  · rw [if_neg e, cut_get _ _ _ (by omega), if_neg (by omega), rk_join_high h (by omega)]
    exact hR.2 (i + 1) (by omega)
theorem rk_after {l : List Mg} {ids : List Int} {kn : List Nat} {k r : Nat} (h : k + 1 + 1 < ids.length) (hR : Rk l ids kn) : Rk l (joinAt ids (k + 1) r) (((kn.take (k + 1 + 1) ++ kn.drop (k + 1 + 2)).set (k + 1) (rk l (joinAt ids (k + 1) r) (k + 1))).set k (rk l (joinAt ids (k + 1) r) k)) := by
  have hl := joinAt_len ids (k + 1) r h
  have hk := hR.1
  refine ⟨by simp; omega, fun i hi => ?_⟩
  rw [getD_set _ _ _ _ (by simp; omega)]
  by_cases e : i = k
  · subst e; rw [if_pos rfl]
  · rw [if_neg e, getD_set _ _ _ _ (by simp; omega)]
    by_cases e2 : i = k + 1
    · subst e2; rw [if_pos rfl]
    · rw [if_neg e2, cut_get _ _ _ (by omega)]
      by_cases e3 : i ≤ k + 1
      · rw [if_pos e3, rk_join_low h (by omega)]
        exact hR.2 i (by omega)
      · rw [if_neg e3, rk_join_high h (by omega)]
        exact hR.2 (i + 1) (by omega)
theorem nz_cut (kn : List Nat) (k : Nat) : (nz kn).take (k + 1) ++ (nz kn).drop (k + 2) = nz (kn.take (k + 1) ++ kn.drop (k + 2)) := by
  simp [nz, List.map_take, List.map_drop]

theorem grown_below {B : Nat} {W W' : World} {v : Value} (hg : W.grownBy W' v.ownBlock) (hB : ∀ g, v.ownBlock = some g → B ≤ g) (hs : B ≤ W.heap.size) : Below B W W' := (Below.refl B W).grown hg hs (fun k hk => hB k hk)
def JoinOut (B rb mb : Nat) (l : List Mg) (ids : List Int) (k r : Nat) (W : World) (e : Ending) (W' : World) : Prop := ∃ v vi vr kn, e = .returned v ∧ RS B rb mb l vi vr (joinAt ids k r) kn W' ∧ Rk l (joinAt ids k r) kn ∧ Below B W W'
end Go.Proofs.Ytmmlibehihknbaa.mg
