/-
  The library's Clone and Delete of ints, laid at this program; what they leave of an own row.
-/
import Derived.Test.YthcekfmodmnekaaMg
import Derived.Shelf.Slices.Clone
import Derived.Shelf.Slices.Delete
namespace Go.Proofs.Ythcekfmodmnekaa.mg
open Go.ChangeShapes Go.WideShapes Go.ChangeAt Go.RowKit Go.Shelf Go.Sort
set_option linter.unusedVariables false
set_option maxRecDepth 100000

def Owns (W : World) (B : Nat) (v : Value) (l : List Int) : Prop := W.ownsRow B 3 1 v l.length (l.map (Value.int .i64))
def ren15 : Go.Shelf.Ren := ⟨fun | 15 => 66 | n => n, fun | 22 => 23 | n => n, fun | n => n⟩
theorem lays15 : Go.Proofs.Lays2.n15 Try.prog ren15 := {
  mixed := by kernel_rfl
  f15 := Try.func66.trans (congrArg some (by kernel_rfl))
  t3 := Try.underlying3
  a3 := Try.isAgg3
  z3 := Try.sizeOf3
  v3 := Try.zeroValue3
  t4 := Try.underlying4
  a4 := Try.isAgg4
  z4 := Try.sizeOf4
  v4 := Try.zeroValue4
  t22 := Try.underlying23
  a22 := Try.isAgg23
  z22 := Try.sizeOf23
  v22 := Try.zeroValue23
  i3 := by kernel_rfl }
def ren23 : Go.Shelf.Ren := ⟨fun | 23 => 68 | n => n, fun | 22 => 23 | n => n, fun | n => n⟩
theorem lays23 : Go.Proofs.Lays2.n23 Try.prog ren23 := {
  mixed := by kernel_rfl
  f23 := Try.func68.trans (congrArg some (by kernel_rfl))
  t0 := Try.underlying0
  a0 := Try.isAgg0
  z0 := Try.sizeOf0
  v0 := Try.zeroValue0
  t3 := Try.underlying3
  a3 := Try.isAgg3
  z3 := Try.sizeOf3
  v3 := Try.zeroValue3
  t4 := Try.underlying4
  a4 := Try.isAgg4
  z4 := Try.sizeOf4
  v4 := Try.zeroValue4
  t22 := Try.underlying23
  a22 := Try.isAgg23
  z22 := Try.sizeOf23
  v22 := Try.zeroValue23
  i3 := by kernel_rfl }

theorem put_block {α : Type} [Inhabited α] (enc : α → Value) (w : World) (blk off : Nat) (d : Array α) (k : Nat) (h : k ≠ blk) : (putRow enc w blk off d).heap[k]? = w.heap[k]? := by
  unfold putRow mapBlock
  show (w.heap.modify blk _)[k]? = _
  rw [Array.getElem?_modify, if_neg (fun e => h e.symm)]
/-- a row that was written over, and what has grown beside it -/
theorem put_owns {w w' : World} {B g cap : Nat} {cur : Array Value} {l m z : List Int} {n : Nat} (hb : B ≤ g) (hg : w.heap[g]? = some (.cells cur 3 (0, 0))) (hlt : g < w.heap.size) (hlm : l.length = (m ++ z).length) (hn : l.length ≤ cap) (hc : cap ≤ maxLen) (hs : cur.size = cap * 1)
    (hw : w' = putRow (Value.int .i64) (Sort.ahead w n) g 0 (m ++ z).toArray) : Owns w' B (.slice (some ⟨g, 0, none⟩) m.length cap) m ∧ w.grownBy w' (some g) := by
  subst hw
  have hml : m.length ≤ l.length := by rw [hlm]; simp
  refine ⟨?_, ?_⟩
  · have hblk : (putRow (Value.int .i64) (Sort.ahead w n) g 0 (m ++ z).toArray).heap[g]? = some (.cells (putCells (Value.int .i64) 0 (m ++ z).toArray cur) 3 (0, 0)) := by
      unfold putRow mapBlock
      show (w.heap.modify g _)[g]? = _
      rw [Array.getElem?_modify, if_pos rfl, hg]
      rfl
    refine ⟨by simp, .inr ⟨g, cap, _, rfl, hb, hblk, by omega, hc, ?_, ?_⟩⟩
    · unfold putCells; simpa using hs
    · apply List.ext_getElem?
      intro i
      rw [List.getElem?_take]
      by_cases hi : i < m.length * 1
      · rw [if_pos hi, Array.getElem?_toList]
        unfold putCells
        rw [Array.getElem?_mapIdx]
        have hi2 : i < cur.size := by omega
        have hi3 : i < (m ++ z).length := by simp; omega
        rw [Array.getElem?_eq_getElem hi2, Option.map_some, if_pos ⟨by omega, by simpa using hi3⟩, List.getElem?_map, List.getElem?_eq_getElem (by omega)]
        congr 2
        rw [getElem!_pos _ _ (by simpa using hi3)]
        simp
        rw [List.getElem_append_left (by omega)]
      · rw [if_neg hi, List.getElem?_eq_none (by simp; omega)]
  · refine ⟨rfl, rfl, rfl, ?_, fun k hk hne => ?_⟩
    · simp [Sort.ahead]
    · rw [put_block _ _ _ _ _ _ (fun e => hne (by rw [e]))]
      rfl
theorem holds_of {w : World} {B g cap : Nat} {cur : Array Value} {l : List Int} (ho : Owns w B (.slice (some ⟨g, 0, none⟩) l.length cap) l) (hg : w.heap[g]? = some (.cells cur 3 (0, 0))) : Holds (Value.int .i64) w g 0 l.toArray := fun j hj => by
  have hj2 : j < l.length := by simpa using hj
  refine ⟨?_, ?_⟩
  · rw [Nat.zero_add, World.ownsRow.cellAt ho j (by omega), List.getElem?_map, List.getElem?_eq_getElem hj2, getElem!_pos _ j hj]
    simp
  · exact Lib.frozen_of_heap hg _


theorem del_any (l : List Int) (i : Nat) (hi : i + 1 < l.length) (hl : l.length ≤ 1000000) (B g cap : Nat) (w : World) (ho : Owns w B (.slice (some ⟨g, 0, none⟩) l.length cap) l) : Calls Try.prog 68 #[.slice (some ⟨g, 0, none⟩) l.length cap, .int .i64 ((i + 1 : Nat) : Int), .int .i64 ((i + 2 : Nat) : Int)] w fun e w' => e = .returned (.slice (some ⟨g, 0, none⟩) (l.length - 1) cap) ∧ Owns w' B (.slice (some ⟨g, 0, none⟩) (l.length - 1) cap) (l.take (i + 1) ++ l.drop (i + 2)) ∧ w.grownBy w' (some g) := by
  have ho0 := ho
  rcases ho.2 with ⟨e, h0⟩ | ⟨g', cap', cur, e, hb, hg, hn, hc, hs, ht⟩
  · cases e
  · obtain ⟨rfl, rfl⟩ : g = g' ∧ cap = cap' := by simpa using e
    have hlt := (Array.getElem?_eq_some_iff.1 hg).1
    refine (Any.slices_Delete_int lays23 g 0 cap (i + 1) (i + 2) l w (holds_of ho0 hg) hn (by unfold maxLen at hc; omega) (by omega) (by omega)).mono ?_
    rintro e w' ⟨rfl, n, rfl⟩
    have hlen : (l.take (i + 1) ++ l.drop (i + 2)).length = l.length - 1 := by simp; omega
    have := put_owns (z := List.replicate (i + 2 - (i + 1)) 0) (l := l) (m := l.take (i + 1) ++ l.drop (i + 2)) (n := n) hb hg hlt (by rw [List.length_append, hlen, List.length_replicate]; omega) hn hc hs rfl
    rw [hlen] at this
    exact ⟨by rw [show l.length - (i + 2 - (i + 1)) = l.length - 1 by omega], this.1, this.2⟩
theorem Owns.ints {W : World} {B : Nat} {v : Value} {l : List Int} (h : Owns W B v l) : IntsV W v l := RowV.own h
theorem info3 : (Try.prog.info? 3).map (fun i => (i.zero, i.size, i.bytes)) = some (some (.int .i64 0), 1, 8) := by kernel_rfl
set_option maxHeartbeats 2000000 in
set_option maxRecDepth 100000 in
theorem clone_empty (a : Addr) (c : Nat) (w : World) : Calls Try.prog 66 #[.slice (some a) 0 c] w fun e w' => ∃ v', e = .returned v' ∧ Owns w' w.heap.size v' [] ∧ Below w.heap.size w w' := by
  obtain ⟨i0, hi, hz0, hz1, hz2⟩ := info_parts info3
  have q22 : ∀ (w : World) (a : Option Addr) (n c n' c' : Nat), (binOp .eql 23 (.slice a n c) (.slice none n' c')).run Try.prog w = .ok (.bool a.isNone) w := fun w a n c n' c' => Lib.run_eql_slice_nil w _ _ a n c n' c' Try.underlying23
  go_enter Try.func66, Try.ntmps66
  go_wp2_with (at_builtin; refine wpList_append_own _ rfl _ _ 23 rfl w.heap.size 3 i0 (.int .i64 0) 1 8 Try.underlying23 hi hz0 hz1 hz2 rfl (by decide) _ _ _ rfl (World.ownsRow_made w #[] 0 (Nat.le_refl _) (Nat.zero_le _) rfl) a 0 c [] rfl ?qc1 ?qc2 ?qc3 ?qc4 ?qc5 ?qc6 ?_)
  case qc1 => simp
  case qc2 => intro j u hj; simp at hj
  case qc3 => intro u hu; simp at hu
  case qc4 => unfold maxLen; omega
  case qc5 => omega
  case qc6 => simp
  intro v' w1 hown hgrow hnil
  go_wp2
  go_ret
  refine ⟨v', rfl, by simpa [Owns] using hown, ?_⟩
  exact ((Below.refl _ w).alloc (Nat.le_refl _) _).grown hgrow (by simp) (by intro k hk; simp [Value.ownBlock] at hk; omega)
theorem clone_ints (l : List Int) (hl : l.length ≤ 1000000) (v : Value) (w : World) (h : IntsV w v l) : Calls Try.prog 66 #[v] w fun e w' => ∃ v', e = .returned v' ∧ Owns w' w.heap.size v' l ∧ Below w.heap.size w w' := by
  obtain ⟨o, cap, rfl, h⟩ := h
  cases o with
  | none =>
    have e : l = [] := by
      cases l with
      | nil => rfl
      | cons x l =>
        obtain ⟨b, off, e, _⟩ := h.lie 0 (by simp)
        cases e
    subst e
    refine (Any.slices_Clone_int_nil lays15 0 cap w).mono ?_
    rintro e w' ⟨rfl, rfl⟩
    exact ⟨_, rfl, ow.nil _ _ _ _, Below.refl _ _⟩
  | some a =>
    obtain ⟨b, off, spot⟩ := a
    by_cases h0 : l = []
    · subst h0
      exact clone_empty ⟨b, off, spot⟩ cap w
    · have hp : 0 < l.length := List.length_pos_iff.2 h0
      obtain ⟨b2, off2, e, _⟩ := h.lie 0 hp
      obtain ⟨rfl, rfl, rfl⟩ : b = b2 ∧ off = off2 ∧ spot = none := by simpa using e
      refine (Any.slices_Clone_int lays15 b off l.length cap l w (Nat.le_refl _) (by omega) (fun j hj => ?_)).mono ?_
      · obtain ⟨b3, off3, e, _, hc⟩ := h.lie j hj
        obtain ⟨rfl, rfl⟩ : b = b3 ∧ off = off3 := by simpa using e
        rw [hc, List.getD_eq_getElem?_getD, List.getElem?_eq_getElem hj]
        rfl
      · rintro e w' ⟨v', rfl, h1, h2, h3⟩
        rw [List.take_of_length_le (Nat.le_refl _)] at h1
        exact ⟨v', rfl, h1, h3⟩
end Go.Proofs.Ythcekfmodmnekaa.mg
