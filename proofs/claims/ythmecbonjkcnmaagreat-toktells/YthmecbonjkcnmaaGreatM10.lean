/-
  Texts put together: The library's sort, reverse and compact of ints, laid at this program; what they leave of an own row. Contracts over this program: how long the rules' Froms are, the greatest first (rule.lengths). Contracts over this program: rule.Right, rule.newFinder. Over this program: a region that draws its order, walked by hand: loads, moves and assignments are taken first, calls come up one behind the other.
-/
import Derived.Shelf.Sort.Plain
import Derived.Shelf.Slices.In.SortNone
import Derived.Shelf.Slices.Reverse
import Derived.Shelf.Slices.CompactI
import Derived.Ground.NamesProg
import Derived.Test.YthmecbonjkcnmaaGreatM01
import Derived.Test.YthmecbonjkcnmaaGreatM09
import Derived.Laws.ResultCell
import Derived.Laws.Tables
import Derived.OrdersHeld
namespace Go.Proofs.YthmecbonjkcnmaaGreat.ru
open Go.RowKit Go.Shelf Go.Sort
set_option linter.unusedVariables false

def Owns (W : World) (B : Nat) (v : Value) (l : List Int) : Prop := W.ownsRow B 3 1 v l.length (l.map (Value.int .i64))

def ren : Go.Shelf.Ren := ⟨fun | 189 => 85 | 125 => 108 | 257 => 107 | 128 => 128 | 129 => 129 | 294 => 119 | 295 => 120 | 296 => 121 | 297 => 122 | 298 => 123 | 299 => 124 | 216 => 125 | 300 => 126 | 301 => 127 | 328 => 141 | 329 => 142 | 330 => 143 | 331 => 144 | 332 => 145 | 215 => 146 | 343 => 155 | n => n, fun | 28 => 32 | 3 => 3 | 46 => 178 | 0 => 0 | 51 => 119 | 53 => 23 | 4 => 4 | 183 => 186 | 182 => 185 | 131 => 146 | 5 => 5 | 9 => 9 | 218 => 202 | 222 => 153 | 228 => 211 | 229 => 212 | n => n, fun | n => n⟩
theorem lays189 : Go.Proofs.Lays.n189 Tryz.prog ren := {
  mixed := by kernel_rfl
  f125 := Tryz.func108.trans (congrArg some (by kernel_rfl))
  f128 := Tryz.func128.trans (congrArg some (by kernel_rfl))
  f129 := Tryz.func129.trans (congrArg some (by kernel_rfl))
  f189 := Tryz.func85.trans (congrArg some (by kernel_rfl))
  f215 := Tryz.func146.trans (congrArg some (by kernel_rfl))
  f216 := Tryz.func125.trans (congrArg some (by kernel_rfl))
  f257 := Tryz.func107.trans (congrArg some (by kernel_rfl))
  f294 := Tryz.func119.trans (congrArg some (by kernel_rfl))
  f295 := Tryz.func120.trans (congrArg some (by kernel_rfl))
  f296 := Tryz.func121.trans (congrArg some (by kernel_rfl))
  f297 := Tryz.func122.trans (congrArg some (by kernel_rfl))
  f298 := Tryz.func123.trans (congrArg some (by kernel_rfl))
  f299 := Tryz.func124.trans (congrArg some (by kernel_rfl))
  f300 := Tryz.func126.trans (congrArg some (by kernel_rfl))
  f301 := Tryz.func127.trans (congrArg some (by kernel_rfl))
  f328 := Tryz.func141.trans (congrArg some (by kernel_rfl))
  f329 := Tryz.func142.trans (congrArg some (by kernel_rfl))
  f330 := Tryz.func143.trans (congrArg some (by kernel_rfl))
  f331 := Tryz.func144.trans (congrArg some (by kernel_rfl))
  f332 := Tryz.func145.trans (congrArg some (by kernel_rfl))
  f343 := Tryz.func155.trans (congrArg some (by kernel_rfl))
  t0 := Tryz.underlying0
  a0 := Tryz.isAgg0
  z0 := Tryz.sizeOf0
  v0 := Tryz.zeroValue0
  t3 := Tryz.underlying3
  a3 := Tryz.isAgg3
  z3 := Tryz.sizeOf3
  v3 := Tryz.zeroValue3
  t4 := Tryz.underlying4
  a4 := Tryz.isAgg4
  z4 := Tryz.sizeOf4
  v4 := Tryz.zeroValue4
  t5 := Tryz.underlying5
  a5 := Tryz.isAgg5
  z5 := Tryz.sizeOf5
  v5 := Tryz.zeroValue5
  t9 := Tryz.underlying9
  a9 := Tryz.isAgg9
  z9 := Tryz.sizeOf9
  v9 := Tryz.zeroValue9
  t28 := Tryz.underlying32
  a28 := Tryz.isAgg32
  z28 := Tryz.sizeOf32
  v28 := Tryz.zeroValue32
  t46 := Tryz.underlying178
  a46 := Tryz.isAgg178
  z46 := Tryz.sizeOf178
  v46 := Tryz.zeroValue178
  t51 := Tryz.underlying119
  a51 := Tryz.isAgg119
  z51 := Tryz.sizeOf119
  v51 := Tryz.zeroValue119
  t53 := Tryz.underlying23
  a53 := Tryz.isAgg23
  z53 := Tryz.sizeOf23
  v53 := Tryz.zeroValue23
  t131 := Tryz.underlying146
  a131 := Tryz.isAgg146
  z131 := Tryz.sizeOf146
  v131 := Tryz.zeroValue146
  t182 := Tryz.underlying185
  a182 := Tryz.isAgg185
  z182 := Tryz.sizeOf185
  v182 := Tryz.zeroValue185
  t183 := Tryz.underlying186
  a183 := Tryz.isAgg186
  z183 := Tryz.sizeOf186
  v183 := Tryz.zeroValue186
  t218 := Tryz.underlying202
  a218 := Tryz.isAgg202
  z218 := Tryz.sizeOf202
  v218 := Tryz.zeroValue202
  t222 := Tryz.underlying153
  a222 := Tryz.isAgg153
  z222 := Tryz.sizeOf153
  v222 := Tryz.zeroValue153
  t228 := Tryz.underlying211
  a228 := Tryz.isAgg211
  z228 := Tryz.sizeOf211
  v228 := Tryz.zeroValue211
  t229 := Tryz.underlying212
  a229 := Tryz.isAgg212
  z229 := Tryz.sizeOf212
  v229 := Tryz.zeroValue212 }

def ren2 : Go.Shelf.Ren := ⟨fun | 112 => 86 | n => n, fun | 28 => 32 | n => n, fun | n => n⟩
theorem lays112 : Go.Proofs.Lays.n112 Tryz.prog ren2 := {
  mixed := by kernel_rfl
  f112 := Tryz.func86.trans (congrArg some (by kernel_rfl))
  t0 := Tryz.underlying0
  a0 := Tryz.isAgg0
  z0 := Tryz.sizeOf0
  v0 := Tryz.zeroValue0
  t3 := Tryz.underlying3
  a3 := Tryz.isAgg3
  z3 := Tryz.sizeOf3
  v3 := Tryz.zeroValue3
  t4 := Tryz.underlying4
  a4 := Tryz.isAgg4
  z4 := Tryz.sizeOf4
  v4 := Tryz.zeroValue4
  t28 := Tryz.underlying32
  a28 := Tryz.isAgg32
  z28 := Tryz.sizeOf32
  v28 := Tryz.zeroValue32 }
def ren3 : Go.Shelf.Ren := ⟨fun | 20 => 87 | n => n, fun | 22 => 32 | n => n, fun | n => n⟩
theorem lays20 : Go.Proofs.Lays2.n20 Tryz.prog ren3 := {
  mixed := by kernel_rfl
  i3 := by kernel_rfl
  f20 := Tryz.func87.trans (congrArg some (by kernel_rfl))
  t0 := Tryz.underlying0
  a0 := Tryz.isAgg0
  z0 := Tryz.sizeOf0
  v0 := Tryz.zeroValue0
  t3 := Tryz.underlying3
  a3 := Tryz.isAgg3
  z3 := Tryz.sizeOf3
  v3 := Tryz.zeroValue3
  t4 := Tryz.underlying4
  a4 := Tryz.isAgg4
  z4 := Tryz.sizeOf4
  v4 := Tryz.zeroValue4
  t22 := Tryz.underlying32
  a22 := Tryz.isAgg32
  z22 := Tryz.sizeOf32
  v22 := Tryz.zeroValue32 }

theorem put_block {α : Type} [Inhabited α] (enc : α → Value) (w : World) (blk off : Nat) (d : Array α) (k : Nat) (h : k ≠ blk) : (putRow enc w blk off d).heap[k]? = w.heap[k]? := by
  unfold putRow mapBlock
  show (w.heap.modify blk _)[k]? = _
  rw [Array.getElem?_modify, if_neg (fun e => h e.symm)]
theorem grow_block (w : World) (os : Array Obj) (k : Nat) (h : k < w.heap.size) : (grow w os).heap[k]? = w.heap[k]? := by
  unfold grow
  rw [Array.getElem?_append_left h]
/-- a row that was written over, and what has grown beside it -/
theorem put_owns {w w' : World} {B g cap : Nat} {cur : Array Value} {l m z : List Int} {n : Nat} (hb : B ≤ g) (hg : w.heap[g]? = some (.cells cur 3 (0, 0))) (hlt : g < w.heap.size) (hlm : l.length = (m ++ z).length) (hn : l.length ≤ cap) (hc : cap ≤ maxLen) (hs : cur.size = cap * 1)
    (os : Array Obj) (hw : w' = grow (putRow (Value.int .i64) (Sort.ahead w n) g 0 (m ++ z).toArray) os) : Owns w' B (.slice (some ⟨g, 0, none⟩) m.length cap) m ∧ w.grownBy w' (some g) := by
  subst hw
  have hml : m.length ≤ l.length := by rw [hlm]; simp
  refine ⟨?_, ?_⟩
  · have hblk : (grow (putRow (Value.int .i64) (Sort.ahead w n) g 0 (m ++ z).toArray) os).heap[g]? = some (.cells (putCells (Value.int .i64) 0 (m ++ z).toArray cur) 3 (0, 0)) := by
      rw [grow_block _ _ _ (by simpa [Sort.ahead] using hlt)]
      unfold putRow mapBlock
      show (w.heap.modify g _)[g]? = _
      rw [Array.getElem?_modify, if_pos rfl, hg]
      rfl
    refine ⟨by simp, .inr ⟨g, cap, _, rfl, hb, hblk, by omega, hc, ?_, ?_⟩⟩
    · unfold putCells; simpa using hs
    · apply List.ext_getElem?
      intro i
      rw [List.getElem?_take]
      by_cases hi : i < m.length * 1
      · rw [if_pos hi, Array.getElem?_toList]
        unfold putCells
        rw [Array.getElem?_mapIdx]
        have hi2 : i < cur.size := by omega
        have hi3 : i < (m ++ z).length := by simp; omega
        rw [Array.getElem?_eq_getElem hi2, Option.map_some, if_pos ⟨by omega, by simpa using hi3⟩, List.getElem?_map, List.getElem?_eq_getElem (by omega)]
        congr 2
        rw [getElem!_pos _ _ (by simpa using hi3)]
        simp
        rw [List.getElem_append_left (by omega)]
      · rw [if_neg hi, List.getElem?_eq_none (by simp; omega)]
  · refine ⟨rfl, rfl, rfl, ?_, fun k hk hne => ?_⟩
    · show _ ≤ (_ ++ os).size
      simp [Sort.ahead]
    · rw [grow_block _ _ _ (by simpa [Sort.ahead] using hk), put_block _ _ _ _ _ _ (fun e => hne (by rw [e]))]
      rfl
theorem holds_of {w : World} {B g cap : Nat} {cur : Array Value} {l : List Int} (ho : Owns w B (.slice (some ⟨g, 0, none⟩) l.length cap) l) (hg : w.heap[g]? = some (.cells cur 3 (0, 0))) : Holds (Value.int .i64) w g 0 l.toArray := fun j hj => by
  have hj2 : j < l.length := by simpa using hj
  refine ⟨?_, ?_⟩
  · rw [Nat.zero_add, World.ownsRow.cellAt ho j (by omega), List.getElem?_map, List.getElem?_eq_getElem hj2, getElem!_pos _ j hj]
    simp
  · exact Lib.frozen_of_heap hg _

def sorted (l : List Int) : List Int := l.mergeSort fun x y => decide (x ≤ y)
def SortIs (l : List Int) : Prop := ∀ B v w, Owns w B v l → Calls Tryz.prog 85 #[v] w fun e w' => (∃ r, e = .returned r) ∧ Owns w' B v (sorted l) ∧ w.grownBy w' v.ownBlock
theorem sort_any (l : List Int) (hl : l.length ≤ 1000000) : SortIs l := by
  intro B v w ho
  have ho0 := ho
  rcases ho.2 with ⟨rfl, h0⟩ | ⟨g, cap, cur, rfl, hb, hg, hn, hc, hs, ht⟩
  · have e0 : l = [] := List.length_eq_zero_iff.1 h0
    subst e0
    refine (Any.slices_Sort_int_none lays189 none 0 w).mono ?_
    rintro e w' ⟨rfl, rfl⟩
    exact ⟨⟨_, rfl⟩, by unfold sorted; simpa using ho0, ⟨rfl, rfl, rfl, Nat.le_refl _, fun _ _ _ => rfl⟩⟩
  · have hlt := (Array.getElem?_eq_some_iff.1 hg).1
    refine (Any.slices_Sort_int lays189 g 0 cap l w (holds_of ho0 hg) hlt (by omega)).mono ?_
    rintro e w' ⟨rfl, n, os, rfl⟩
    have hls : (sorted l).length = l.length := List.length_mergeSort l
    have := put_owns (z := []) (l := l) (m := sorted l) (n := n) hb hg hlt (by simp [hls]) hn hc hs os (by rw [List.append_nil])
    rw [hls] at this
    exact ⟨⟨_, rfl⟩, this.1, this.2⟩
def RevIs (l : List Int) : Prop := ∀ B v w, Owns w B v l → Calls Tryz.prog 86 #[v] w fun e w' => (∃ r, e = .returned r) ∧ Owns w' B v l.reverse ∧ w.grownBy w' v.ownBlock
theorem grow_nil (w : World) : grow w #[] = w := by unfold grow; simp
theorem rev_any (l : List Int) (hl : l.length ≤ 1000000) : RevIs l := by
  intro B v w ho
  have ho0 := ho
  rcases ho.2 with ⟨rfl, h0⟩ | ⟨g, cap, cur, rfl, hb, hg, hn, hc, hs, ht⟩
  · have e0 : l = [] := List.length_eq_zero_iff.1 h0
    subst e0
    refine (Any.slices_Reverse_int_empty lays112 none 0 w).mono ?_
    rintro e w' ⟨rfl, rfl⟩
    exact ⟨⟨_, rfl⟩, by simpa using ho0, ⟨rfl, rfl, rfl, Nat.le_refl _, fun _ _ _ => rfl⟩⟩
  · have hlt := (Array.getElem?_eq_some_iff.1 hg).1
    refine (Any.slices_Reverse_int lays112 g 0 cap l w (holds_of ho0 hg) (by omega)).mono ?_
    rintro e w' ⟨rfl, n, rfl⟩
    have := put_owns (z := []) (l := l) (m := l.reverse) (n := n) hb hg hlt (by simp) hn hc hs #[] (by rw [List.append_nil, grow_nil])
    rw [List.length_reverse] at this
    exact ⟨⟨_, rfl⟩, this.1, this.2⟩
def CmpIs (l : List Int) : Prop := ∀ B v w, Owns w B v l → Calls Tryz.prog 87 #[v] w fun e w' => ∃ v', e = .returned v' ∧ Owns w' B v' (Lib.compact l) ∧ w.grownBy w' v.ownBlock
theorem compact_len (l : List Int) : (Lib.compact l).length ≤ l.length := by
  unfold Lib.compact Lib.compactUpTo
  rw [List.length_map]
  exact Nat.le_trans (List.length_filter_le _ _) (by simp)
theorem cmp_any (l : List Int) (hl : l.length ≤ 1000000) : CmpIs l := by
  intro B v w ho
  have ho0 := ho
  rcases ho.2 with ⟨rfl, h0⟩ | ⟨g, cap, cur, rfl, hb, hg, hn, hc, hs, ht⟩
  · have e0 : l = [] := List.length_eq_zero_iff.1 h0
    subst e0
    refine (Any.slices_Compact_int_empty lays20 none 0 w).mono ?_
    rintro e w' ⟨rfl, rfl⟩
    exact ⟨_, rfl, ho0, ⟨rfl, rfl, rfl, Nat.le_refl _, fun _ _ _ => rfl⟩⟩
  · have hlt := (Array.getElem?_eq_some_iff.1 hg).1
    refine (Any.slices_Compact_int lays20 g 0 cap l w (holds_of ho0 hg) (by omega) hn).mono ?_
    rintro e w' ⟨rfl, n, rfl⟩
    have hcl := compact_len l
    have := put_owns (z := List.replicate (l.length - (Lib.compact l).length) 0) (l := l) (m := Lib.compact l) (n := n) hb hg hlt (by simp; omega) hn hc hs #[] (by rw [grow_nil])
    exact ⟨_, rfl, this.1, this.2⟩
end Go.Proofs.YthmecbonjkcnmaaGreat.ru

namespace Go.Proofs.YthmecbonjkcnmaaGreat.ru
open Go.ChangeShapes Go.WideShapes Go.ChangeAt Go.RowKit
set_option linter.unusedVariables false

theorem compact_sub (l : List Int) : (Lib.compact l).Sublist l := by
  unfold Lib.compact Lib.compactUpTo
  have h : ((List.range l.length).filter (Lib.keeps l.toArray)).Sublist (List.range l.length) := List.filter_sublist
  have h2 := h.map (fun i => l.toArray[i]!)
  have e : (List.range l.length).map (fun i => l.toArray[i]!) = l := by
    apply List.ext_getElem?
    intro i
    rw [List.getElem?_map]
    by_cases hi : i < l.length
    · rw [List.getElem?_range hi, List.getElem?_eq_getElem hi, Option.map_some, getElem!_pos _ _ (by simpa using hi)]
      simp
    · rw [List.getElem?_eq_none (by simp; omega), List.getElem?_eq_none (by omega)]
      rfl
  rw [e] at h2
  exact h2
theorem compact_mem (l : List Int) : ∀ j, j < l.length → l.toArray[j]! ∈ Lib.compact l := by
  intro j
  induction j with
  | zero =>
    intro hj
    unfold Lib.compact Lib.compactUpTo
    exact List.mem_map.2 ⟨0, List.mem_filter.2 ⟨List.mem_range.2 hj, by simp [Lib.keeps]⟩, rfl⟩
  | succ j ih =>
    intro hj
    by_cases hk : Lib.keeps l.toArray (j + 1) = true
    · unfold Lib.compact Lib.compactUpTo
      exact List.mem_map.2 ⟨j + 1, List.mem_filter.2 ⟨List.mem_range.2 hj, hk⟩, rfl⟩
    · unfold Lib.keeps at hk
      simp only [decide_eq_true_eq, not_or] at hk
      have e := Classical.not_not.1 hk.2
      rw [e, Nat.add_sub_cancel]
      exact ih (by omega)
theorem compact_iff (l : List Int) (n : Int) : n ∈ Lib.compact l ↔ n ∈ l := by
  refine ⟨fun h => (compact_sub l).subset h, fun h => ?_⟩
  obtain ⟨j, hj, rfl⟩ := List.mem_iff_getElem.1 h
  have := compact_mem l j hj
  rw [getElem!_pos _ _ (by simpa using hj)] at this
  simpa using this

def lenL (l : List Ru) : List Int := l.map fun r => (r.fr.size : Int)
def lensOf (l : List Ru) : List Int := Lib.compact (sorted (lenL l)).reverse
theorem lens_mem (l : List Ru) (n : Int) : n ∈ lensOf l ↔ ∃ r ∈ l, (r.fr.size : Int) = n := by
  unfold lensOf sorted lenL
  rw [compact_iff, List.mem_reverse, (List.mergeSort_perm _ _).mem_iff, List.mem_map]
theorem lens_down (l : List Ru) : (lensOf l).Pairwise (fun a b => b ≤ a) := by
  unfold lensOf
  refine List.Pairwise.sublist (compact_sub _) ?_
  rw [List.pairwise_reverse]
  have h1 : (sorted (lenL l)).Pairwise (fun a b => decide (a ≤ b) = true) := List.pairwise_mergeSort (le := fun a b => decide (a ≤ b)) (fun a b c h1 h2 => by simp at *; omega) (fun a b => by simp; omega) _
  exact h1.imp (fun h => by simpa using h)
theorem lens_length (l : List Ru) : (lensOf l).length ≤ l.length := by
  unfold lensOf
  refine Nat.le_trans (compact_len _) ?_
  unfold sorted lenL
  simp [List.length_mergeSort]
theorem lenL_take (l : List Ru) (i : Nat) (h : i < l.length) : lenL (l.take (i + 1)) = lenL (l.take i) ++ [((nth l i).fr.size : Int)] := by
  rw [take_nth l i h]
  simp [lenL]

theorem info3 : (Tryz.prog.info? 3).map (fun i => (i.zero, i.size, i.bytes)) = some (some (.int .i64 0), 1, 8) := by kernel_rfl
theorem Owns.lt {W : World} {B : Nat} {v : Value} {l : List Int} (h : Owns W B v l) : ∀ k, v.ownBlock = some k → B ≤ k := fun k hk => (ow.lt h hk).1

def LensIs (l : List Ru) : Prop := ∀ v w, Rus w v l → Calls Tryz.prog 64 #[v] w fun e w' => ∃ v', e = .returned v' ∧ Owns w' w.heap.size v' (lensOf l) ∧ Below w.heap.size w w'

set_option maxHeartbeats 2000000 in
set_option maxRecDepth 100000 in
theorem lens_any (l : List Ru) (hl64 : l.length ≤ 64) : LensIs l := by
  intro v w hv
  have h33 := sort_any (lenL l) (by unfold lenL; simp; omega)
  have h34 := rev_any (sorted (lenL l)) (by unfold sorted lenL; simp [List.length_mergeSort]; omega)
  have h35 := cmp_any (sorted (lenL l)).reverse (by unfold sorted lenL; simp [List.length_mergeSort]; omega)
  have HE := (show Hid (Lib.compact (sorted (lenL l)).reverse = lensOf l) from rfl)
  unfold CmpIs at h35
  rw [HE.out] at h35
  generalize lensOf l = LO at *
  unfold SortIs at h33
  unfold RevIs at h34
  obtain ⟨L0, HL0⟩ : ∃ L0, Hid (L0 = lenL l) := ⟨_, rfl⟩
  clear HE
  rw [← HL0.out] at h33 h34 h35
  generalize sorted L0 = S1 at *
  generalize S1.reverse = S2 at *
  rcases hv with ⟨rfl, a, cap, rfl⟩ | ⟨b, off, cap, rfl, hl, hm, hlt, hc⟩
  · go_enter Tryz.func64, Tryz.ntmps64
    go_wp2
    go_loopw [3, 8] (fun u x wr => u = .slice none 0 0 ∧ x = .int .i64 0 ∧ wr = w) (fun _ _ _ => 0)
    case atStart => exact ⟨rfl, rfl, rfl⟩
    case round =>
      obtain ⟨rfl, rfl, rfl⟩ := hrel
      have e0 : L0 = [] := HL0.out
      have c33 := h33 wr.heap.size (.slice none 0 0) wr (by rw [e0]; exact World.ownsRow_nil _ _ _ _)
      clear h33 HL0 e0
      go_wp2_with (first | (go_at_call 85; refine c33.mono ?_; rintro e w1 ⟨⟨r, rfl⟩, o1, g1⟩; have c34 := h34 _ _ _ o1; have b1 := (Below.refl wr.heap.size wr).grown g1 (Nat.le_refl _) (by simp [Value.ownBlock])) | (go_at_call 86; refine c34.mono ?_; rintro e w2 ⟨⟨r2, rfl⟩, o2, g2⟩; have c35 := h35 _ _ _ o2; have b2 := b1.grown g2 b1.size (by simp [Value.ownBlock])) | (go_at_call 87; refine c35.mono ?_; rintro e w3 ⟨v3, rfl, o3, g3⟩; have b3 := b2.grown g3 b2.size (by simp [Value.ownBlock])))
      go_ret
      exact ⟨_, rfl, o3, b3⟩
  · go_enter Tryz.func64, Tryz.ntmps64
    go_wp2
    go_loopw [3, 8] (fun u x wr => ∃ (i : Nat), x = .int .i64 i ∧ i ≤ l.length ∧ Owns wr w.heap.size u (lenL (l.take i)) ∧ Below w.heap.size w wr) (fun _ x _ => l.length - (intOf x).toNat)
    case atStart => exact ⟨0, rfl, by omega, World.ownsRow_nil _ _ _ _, Below.refl _ _⟩
    case round =>
      obtain ⟨i, rfl, hi, hO, hB⟩ := hrel
      by_cases hend : i < l.length
      · obtain ⟨hc1, hc2⟩ := hc i hend
        rw [← hB.cell (p := ⟨b, off + i * 2, none⟩) hlt] at hc1
        rw [← hB.cell (p := ⟨b, off + i * 2 + 1, none⟩) hlt] at hc2
        have hlt2 : (lenL (l.take i)).length = i := by unfold lenL; simp; omega
        have HN := (show Hid (∀ W v, W.ownsRow w.heap.size 3 1 v (i + 1) ((lenL (l.take i)).map (Value.int .i64) ++ [.int .i64 ((nth l i).fr.size : Int)]) → Owns W w.heap.size v (lenL (l.take (i + 1)))) from fun W v h => by
          unfold Owns
          rw [lenL_take l i hend, List.map_append, List.length_append, hlt2]
          exact h)
        generalize nth l i = r at *
        have hO1 : (((wr.alloc (.cells #[.string r.fr, .string r.to] 80)).alloc (.cells #[.int .i64 (r.fr.size : Int)] 3))).ownsRow w.heap.size 3 1 u3 i ((lenL (l.take i)).map (Value.int .i64)) := by
          have := ow.later (ow.later hO ((Below.refl _ _).alloc (Nat.le_refl _) (.cells #[.string r.fr, .string r.to] 80))) ((Below.refl _ _).alloc (Nat.le_refl _) (.cells #[.int .i64 (r.fr.size : Int)] 3))
          rw [hlt2] at this
          exact this
        have hB1 : Below w.heap.size w ((wr.alloc (.cells #[.string r.fr, .string r.to] 80)).alloc (.cells #[.int .i64 (r.fr.size : Int)] 3)) := (hB.alloc hB.size _).alloc (by simp; have := hB.size; omega) _
        have hOb : ∀ k, u3.ownBlock = some k → w.heap.size ≤ k := hO.lt
        have hnew : ∀ j u, [Value.int .i64 (r.fr.size : Int)][j]? = some u → ((wr.alloc (.cells #[.string r.fr, .string r.to] 80)).alloc (.cells #[.int .i64 (r.fr.size : Int)] 3)).cell? ((⟨wr.heap.size + 1, 0, none⟩ : Addr).add j) = some u := by
          have := ow.new1 (wr.alloc (.cells #[.string r.fr, .string r.to] 80)) (.int .i64 (r.fr.size : Int)) 3
          rw [World.size_alloc] at this
          exact this
        have HNW := (show Hid _ from hnew)
        have HO1 := (show Hid _ from hO1)
        have hsz1 := hB1.size
        obtain ⟨og, oc, hu3, hoc1, hoc2⟩ := ow.form hO1
        subst hu3
        clear hc hO hB hnew hO1
        go_wp2_with (at_builtin; refine ow.wpList_append (by rfl) (.tmp 12) (.tmp 16) 32 (by rfl) 3 (.int .i64 0) 1 8 Tryz.underlying32 info3 (by rfl) (by decide) (by decide) w.heap.size (.slice og i oc) i _ (wr.heap.size + 1) [.int .i64 (r.fr.size : Int)] (by rfl) (by rfl) (by exact HO1.out) (by rfl) (by exact HNW.out) (by exact ow.one1 _ rfl) (by omega) (by exact hsz1) ?_; intro g' cap' w4 o4 g4 _; have b4 := hB1.grown g4 hB1.size hOb)
        go_roundw
        case rel => exact ⟨i + 1, by go_num, by omega, HN.out _ _ o4, b4⟩
        case measure => simp [intOf]; omega
      · have he : i = l.length := by omega
        subst he
        rw [List.take_length, ← HL0.out] at hO
        have c33 := h33 _ _ _ hO
        have hOb : ∀ k, u3.ownBlock = some k → w.heap.size ≤ k := hO.lt
        clear hc
        go_wp2_with (first | (go_at_call 85; refine c33.mono ?_; rintro e w1 ⟨⟨r, rfl⟩, o1, g1⟩; have c34 := h34 _ _ _ o1; have b1 := hB.grown g1 hB.size hOb) | (go_at_call 86; refine c34.mono ?_; rintro e w2 ⟨⟨r2, rfl⟩, o2, g2⟩; have c35 := h35 _ _ _ o2; have b2 := b1.grown g2 b1.size hOb) | (go_at_call 87; refine c35.mono ?_; rintro e w3 ⟨v3, rfl, o3, g3⟩; have b3 := b2.grown g3 b2.size hOb))
        go_ret
        exact ⟨_, rfl, o3, b3⟩
end Go.Proofs.YthmecbonjkcnmaaGreat.ru

namespace Go.Proofs.YthmecbonjkcnmaaGreat.ru
open Go.ChangeShapes Go.WideShapes Go.ChangeAt Go.RowKit Go.Maps
set_option linter.unusedVariables false

theorem anyBad_no {l : List Ru} (h : anyBad l = false) : ∀ r ∈ l, bad r = false := fun r hr => by
  have := List.any_eq_false.1 h r hr
  simpa using this
theorem rightE_long {l : List Ru} (h : 64 < l.length) : rightE l = 2 := by unfold rightE; rw [if_pos h]
theorem rightE_bad {l : List Ru} (h : l.length ≤ 64) (hb : anyBad l = true) : rightE l = 110 := by
  unfold rightE
  rw [if_neg (by omega), if_neg]
  intro hg
  obtain ⟨r, hr, hbr⟩ := List.any_eq_true.1 hb
  rw [hg.2.1 r hr] at hbr
  cases hbr
theorem rightE_twice {l : List Ru} (h : l.length ≤ 64) (ho : ¬ Once l) : rightE l = 110 := by
  unfold rightE
  rw [if_neg (by omega), if_neg (fun hg => ho hg.2.2)]

def RightIs (l : List Ru) (x : Nat) : Prop := ∀ v w, Rus w v l → Calls Tryz.prog 38 #[v] w fun e w' => e = .returned (.int .i64 (x : Int)) ∧ Below w.heap.size w w'
theorem Rus.form {w : World} {v : Value} {l : List Ru} (h : Rus w v l) : ∃ a cap, v = .slice a l.length cap ∧ (l.length ≤ cap ∨ l.length = 0) ∧ (cap ≤ 9223372036854775807 ∨ l.length = 0) := by
  rcases h with ⟨rfl, a, cap, rfl⟩ | ⟨b, off, cap, rfl, hl, hm, _⟩
  · exact ⟨_, _, rfl, .inr rfl, .inr rfl⟩
  · exact ⟨_, _, rfl, .inl hl, .inl hm⟩
theorem Rus.small {w : World} {v : Value} {l : List Ru} (h : Rus w v l) : l.length ≤ 9223372036854775807 := by
  obtain ⟨a, cap, _, h1, h2⟩ := h.form
  omega

set_option maxHeartbeats 2000000 in
set_option maxRecDepth 100000 in
theorem right_any (l : List Ru) (x : Nat) (hx : x = rightE l) : RightIs l x := by
  intro v w hv
  have hsm := hv.small
  obtain ⟨a, cap, rfl, _, _⟩ := hv.form
  by_cases h1 : 64 < l.length
  · obtain rfl : x = 2 := by rw [hx, rightE_long h1]
    clear hx hv
    go_enter Tryz.func38, Tryz.ntmps38
    go_wp2
    go_ret
    exact ⟨rfl, Below.refl _ _⟩
  · have h1' : l.length ≤ 64 := by omega
    have c18 := anyBad_is l _ rfl _ w hv
    cases hb : anyBad l
    · rw [hb] at c18
      have hnb := anyBad_no hb
      have c20 := by_any l h1' (fun r hr => by have := bad_no.1 (hnb r hr); omega)
      have HX := (show Hid (∀ D, MapOf l D → x = if Maps.size D < l.length then 110 else 0) from fun D hD => by
        rw [hx]
        by_cases ho : Once l
        · rw [rightE_ok ⟨h1', hnb, ho⟩, if_neg (by have := hD.once.2 ho; omega)]
        · rw [rightE_twice h1' ho, if_pos (by have := hD.le; have : Maps.size D ≠ l.length := fun e => ho (hD.once.1 e); omega)])
      clear hx
      go_enter Tryz.func38, Tryz.ntmps38
      go_wp2_with (first | (go_at_call 59; refine c18.mono ?_; rintro e w1 ⟨rfl, b1⟩; have c20' := c20 _ w1 (hv.below b1)) | (go_at_call 61; refine c20'.mono ?_; rintro e w2 ⟨B, D, rfl, hB, hown, hM, b2⟩; have HM := (show Hid (MapOf l D) from hM); clear hM) | (at_len; refine wpList_len_own _ rfl _ 75 rfl 9 3 Tryz.underlying75 _ B l.length D rfl hown ?_))
      · rename_i hlt
        go_ret
        refine ⟨?_, chain b1 b2⟩
        rw [HX.out D HM.out, if_pos (by omega)]
        rfl
      · rename_i hlt
        go_ret
        refine ⟨?_, chain b1 b2⟩
        rw [HX.out D HM.out, if_neg (by omega)]
        rfl
    · rw [hb] at c18
      obtain rfl : x = 110 := by rw [hx, rightE_bad h1' hb]
      clear hx
      go_enter Tryz.func38, Tryz.ntmps38
      go_wp2_with (go_at_call 59; refine c18.mono ?_; rintro e w1 ⟨rfl, b1⟩)
      go_ret
      exact ⟨rfl, b1⟩

/-- a row of numbers that is read -/
def IntRow (w : World) (v : Value) (L : List Int) : Prop :=
  (L = [] ∧ ∃ a cap, v = .slice a 0 cap) ∨
  (∃ b cap, v = .slice (some ⟨b, 0, none⟩) L.length cap ∧ L.length ≤ cap ∧ cap ≤ 9223372036854775807 ∧ b < w.heap.size ∧ ∀ i, (h : i < L.length) → w.cell? ⟨b, i, none⟩ = some (.int .i64 L[i]))
theorem introw_of {w : World} {B : Nat} {v : Value} {L : List Int} (h : Owns w B v L) : IntRow w v L := by
  rcases h.2 with ⟨rfl, h0⟩ | ⟨g, cap, cur, rfl, hb, hg, hn, hc, hs, ht⟩
  · exact .inl ⟨List.length_eq_zero_iff.1 h0, _, _, rfl⟩
  · refine .inr ⟨g, cap, rfl, hn, by unfold maxLen at hc; omega, (Array.getElem?_eq_some_iff.1 hg).1, fun i hi => ?_⟩
    rw [World.ownsRow.cellAt h i (by omega), List.getElem?_map, List.getElem?_eq_getElem hi]
    rfl
theorem IntRow.below {w w' : World} {v : Value} {L : List Int} (h : IntRow w v L) (hb : Below w.heap.size w w') : IntRow w' v L := by
  rcases h with h | ⟨b, cap, hv, hl, hm, hlt, hc⟩
  · exact .inl h
  · exact .inr ⟨b, cap, hv, hl, hm, Nat.lt_of_lt_of_le hlt hb.size, fun i hi => by rw [hb.cell hlt]; exact hc i hi⟩
/-- what finds the rule that counts -/
structure Fdr (w : World) (l : List Ru) (rv : Value) (B : Nat) (D : DataW Unit) (lv : Value) : Prop where
  rus : Rus w rv l
  lt : B < w.heap.size
  own : w.ownsMap Tryz.prog 9 (plainElem (H := Unit) Tryz.prog 3) B l.length D
  map : MapOf l D
  row : IntRow w lv (lensOf l)
theorem ownsMap_lt {w : World} {B n : Nat} {D : DataW Unit} (h : w.ownsMap Tryz.prog 9 (plainElem (H := Unit) Tryz.prog 3) B n D) : B < w.heap.size := by
  obtain ⟨es, clock, hb, _⟩ := h
  exact (Array.getElem?_eq_some_iff.1 hb).1
theorem Fdr.below {w w' : World} {l : List Ru} {rv lv : Value} {B : Nat} {D : DataW Unit} (h : Fdr w l rv B D lv) (b3 : Below w.heap.size w w') : Fdr w' l rv B D lv :=
  ⟨h.rus.below b3, Nat.lt_of_lt_of_le h.lt b3.size, h.own.kept (row := none) ⟨b3.os, b3.tape, b3.output, b3.size, fun k hk _ => b3.block k hk⟩ (by simp), h.map, h.row.below b3⟩
theorem info77 : (Tryz.prog.info? 77).map (·.size) = some 3 := by kernel_rfl
theorem zero77 (w : World) : (zeroValue 77).run Tryz.prog w = .ok (.agg #[.slice none 0 0, .map none, .slice none 0 0]) w := by kernel_rfl
theorem ret77 {fn : Func} {p : Tmp} (h : fn.results = #[.cell p 77]) {a : Act} {W : World} {R : Ending → World → Prop} (g : Nat) (v0 v1 v2 : Value) (hp : a.tmps.getD p undef = .pointer (some ⟨g, 0, none⟩)) (hb : W.heap[g]? = some (.cells #[v0, v1, v2] 77 (0, 0))) (hd : a.defers = [])
    (hR : R (.returned (.agg #[v0, v1, v2])) W) : bodyPost Tryz.prog fn R .ret a W :=
  bodyPost_ret (results_cell_row h _ _ g 77 _ (0, 0) _ hp hb Tryz.underlying77 rfl (by kernel_rfl)) hd hR
theorem below_setRow {n g : Nat} {w W : World} (h : Below n w W) (hg : n ≤ g) (cs : Array Value) : Below n w (W.setRow g cs) := ⟨h.os, h.tape, h.output, by simpa using h.size, fun k hk => (setRow_other _ _ _ _ (by omega)).trans (h.block k hk)⟩
theorem setRow_grown (w : World) (g : Nat) (cs : Array Value) : w.grownBy (w.setRow g cs) (some g) := ⟨rfl, rfl, rfl, by simp, fun k hk hne => setRow_other _ _ _ _ (fun e => hne (by rw [e]))⟩

def NewIs (l : List Ru) : Prop := ∀ v w, Rus w v l → Calls Tryz.prog 40 #[v] w fun e w' => ∃ B D lv, e = .returned (.agg #[v, .map (some B), lv]) ∧ Fdr w' l v B D lv ∧ Below w.heap.size w w'
set_option maxHeartbeats 2000000 in
set_option maxRecDepth 100000 in
theorem new_any (l : List Ru) (hg : Good l) : NewIs l := by
  intro v w hv
  have c20 := by_any l hg.1 (fun r hr => by have := bad_no.1 (hg.2.1 r hr); omega)
  have c29 := lens_any l hg.1
  have hz := zero77
  obtain ⟨w1, hw1⟩ : ∃ w1, w1 = w.alloc (.cells #[.slice none 0 0, .map none, .slice none 0 0] 77) := ⟨_, rfl⟩
  have b1 : Below w.heap.size w w1 := by rw [hw1]; exact (Below.refl _ _).alloc (Nat.le_refl _) _
  have hn1 : w1.heap[w.heap.size]? = some (.cells #[.slice none 0 0, .map none, .slice none 0 0] 77 (0, 0)) := by rw [hw1]; exact heap_alloc_new w _
  have c20' := c20 _ w1 (hv.below b1)
  have hlt1 := (Array.getElem?_eq_some_iff.1 hn1).1
  obtain ⟨a, cap, rfl, _, _⟩ := hv.form
  rw [hw1] at c20'
  have HW := (show Hid _ from hw1)
  clear hw1
  go_enter Tryz.func40, Tryz.ntmps40
  go_wp2_with (first | (go_at_call 61; refine c20'.mono ?_; rw [← HW.out]; rintro e w2 ⟨B, D, rfl, hB, hown, hM, b2⟩; have c29' := c29 _ w2 ((hv.below b1).below b2); have HM := (show Hid (MapOf l D) from hM); clear hM) | (go_at_call 64; refine c29'.mono ?_; rintro e w3 ⟨v3, rfl, o3, b3⟩; obtain ⟨g3, c3, hv3, _⟩ := ow.form o3; subst hv3; have hn3 : w3.heap[w.heap.size]? = some (.cells #[.slice none 0 0, .map none, .slice none 0 0] 77 (0, 0)) := (b3.block _ (Nat.lt_of_lt_of_le hlt1 b2.size)).trans ((b2.block _ hlt1).trans hn1)) | (refine wpList_store_row (by rfl) 77 (.tmp 2) (.tmp 8) (by rfl) w.heap.size #[.slice a l.length cap, .map (some B), .slice g3 (lensOf l).length c3] (by rfl) (by rfl) 77 _ hn3 info77 rfl (by simp [Value.oneCell']) ?_))
  refine ret77 Tryz.results40 w.heap.size _ _ _ rfl (setRow_heap _ _ _ _ _ _ hn3) rfl ?_
  have hbl : Below w.heap.size w (w3.setRow w.heap.size #[.slice a l.length cap, .map (some B), .slice g3 (lensOf l).length c3]) := below_setRow (chain (chain b1 b2) b3) (Nat.le_refl _) _
  have hown3 := hown.kept (row := none) ⟨b3.os, b3.tape, b3.output, b3.size, fun k hk _ => b3.block k hk⟩ (by simp)
  have hown4 := hown3.kept (setRow_grown w3 w.heap.size #[.slice a l.length cap, .map (some B), .slice g3 (lensOf l).length c3]) (by intro e; cases e; omega)
  exact ⟨B, D, _, rfl, ⟨hv.below hbl, ownsMap_lt hown4, hown4, HM.out, introw_of (B := w2.heap.size) (ow.keep o3 fun g eg => setRow_other _ _ _ _ (by have := (ow.lt o3 eg).1; have := b2.size; omega))⟩, hbl⟩
end Go.Proofs.YthmecbonjkcnmaaGreat.ru

namespace Go.Proofs.YthmecbonjkcnmaaGreat.df
open Go.RowKit
set_option linter.unusedVariables false

section
variable {ops : Array Oper} {S : World → Prop} {op : Oper} {a : Act} {Q : Exit → Act → World → Prop} {fuel : Nat} {listed : Array Bool} {w : World}
theorem yields_run (hw : Region.wanted op (yielded ops a.tmps) = true) {v : Value} (h : ∀ W, S W → (execOp a.eval op).run Tryz.prog W = .ok (.value v) W) : YieldsIf Tryz.prog ops S op v a := .inl ⟨hw, h⟩
theorem yields_move (hw : Region.wanted op (yielded ops a.tmps) = true) (x : Operand) (ho : op.op = .move x) : YieldsIf Tryz.prog ops S op (a.eval x) a :=
  .inl ⟨hw, fun w h => by unfold execOp; rw [ho]; rfl⟩
theorem yields_assign (hw : Region.wanted op (yielded ops a.tmps) = true) (x : Operand) (ho : op.op = .assign x) : YieldsIf Tryz.prog ops S op (a.eval x) a :=
  .inl ⟨hw, fun w h => by unfold execOp; rw [ho]; rfl⟩
theorem take_op {i : Nat} (k : Nat) {v : Value} (hi : ops[i]? = some op) (hd : op.dst = some k) (hy : YieldsIf Tryz.prog ops S op v a) (hs : Region.noSelect ops = true) (hf : Region.free .any ops listed i = true) (hr : (Region.ready .any ops listed).contains i = true)
    (hQ : ∀ c a w, Q (.panic c) (a.put (some k) v) w → Q (.panic c) a w) (hS : S w)
    (h : wpAnyH Tryz.prog .any ops Q S fuel (listed.setIfInBounds i true) (a.put (some k) v) w) : wpAnyH Tryz.prog .any ops Q S (fuel + 1) listed a w :=
  wpAnyH_take hi hs hf hr (by rw [hd]; exact hQ) hy hS (by rw [hd]; exact h)
theorem call_op (i k : Nat) {f : FuncId} {args : Array Value} (hr : Region.ready .any ops listed = [i]) (ho : ops[i]? = some op) (hd : op.dst = some k) (hw : Region.wanted op (yielded ops a.tmps) = true) (hx : (execOp a.eval op).run Tryz.prog w = .ok (.enter f args) w)
    (hc : Calls Tryz.prog f args w fun e w' => ∃ v, e = .returned v ∧ S w' ∧ wpAnyH Tryz.prog .any ops Q S fuel (listed.setIfInBounds i true) (a.put (some k) v) w') : wpAnyH Tryz.prog .any ops Q S (fuel + 1) listed a w := by
  refine wpAnyH_all hr (by simp) (fun j hj => ?_)
  simp at hj
  subst hj
  unfold wpOp
  simp only [ho, hw, if_true]
  refine .inl ?_
  unfold Oper.wp
  rw [hx]
  simp only [Oper.upon]
  refine hc.mono ?_
  rintro e w' ⟨v, rfl, h1, h2⟩
  rw [hd]
  exact ⟨h1, h2⟩
theorem done_op (hr : Region.ready .any ops listed = []) (h : Q .normal a w) : wpAnyH Tryz.prog .any ops Q S fuel listed a w := wpAnyH_done hr h fuel
end
end Go.Proofs.YthmecbonjkcnmaaGreat.df
