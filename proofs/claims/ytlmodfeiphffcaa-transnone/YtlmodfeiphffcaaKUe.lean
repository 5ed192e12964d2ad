/-
  The library's sort, reverse and compact of ints, laid at this program; what they leave of an own row.
-/
import Derived.Shelf.Sort.Plain
import Derived.Shelf.Slices.In.SortNone
import Derived.Shelf.Slices.Reverse
import Derived.Shelf.Slices.CompactI
import Derived.Ground.NamesProg
import Derived.Test.YtlmodfeiphffcaaKAp
import Derived.Test.YtlmodfeiphffcaaM07
namespace Go.Proofs.Ytlmodfeiphffcaa.ru
open Go.RowKit Go.Shelf Go.Sort
set_option linter.unusedVariables false

def Owns (W : World) (B : Nat) (v : Value) (l : List Int) : Prop := W.ownsRow B 3 1 v l.length (l.map (Value.int .i64))

def ren : Go.Shelf.Ren := ⟨fun | 189 => 74 | 125 => 79 | 257 => 78 | 128 => 89 | 129 => 90 | 294 => 80 | 295 => 81 | 296 => 82 | 297 => 83 | 298 => 84 | 299 => 85 | 216 => 86 | 300 => 87 | 301 => 88 | 328 => 91 | 329 => 92 | 330 => 93 | 331 => 94 | 332 => 95 | 215 => 96 | 343 => 97 | n => n, fun | 28 => 23 | 3 => 3 | 46 => 142 | 0 => 0 | 51 => 152 | 53 => 154 | 4 => 4 | 183 => 145 | 182 => 144 | 131 => 129 | 5 => 5 | 9 => 9 | 218 => 155 | 222 => 159 | 228 => 162 | 229 => 70 | n => n, fun | n => n⟩
theorem lays189 : Go.Proofs.Lays.n189 Try.prog ren := {
  mixed := by kernel_rfl
  f125 := Try.func79.trans (congrArg some (by kernel_rfl))
  f128 := Try.func89.trans (congrArg some (by kernel_rfl))
  f129 := Try.func90.trans (congrArg some (by kernel_rfl))
  f189 := Try.func74.trans (congrArg some (by kernel_rfl))
  f215 := Try.func96.trans (congrArg some (by kernel_rfl))
  f216 := Try.func86.trans (congrArg some (by kernel_rfl))
  f257 := Try.func78.trans (congrArg some (by kernel_rfl))
  f294 := Try.func80.trans (congrArg some (by kernel_rfl))
  f295 := Try.func81.trans (congrArg some (by kernel_rfl))
  f296 := Try.func82.trans (congrArg some (by kernel_rfl))
  f297 := Try.func83.trans (congrArg some (by kernel_rfl))
  f298 := Try.func84.trans (congrArg some (by kernel_rfl))
  f299 := Try.func85.trans (congrArg some (by kernel_rfl))
  f300 := Try.func87.trans (congrArg some (by kernel_rfl))
  f301 := Try.func88.trans (congrArg some (by kernel_rfl))
  f328 := Try.func91.trans (congrArg some (by kernel_rfl))
  f329 := Try.func92.trans (congrArg some (by kernel_rfl))
  f330 := Try.func93.trans (congrArg some (by kernel_rfl))
  f331 := Try.func94.trans (congrArg some (by kernel_rfl))
  f332 := Try.func95.trans (congrArg some (by kernel_rfl))
  f343 := Try.func97.trans (congrArg some (by kernel_rfl))
  t0 := Try.underlying0
  a0 := Try.isAgg0
  z0 := Try.sizeOf0
  v0 := Try.zeroValue0
  t3 := Try.underlying3
  a3 := Try.isAgg3
  z3 := Try.sizeOf3
  v3 := Try.zeroValue3
  t4 := Try.underlying4
  a4 := Try.isAgg4
  z4 := Try.sizeOf4
  v4 := Try.zeroValue4
  t5 := Try.underlying5
  a5 := Try.isAgg5
  z5 := Try.sizeOf5
  v5 := Try.zeroValue5
  t9 := Try.underlying9
  a9 := Try.isAgg9
  z9 := Try.sizeOf9
  v9 := Try.zeroValue9
  t28 := Try.underlying23
  a28 := Try.isAgg23
  z28 := Try.sizeOf23
  v28 := Try.zeroValue23
  t46 := Try.underlying142
  a46 := Try.isAgg142
  z46 := Try.sizeOf142
  v46 := Try.zeroValue142
  t51 := Try.underlying152
  a51 := Try.isAgg152
  z51 := Try.sizeOf152
  v51 := Try.zeroValue152
  t53 := Try.underlying154
  a53 := Try.isAgg154
  z53 := Try.sizeOf154
  v53 := Try.zeroValue154
  t131 := Try.underlying129
  a131 := Try.isAgg129
  z131 := Try.sizeOf129
  v131 := Try.zeroValue129
  t182 := Try.underlying144
  a182 := Try.isAgg144
  z182 := Try.sizeOf144
  v182 := Try.zeroValue144
  t183 := Try.underlying145
  a183 := Try.isAgg145
  z183 := Try.sizeOf145
  v183 := Try.zeroValue145
  t218 := Try.underlying155
  a218 := Try.isAgg155
  z218 := Try.sizeOf155
  v218 := Try.zeroValue155
  t222 := Try.underlying159
  a222 := Try.isAgg159
  z222 := Try.sizeOf159
  v222 := Try.zeroValue159
  t228 := Try.underlying162
  a228 := Try.isAgg162
  z228 := Try.sizeOf162
  v228 := Try.zeroValue162
  t229 := Try.underlying70
  a229 := Try.isAgg70
  z229 := Try.sizeOf70
  v229 := Try.zeroValue70 }

def ren2 : Go.Shelf.Ren := ⟨fun | 112 => 75 | n => n, fun | 28 => 23 | n => n, fun | n => n⟩
theorem lays112 : Go.Proofs.Lays.n112 Try.prog ren2 := {
  mixed := by kernel_rfl
  f112 := Try.func75.trans (congrArg some (by kernel_rfl))
  t0 := Try.underlying0
  a0 := Try.isAgg0
  z0 := Try.sizeOf0
  v0 := Try.zeroValue0
  t3 := Try.underlying3
  a3 := Try.isAgg3
  z3 := Try.sizeOf3
  v3 := Try.zeroValue3
  t4 := Try.underlying4
  a4 := Try.isAgg4
  z4 := Try.sizeOf4
  v4 := Try.zeroValue4
  t28 := Try.underlying23
  a28 := Try.isAgg23
  z28 := Try.sizeOf23
  v28 := Try.zeroValue23 }
def ren3 : Go.Shelf.Ren := ⟨fun | 20 => 76 | n => n, fun | 22 => 23 | n => n, fun | n => n⟩
theorem lays20 : Go.Proofs.Lays2.n20 Try.prog ren3 := {
  mixed := by kernel_rfl
  i3 := by kernel_rfl
  f20 := Try.func76.trans (congrArg some (by kernel_rfl))
  t0 := Try.underlying0
  a0 := Try.isAgg0
  z0 := Try.sizeOf0
  v0 := Try.zeroValue0
  t3 := Try.underlying3
  a3 := Try.isAgg3
  z3 := Try.sizeOf3
  v3 := Try.zeroValue3
  t4 := Try.underlying4
  a4 := Try.isAgg4
  z4 := Try.sizeOf4
  v4 := Try.zeroValue4
  t22 := Try.underlying23
  a22 := Try.isAgg23
  z22 := Try.sizeOf23
  v22 := Try.zeroValue23 }

theorem put_block {α : Type} [Inhabited α] (enc : α → Value) (w : World) (blk off : Nat) (d : Array α) (k : Nat) (h : k ≠ blk) : (putRow enc w blk off d).heap[k]? = w.heap[k]? := by
  unfold putRow mapBlock
  show (w.heap.modify blk _)[k]? = _
  rw [Array.getElem?_modify, if_neg (fun e => h e.symm)]
theorem grow_block (w : World) (os : Array Obj) (k : Nat) (h : k < w.heap.size) : (grow w os).heap[k]? = w.heap[k]? := by
  unfold grow
  rw [Array.getElem?_append_left h]
/-- a row that was written over, and what has grown beside it -/
theorem put_owns {w w' : World} {B g cap : Nat} {cur : Array Value} {l m z : List Int} {n : Nat} (hb : B ≤ g) (hg : w.heap[g]? = some (.cells cur 3 (0, 0))) (hlt : g < w.heap.size) (hlm : l.length = (m ++ z).length) (hn : l.length ≤ cap) (hc : cap ≤ maxLen) (hs : cur.size = cap * 1)
    (os : Array Obj) (hw : w' = grow (putRow (Value.int .i64) (Sort.ahead w n) g 0 (m ++ z).toArray) os) : Owns w' B (.slice (some ⟨g, 0, none⟩) m.length cap) m ∧ w.grownBy w' (some g) := by
  subst hw
  have hml : m.length ≤ l.length := by rw [hlm]; simp
  refine ⟨?_, ?_⟩
  · have hblk : (grow (putRow (Value.int .i64) (Sort.ahead w n) g 0 (m ++ z).toArray) os).heap[g]? = some (.cells (putCells (Value.int .i64) 0 (m ++ z).toArray cur) 3 (0, 0)) := by
      rw [grow_block _ _ _ (by simpa [Sort.ahead] using hlt)]
      unfold putRow mapBlock
      show (w.heap.modify g _)[g]? = _
      rw [Array.getElem?_modify, if_pos rfl, hg]
      rfl
    refine ⟨by simp, .inr ⟨g, cap, _, rfl, hb, hblk, by omega, hc, ?_, ?_⟩⟩
    · unfold putCells; simpa using hs
    · apply List.ext_getElem?
      intro i
      rw [List.getElem?_take]
      by_cases hi : i < m.length * 1
      · rw [if_pos hi, Array.getElem?_toList]
        unfold putCells
        rw [Array.getElem?_mapIdx]
        have hi2 : i < cur.size := by omega
        have hi3 : i < (m ++ z).length := by simp; omega
        rw [Array.getElem?_eq_getElem hi2, Option.map_some, if_pos ⟨by omega, by simpa using hi3⟩, List.getElem?_map, List.getElem?_eq_getElem (by omega)]
        congr 2
        rw [getElem!_pos _ _ (by simpa using hi3)]
        simp
        rw [List.getElem_append_left (by omega)]
      · rw [if_neg hi, List.getElem?_eq_none (by simp; omega)]
  · refine ⟨rfl, rfl, rfl, ?_, fun k hk hne => ?_⟩
    · show _ ≤ (_ ++ os).size
      simp [Sort.ahead]
    · rw [grow_block _ _ _ (by simpa [Sort.ahead] using hk), put_block _ _ _ _ _ _ (fun e => hne (by rw [e]))]
      rfl
theorem holds_of {w : World} {B g cap : Nat} {cur : Array Value} {l : List Int} (ho : Owns w B (.slice (some ⟨g, 0, none⟩) l.length cap) l) (hg : w.heap[g]? = some (.cells cur 3 (0, 0))) : Holds (Value.int .i64) w g 0 l.toArray := fun j hj => by
  have hj2 : j < l.length := by simpa using hj
  refine ⟨?_, ?_⟩
  · rw [Nat.zero_add, World.ownsRow.cellAt ho j (by omega), List.getElem?_map, List.getElem?_eq_getElem hj2, getElem!_pos _ j hj]
    simp
  · exact Lib.frozen_of_heap hg _

def sorted (l : List Int) : List Int := l.mergeSort fun x y => decide (x ≤ y)
def SortIs (l : List Int) : Prop := ∀ B v w, Owns w B v l → Calls Try.prog 74 #[v] w fun e w' => (∃ r, e = .returned r) ∧ Owns w' B v (sorted l) ∧ w.grownBy w' v.ownBlock
theorem sort_any (l : List Int) (hl : l.length ≤ 1000000) : SortIs l := by
  intro B v w ho
  have ho0 := ho
  rcases ho.2 with ⟨rfl, h0⟩ | ⟨g, cap, cur, rfl, hb, hg, hn, hc, hs, ht⟩
  · have e0 : l = [] := List.length_eq_zero_iff.1 h0
    subst e0
    refine (Any.slices_Sort_int_none lays189 none 0 w).mono ?_
    rintro e w' ⟨rfl, rfl⟩
    exact ⟨⟨_, rfl⟩, by unfold sorted; simpa using ho0, ⟨rfl, rfl, rfl, Nat.le_refl _, fun _ _ _ => rfl⟩⟩
  · have hlt := (Array.getElem?_eq_some_iff.1 hg).1
    refine (Any.slices_Sort_int lays189 g 0 cap l w (holds_of ho0 hg) hlt (by omega)).mono ?_
    rintro e w' ⟨rfl, n, os, rfl⟩
    have hls : (sorted l).length = l.length := List.length_mergeSort l
    have := put_owns (z := []) (l := l) (m := sorted l) (n := n) hb hg hlt (by simp [hls]) hn hc hs os (by rw [List.append_nil])
    rw [hls] at this
    exact ⟨⟨_, rfl⟩, this.1, this.2⟩
def RevIs (l : List Int) : Prop := ∀ B v w, Owns w B v l → Calls Try.prog 75 #[v] w fun e w' => (∃ r, e = .returned r) ∧ Owns w' B v l.reverse ∧ w.grownBy w' v.ownBlock
theorem grow_nil (w : World) : grow w #[] = w := by unfold grow; simp
theorem rev_any (l : List Int) (hl : l.length ≤ 1000000) : RevIs l := by
  intro B v w ho
  have ho0 := ho
  rcases ho.2 with ⟨rfl, h0⟩ | ⟨g, cap, cur, rfl, hb, hg, hn, hc, hs, ht⟩
  · have e0 : l = [] := List.length_eq_zero_iff.1 h0
    subst e0
    refine (Any.slices_Reverse_int_empty lays112 none 0 w).mono ?_
    rintro e w' ⟨rfl, rfl⟩
    exact ⟨⟨_, rfl⟩, by simpa using ho0, ⟨rfl, rfl, rfl, Nat.le_refl _, fun _ _ _ => rfl⟩⟩
  · have hlt := (Array.getElem?_eq_some_iff.1 hg).1
    refine (Any.slices_Reverse_int lays112 g 0 cap l w (holds_of ho0 hg) (by omega)).mono ?_
    rintro e w' ⟨rfl, n, rfl⟩
    have := put_owns (z := []) (l := l) (m := l.reverse) (n := n) hb hg hlt (by simp) hn hc hs #[] (by rw [List.append_nil, grow_nil])
    rw [List.length_reverse] at this
    exact ⟨⟨_, rfl⟩, this.1, this.2⟩
def CmpIs (l : List Int) : Prop := ∀ B v w, Owns w B v l → Calls Try.prog 76 #[v] w fun e w' => ∃ v', e = .returned v' ∧ Owns w' B v' (Lib.compact l) ∧ w.grownBy w' v.ownBlock
theorem compact_len (l : List Int) : (Lib.compact l).length ≤ l.length := by
  unfold Lib.compact Lib.compactUpTo
  rw [List.length_map]
  exact Nat.le_trans (List.length_filter_le _ _) (by simp)
theorem cmp_any (l : List Int) (hl : l.length ≤ 1000000) : CmpIs l := by
  intro B v w ho
  have ho0 := ho
  rcases ho.2 with ⟨rfl, h0⟩ | ⟨g, cap, cur, rfl, hb, hg, hn, hc, hs, ht⟩
  · have e0 : l = [] := List.length_eq_zero_iff.1 h0
    subst e0
    refine (Any.slices_Compact_int_empty lays20 none 0 w).mono ?_
    rintro e w' ⟨rfl, rfl⟩
    exact ⟨_, rfl, ho0, ⟨rfl, rfl, rfl, Nat.le_refl _, fun _ _ _ => rfl⟩⟩
  · have hlt := (Array.getElem?_eq_some_iff.1 hg).1
    refine (Any.slices_Compact_int lays20 g 0 cap l w (holds_of ho0 hg) (by omega) hn).mono ?_
    rintro e w' ⟨rfl, n, rfl⟩
    have hcl := compact_len l
    have := put_owns (z := List.replicate (l.length - (Lib.compact l).length) 0) (l := l) (m := Lib.compact l) (n := n) hb hg hlt (by simp; omega) hn hc hs #[] (by rw [grow_nil])
    exact ⟨_, rfl, this.1, this.2⟩
end Go.Proofs.Ytlmodfeiphffcaa.ru
