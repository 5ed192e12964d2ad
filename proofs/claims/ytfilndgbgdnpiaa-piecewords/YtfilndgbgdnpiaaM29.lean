/-
  Texts put together: The library's sort of ints, laid at this program; what it leaves of an own row. Contracts over this program: the states that are reached over nothing (nfa.Free).
-/
import Derived.Shelf.Sort.Plain
import Derived.Shelf.Slices.In.SortNone
import Derived.Ground.NamesProg
import Derived.Test.YtfilndgbgdnpiaaM06
import Derived.Test.YtfilndgbgdnpiaaM08
namespace Go.Proofs.Ytfilndgbgdnpiaa.nf
open Go.RowKit Go.Shelf Go.Sort
set_option linter.unusedVariables false
open df (Kp Owns)

def ren : Go.Shelf.Ren := ⟨fun | 189 => 80 | 125 => 92 | 257 => 91 | 128 => 104 | 129 => 105 | 294 => 95 | 295 => 96 | 296 => 97 | 297 => 98 | 298 => 99 | 299 => 100 | 216 => 101 | 300 => 102 | 301 => 103 | 328 => 106 | 329 => 107 | 330 => 108 | 331 => 109 | 332 => 110 | 215 => 111 | 343 => 112 | n => n, fun | 28 => 39 | 3 => 3 | 46 => 130 | 0 => 0 | 51 => 161 | 53 => 22 | 4 => 4 | 183 => 155 | 182 => 154 | 131 => 133 | 5 => 5 | 9 => 9 | 218 => 163 | 222 => 99 | 228 => 168 | 229 => 169 | n => n, fun | n => n⟩
theorem lays189 : Go.Proofs.Lays.n189 Try.prog ren := {
  mixed := by kernel_rfl
  f125 := Try.func92.trans (congrArg some (by kernel_rfl))
  f128 := Try.func104.trans (congrArg some (by kernel_rfl))
  f129 := Try.func105.trans (congrArg some (by kernel_rfl))
  f189 := Try.func80.trans (congrArg some (by kernel_rfl))
  f215 := Try.func111.trans (congrArg some (by kernel_rfl))
  f216 := Try.func101.trans (congrArg some (by kernel_rfl))
  f257 := Try.func91.trans (congrArg some (by kernel_rfl))
  f294 := Try.func95.trans (congrArg some (by kernel_rfl))
  f295 := Try.func96.trans (congrArg some (by kernel_rfl))
  f296 := Try.func97.trans (congrArg some (by kernel_rfl))
  f297 := Try.func98.trans (congrArg some (by kernel_rfl))
  f298 := Try.func99.trans (congrArg some (by kernel_rfl))
  f299 := Try.func100.trans (congrArg some (by kernel_rfl))
  f300 := Try.func102.trans (congrArg some (by kernel_rfl))
  f301 := Try.func103.trans (congrArg some (by kernel_rfl))
  f328 := Try.func106.trans (congrArg some (by kernel_rfl))
  f329 := Try.func107.trans (congrArg some (by kernel_rfl))
  f330 := Try.func108.trans (congrArg some (by kernel_rfl))
  f331 := Try.func109.trans (congrArg some (by kernel_rfl))
  f332 := Try.func110.trans (congrArg some (by kernel_rfl))
  f343 := Try.func112.trans (congrArg some (by kernel_rfl))
  t0 := Try.underlying0
  a0 := Try.isAgg0
  z0 := Try.sizeOf0
  v0 := Try.zeroValue0
  t3 := Try.underlying3
  a3 := Try.isAgg3
  z3 := Try.sizeOf3
  v3 := Try.zeroValue3
  t4 := Try.underlying4
  a4 := Try.isAgg4
  z4 := Try.sizeOf4
  v4 := Try.zeroValue4
  t5 := Try.underlying5
  a5 := Try.isAgg5
  z5 := Try.sizeOf5
  v5 := Try.zeroValue5
  t9 := Try.underlying9
  a9 := Try.isAgg9
  z9 := Try.sizeOf9
  v9 := Try.zeroValue9
  t28 := Try.underlying39
  a28 := Try.isAgg39
  z28 := Try.sizeOf39
  v28 := Try.zeroValue39
  t46 := Try.underlying130
  a46 := Try.isAgg130
  z46 := Try.sizeOf130
  v46 := Try.zeroValue130
  t51 := Try.underlying161
  a51 := Try.isAgg161
  z51 := Try.sizeOf161
  v51 := Try.zeroValue161
  t53 := Try.underlying22
  a53 := Try.isAgg22
  z53 := Try.sizeOf22
  v53 := Try.zeroValue22
  t131 := Try.underlying133
  a131 := Try.isAgg133
  z131 := Try.sizeOf133
  v131 := Try.zeroValue133
  t182 := Try.underlying154
  a182 := Try.isAgg154
  z182 := Try.sizeOf154
  v182 := Try.zeroValue154
  t183 := Try.underlying155
  a183 := Try.isAgg155
  z183 := Try.sizeOf155
  v183 := Try.zeroValue155
  t218 := Try.underlying163
  a218 := Try.isAgg163
  z218 := Try.sizeOf163
  v218 := Try.zeroValue163
  t222 := Try.underlying99
  a222 := Try.isAgg99
  z222 := Try.sizeOf99
  v222 := Try.zeroValue99
  t228 := Try.underlying168
  a228 := Try.isAgg168
  z228 := Try.sizeOf168
  v228 := Try.zeroValue168
  t229 := Try.underlying169
  a229 := Try.isAgg169
  z229 := Try.sizeOf169
  v229 := Try.zeroValue169 }

theorem put_block {α : Type} [Inhabited α] (enc : α → Value) (w : World) (blk off : Nat) (d : Array α) (k : Nat) (h : k ≠ blk) : (putRow enc w blk off d).heap[k]? = w.heap[k]? := by
  unfold putRow mapBlock
  show (w.heap.modify blk _)[k]? = _
  rw [Array.getElem?_modify, if_neg (fun e => h e.symm)]
theorem grow_block (w : World) (os : Array Obj) (k : Nat) (h : k < w.heap.size) : (grow w os).heap[k]? = w.heap[k]? := by
  unfold grow
  rw [Array.getElem?_append_left h]
def sorted (l : List Int) : List Int := l.mergeSort fun x y => decide (x ≤ y)
def SortIs (l : List Int) : Prop := ∀ B v w, Owns w B v l → Calls Try.prog 80 #[v] w fun e w' => (∃ r, e = .returned r) ∧ Owns w' B v (sorted l) ∧ w.grownBy w' v.ownBlock
theorem sort_any (l : List Int) (hl : l.length ≤ 1000000) : SortIs l := by
  intro B v w ho
  have ho0 := ho
  rcases ho.2 with ⟨rfl, h0⟩ | ⟨g, cap, cur, rfl, hb, hg, hn, hc, hs, ht⟩
  · have e0 : l = [] := List.length_eq_zero_iff.1 h0
    subst e0
    refine (Any.slices_Sort_int_none lays189 none 0 w).mono ?_
    rintro e w' ⟨rfl, rfl⟩
    exact ⟨⟨_, rfl⟩, by unfold sorted; simpa using ho0, ⟨rfl, rfl, rfl, Nat.le_refl _, fun _ _ _ => rfl⟩⟩
  · have hlt := (Array.getElem?_eq_some_iff.1 hg).1
    have hH : Holds (Value.int .i64) w g 0 l.toArray := fun j hj => by
      have hj2 : j < l.length := by simpa using hj
      refine ⟨?_, ?_⟩
      · rw [Nat.zero_add, World.ownsRow.cellAt ho0 j (by omega), List.getElem?_map, List.getElem?_eq_getElem hj2, getElem!_pos _ j hj]
        simp
      · exact Lib.frozen_of_heap hg _
    refine (Any.slices_Sort_int lays189 g 0 cap l w hH hlt (by omega)).mono ?_
    rintro e w' ⟨rfl, n, os, rfl⟩
    refine ⟨⟨_, rfl⟩, ?_, ?_⟩
    · have hls : (sorted l).length = l.length := List.length_mergeSort l
      have hblk : (grow (putRow (Value.int .i64) (Sort.ahead w n) g 0 (sorted l).toArray) os).heap[g]? = some (.cells (putCells (Value.int .i64) 0 (sorted l).toArray cur) 3 (0, 0)) := by
        rw [grow_block _ _ _ (by simpa [Sort.ahead] using hlt)]
        unfold putRow mapBlock
        show (w.heap.modify g _)[g]? = _
        rw [Array.getElem?_modify, if_pos rfl, hg]
        rfl
      refine ⟨by simp, .inr ⟨g, cap, _, by rw [hls], hb, hblk, by omega, hc, ?_, ?_⟩⟩
      · unfold putCells; simpa using hs
      · apply List.ext_getElem?
        intro i
        rw [List.getElem?_take]
        by_cases hi : i < (sorted l).length * 1
        · rw [if_pos hi, Array.getElem?_toList]
          unfold putCells
          rw [Array.getElem?_mapIdx]
          have hi2 : i < cur.size := by omega
          rw [Array.getElem?_eq_getElem hi2, Option.map_some, if_pos ⟨by omega, by simpa using hi⟩, List.getElem?_map, List.getElem?_eq_getElem (by omega)]
          congr 2
          rw [getElem!_pos _ _ (by simpa using hi)]
          simp
        · rw [if_neg hi, List.getElem?_eq_none (by simp; omega)]
    · refine ⟨rfl, rfl, rfl, ?_, fun k hk hne => ?_⟩
      · show _ ≤ (_ ++ os).size
        simp [Sort.ahead]
      · rw [grow_block _ _ _ (by simpa [Sort.ahead] using hk), put_block _ _ _ _ _ _ (fun e => hne (by rw [e]; rfl))]
        rfl
end Go.Proofs.Ytfilndgbgdnpiaa.nf

namespace Go.Proofs.Ytfilndgbgdnpiaa.nf
open Go.RowKit Go.Shelf
set_option linter.unusedVariables false
open df (Kp Owns Row iv In IntsV)
set_option maxHeartbeats 1000000 in
theorem sorted_up (l : List Int) (h : l.Nodup) : (sorted l).Pairwise (· < ·) := by
  have h1 : (sorted l).Pairwise (fun a b => decide (a ≤ b) = true) := List.pairwise_mergeSort (le := fun a b => decide (a ≤ b)) (fun a b c h1 h2 => by simp at *; omega) (fun a b => by simp; omega) l
  have h2 : (sorted l).Nodup := (List.mergeSort_perm l _).nodup_iff.2 h
  have h3 := h1.and h2
  exact h3.imp (fun {a b} ⟨a1, a2⟩ => by simp at a1; omega)
theorem sorted_mem (l : List Int) (t : Int) : t ∈ sorted l ↔ t ∈ l := (List.mergeSort_perm l _).mem_iff
set_option maxHeartbeats 4000000 in
set_option maxRecDepth 100000 in
theorem free_yes (x : Nfa) (n : Nat) (R : Rt x n) (l : List Int) (h : right x = true) (L : List Int) (hL0 : IsFree x l L) : FreeIs 63 x l L := by
  intro o cap lo lcap w hE hL
  have hcap := hE.fit
  have htop := hE.top
  have hlf := hL.fit
  have hlt := hL.top
  have h11 := right_any x true h.symm o cap
  have h30 := new_any n R.n2 x.s x.e o x.edges.length cap
  have h29 := weave_any x n R.hx R.n2 R.m (fun i hi => R.fr _ (List.getElem_mem hi)) o cap
  have h32 : SpreadIs x n := spread_any x n R.n2 R.m R.to
  unfold SpreadIs at h32
  have hx := R.hx
  have hn1 := R.n1
  have hn2 := R.n2
  have hm := R.m
  rw [hx] at h11 h29 ⊢
  have b0 := box_new w (n : Int) x.s x.e o x.edges.length cap
  have B1 := below_alloc w (.cells #[.int .i64 (n : Int), .int .i64 x.s, .int .i64 x.e, .slice o x.edges.length cap] 31)
  obtain ⟨w1, hw1⟩ : ∃ w1, w1 = w.alloc (.cells #[.int .i64 (n : Int), .int .i64 x.s, .int .i64 x.e, .slice o x.edges.length cap] 31) := ⟨_, rfl⟩
  rw [← hw1] at b0 B1
  have r1 := h11 w1 (hE.later B1)
  have HE := (show Hid (Eds w o cap x.edges) from hE)
  have HL := (show Hid (Row (In w) w iv lo lcap l) from hL)
  clear hE hL h11 h
  go_enter Try.func63, Try.ntmps63
  go_wp2_with (first | (go_at_call 30; rw [← hw1]; refine r1.mono ?_; rintro e w2 ⟨rfl, b2⟩; have x2 := b0.later b2; have d0 := x2.c0; have d1 := x2.c1; have d2 := x2.c2; have d3 := x2.c3) | (go_at_call 32; refine (h30 (fun b => b < w2.heap.size) w2 (fun _ h => h)).mono ?_; rintro e w3 ⟨c, sb, rfl, hC3, b3, o3⟩))
  have B2 : Below w.heap.size w w2 := chain B1 b2
  have s12 := B2.size
  have x3 := x2.later b3
  have M33 : Moved (fun b => b < w2.heap.size) w2.heap.size w3 w3 := Moved.refl _ _ _
  go_loopw [15] (fun y wr => ∃ i : Nat, y = .int .i64 i ∧ i ≤ l.length ∧ Hid (Cr (fun b => b < w2.heap.size) wr w2.heap.size c sb n (addL n (l.take i)).1 (addL n (l.take i)).2) ∧ Hid (Moved (fun b => b < w2.heap.size) w2.heap.size w3 wr)) (fun y _ => l.length - (intOf y).toNat)
  case atStart => exact ⟨0, rfl, by omega, by show Cr _ _ _ _ _ _ _ _; simpa [addL] using hC3, M33⟩
  case round =>
    obtain ⟨i, rfl, hi, HC, HM⟩ := hrel
    clear hC3 M33 d0 d1 d2 d3
    have kp := HM.out.kp
    have hxr : Box wr w.heap.size (n : Int) x.s x.e o x.edges.length cap := (kp.2 _ x2.lt).trans x3
    have hold : ∀ b, b < w.heap.size → wr.heap[b]? = w.heap[b]? := fun b hb => (kp.2 b (by show b < w2.heap.size; omega)).trans ((b3.block b (by omega)).trans (B2.block b hb))
    have d0 := hxr.c0
    have d1 := hxr.c1
    have d2 := hxr.c2
    have d3 := hxr.c3
    by_cases hend : i < l.length
    · obtain ⟨b, off, rfl, hb, hc⟩ := HL.out.lie i hend
      have hc2 : wr.cell? ⟨b, off + i, none⟩ = some (.int .i64 l[i]) := by simp only [World.cell?, hold b hb] at hc ⊢; exact hc
      have hst := st_any (n : Int) l[i] _ rfl
      unfold StIs at hst
      have hsn : addL n (l.take (i + 1)) = addS n (addL n (l.take i)) l[i] := by rw [List.take_succ_eq_append_getElem hend, addL_snoc]
      have HSN := (show Hid (addL n (l.take (i + 1)) = addS n (addL n (l.take i)) l[i]) from hsn)
      generalize l[i] = u at *
      clear hsn hc
      cases hu : isSt (n : Int) u with
      | false =>
        rw [hu] at hst
        have hno : ¬ (0 ≤ u ∧ u < (n : Int)) := fun hh => by unfold isSt at hu; rw [decide_eq_true hh.1, decide_eq_true hh.2] at hu; cases hu
        have HN : Hid (addL n (l.take (i + 1)) = addL n (l.take i)) := by show _ = _; rw [HSN.out]; unfold addS; rw [if_neg hno]
        clear hu hno HSN
        go_wp2_with (go_at_call 54; (with_reducible refine (hst _ _ _ _ _ _).mono ?_); rintro e w4 ⟨rfl, b4⟩)
        go_roundw
        case rel => exact ⟨i + 1, by go_num, by omega, by rw [HN.out]; exact HC.out.later b4, HM.out.trans (moved_of b4 (fun b hb => Nat.lt_of_lt_of_le (Nat.lt_of_lt_of_le hb b3.size) kp.1) (Nat.le_trans b3.size kp.1))⟩
        case measure => simp [intOf]; omega
      | true =>
        rw [hu] at hst
        have hyes : 0 ≤ u ∧ u < (n : Int) := by unfold isSt at hu; simpa using hu
        obtain ⟨k, rfl⟩ : ∃ k : Nat, u = (k : Int) := ⟨u.toNat, by omega⟩
        have HN : Hid (addL n (l.take (i + 1)) = addE (addL n (l.take i)) (k : Int)) := by show _ = _; rw [HSN.out]; unfold addS; rw [if_pos hyes]
        have hadd := add_any (fun b => b < w2.heap.size) w2.heap.size c sb n hn2 (addL n (l.take i)).1 (addL n (l.take i)).2 k (by omega)
        unfold AddIs at hadd
        clear hu hyes HSN
        go_wp2_with (first | (go_at_call 54; (with_reducible refine (hst _ _ _ _ _ _).mono ?_); rintro e w4 ⟨rfl, b4⟩; have HC4 := (show Hid _ from HC.out.later b4)) | (go_at_call 33; refine (hadd _ HC4.out).mono ?_; rintro e w5 ⟨⟨v5, rfl⟩, hC5, hM5⟩))
        go_roundw
        case rel => exact ⟨i + 1, by go_num, by omega, by rw [HN.out]; exact hC5, (HM.out.trans (moved_of b4 (fun b hb => Nat.lt_of_lt_of_le (Nat.lt_of_lt_of_le hb b3.size) kp.1) (Nat.le_trans b3.size kp.1))).trans hM5⟩
        case measure => simp [intOf]; omega
    · have ei : l.take i = l := List.take_of_length_le (by omega)
      rw [ei] at HC
      obtain ⟨hq1, hq2⟩ := addL_spec n l
      have E5 : Eds wr o cap x.edges := eds_keep HE.out hold (Nat.le_trans s12 (Nat.le_trans b3.size kp.1))
      have r29 := h29 wr E5
      have HI : Hid (Inv x (fun s => s ∈ l ∧ 0 ≤ s ∧ s < x.n) (addL n l).1 (addL n l).2) := ⟨fun t ht => by rw [hq1]; exact ht, fun t ht => .base (by rw [hx]; exact (hq2 t).1 ht), fun t ht hq => absurd (hq1 ▸ ht) hq⟩
      clear ei
      have hCr := HC.out
      go_wp2_with (first | (go_at_call 31; refine r29.mono ?_; rintro e w6 ⟨fb, nb, rfl, rf, rn, hfn, hf6, hn6, b6⟩; have hCy : Cr (fun b => b < w2.heap.size ∨ b = fb ∨ b = nb) w6 w2.heap.size c sb n (addL n l).1 (addL n l).2 := hCr.more b6 (more_of rf.lt rn.lt hf6 hn6); have hWy : WebAt (fun b => b < w2.heap.size ∨ b = fb ∨ b = nb) w6 x.edges n o cap fb nb := web_of HE.out (fun b hb => (b6.block b (Nat.lt_of_lt_of_le hb (Nat.le_trans s12 (Nat.le_trans b3.size kp.1)))).trans (hold b hb)) s12 rf rn (Nat.le_trans (Nat.le_trans b3.size kp.1) b6.size); have HCy := (show Hid _ from hCy); have HWy := (show Hid _ from hWy)) | (go_at_call 34; refine (h32 _ _ _ c sb _ _ o cap fb nb w6 HCy.out HI.out HWy.out).mono ?_; rintro e w7 ⟨⟨v7, rfl⟩, l', hC7, hI7, hs7, hM7⟩; obtain ⟨m7, va, vw, K7, hm7⟩ := hC7.lie; have hl7 := hC7.len; obtain ⟨ga, ca, hva⟩ := df.own_slice K7.all; subst hva; have k1 := K7.c1; have hsort := sort_any l' (by omega) w2.heap.size _ w7 K7.all) | (go_at_call 80; refine hsort.mono ?_; rintro e w8 ⟨⟨v8, rfl⟩, ho8, hg8⟩; have c8 : w8.cell? ⟨c, 1, none⟩ = some (.slice ga l'.length ca) := (World.cell?_of_block (a := ⟨c, 1, none⟩) (hg8.block c K7.lt K7.nac)).trans k1))
      go_ret
      have hLs : L = sorted l' := up_eq L (sorted l') hL0.up (sorted_up l' hC7.nd) (fun t => by
        rw [hL0.mem t, sorted_mem l' t]
        exact (inv_done hI7 (fun u hu => hs7 u ((hq2 u).2 ⟨hu.1, hu.2.1, by rw [← hx]; exact hu.2.2⟩)) t).symm)
      refine ⟨_, rfl, ?_, ?_⟩
      · rw [hLs]
        exact df.ints_of_owns ho8
      · have c1 : Below w.heap.size w w3 := chain B2 b3
        have c2 : Below w.heap.size w wr := c1.trans (HM.out.be.mono s12)
        have c3 : Below w.heap.size w w6 := c2.trans (b6.mono (Nat.le_trans s12 (Nat.le_trans b3.size kp.1)))
        have c4 : Below w.heap.size w w7 := c3.trans (hM7.be.mono s12)
        exact c4.grown hg8 (Nat.le_trans s12 K7.size) (fun k e => Nat.le_trans s12 (df.own_ge K7.all k e))
end Go.Proofs.Ytfilndgbgdnpiaa.nf
