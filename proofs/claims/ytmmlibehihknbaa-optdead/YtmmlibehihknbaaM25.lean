/-
  Texts put together: Contracts over this program: what stages' parts are in memory; (*opt.parts).comes; the document's has (fretsawref20). The library's BinarySearch of ints, laid at this program: whether a number is in a rising list.
-/
import Derived.Test.YtmmlibehihknbaaKWc
import Derived.Test.YtmmlibehihknbaaKVc
import Derived.Shelf.Slices.SearchI
namespace Go.Proofs.Ytmmlibehihknbaa.op
open Go.ChangeShapes Go.WideShapes Go.ChangeAt Go.RowKit
open tr (Mc Mp mv MAt Right pt en tx Lo)
open ir (Sm SmAt Gs svL)
open mg (chain below_alloc IntsV)
set_option linter.unusedVariables false
set_option maxRecDepth 100000

/-- parts in a block: the machines' row, the splitter's map, the merges, the numbers left out -/
structure PB (w : World) (gp : Nat) (l : List Sm) (k : Nat) (mp : Nat → Nat) (vm vd : Value) (mo : Option Addr) (mc : Nat) : Prop where
  lt : gp < w.heap.size
  c0 : w.cell? ⟨gp, 0, none⟩ = some (.slice mo k mc)
  fit : k ≤ mc
  top : mc ≤ 9223372036854775807
  ms : ∀ i (hi : i < l.length), i < k → ∃ bm boff, mo = some ⟨bm, boff, none⟩ ∧ bm < w.heap.size ∧ w.rangeAt bm (boff + i * 4) (mv l[i].m l[i].q).toList
  tos : ∀ x, x < 256 → w.cell? ⟨gp, 259 + x, none⟩ = some (.int .u8 (mp x : Nat))
  mg : w.cell? ⟨gp, 515, none⟩ = some vm
  dr : w.cell? ⟨gp, 516, none⟩ = some vd
theorem PB.later {w w' : World} {gp : Nat} {l : List Sm} {k : Nat} {mp : Nat → Nat} {vm vd : Value} {mo : Option Addr} {mc : Nat} (h : PB w gp l k mp vm vd mo mc) (b : Below w.heap.size w w') : PB w' gp l k mp vm vd mo mc :=
  ⟨Nat.lt_of_lt_of_le h.lt b.size, (b.cell (p := ⟨gp, 0, none⟩) h.lt).trans h.c0, h.fit, h.top, fun i hi hk => by
    obtain ⟨bm, boff, e, hb, hr⟩ := h.ms i hi hk
    exact ⟨bm, boff, e, Nat.lt_of_lt_of_le hb b.size, ir.range_later hr hb b⟩, fun x hx => (b.cell (p := ⟨gp, 259 + x, none⟩) h.lt).trans (h.tos x hx), (b.cell (p := ⟨gp, 515, none⟩) h.lt).trans h.mg, (b.cell (p := ⟨gp, 516, none⟩) h.lt).trans h.dr⟩
/-- which bytes may come to the splitter -/
def cmB (l : List Sm) : Nat → Nat → Bool
  | 0, _ => true
  | k + 1, b => (l[k]?.map fun x => putsB x.m b).getD true
def CsOut (p : Nat → Bool) (w : World) (e : Ending) (w' : World) : Prop := e = .returned (.agg (fc 256 (fb p))) ∧ Below w.heap.size w w'
set_option maxHeartbeats 4000000 in
theorem comes_0 (gp : Nat) (w : World) (mo : Option Addr) (mc : Nat) (h : w.cell? ⟨gp, 0, none⟩ = some (.slice mo 0 mc)) (hlt : gp < w.heap.size) : Calls Try.prog 35 #[.pointer (some ⟨gp, 0, none⟩)] w (CsOut (fun _ => true) w) := by
  obtain ⟨Z, hZ⟩ : ∃ Z, Z = no256 := ⟨_, rfl⟩
  have hzero : ∀ w, (zeroValue 88).run Try.prog w = .ok (.agg Z) w := by rw [hZ]; exact zero88
  have b1 := below_alloc w (.cells Z 88)
  have b2 := below_alloc (w.alloc (.cells Z 88)) (.cells Z 88)
  have k0 := (b1.cell (p := ⟨gp, 0, none⟩) hlt).trans h
  have k1 := (b2.cell (p := ⟨gp, 0, none⟩) (by simp; omega)).trans k0
  have HA := (show Hid (FRow ((w.alloc (.cells Z 88)).alloc (.cells Z 88)) w.heap.size 88 256 (fb fun _ => false)) from by
    rw [hZ]
    have a : (w.alloc (.cells no256 88)).heap[w.heap.size]? = some (.cells no256 88 (0, 0)) := heap_alloc_new w _
    exact ((below_alloc (w.alloc (.cells no256 88)) _).block _ (by simp)).trans a)
  have HM := (show Hid (FRow ((w.alloc (.cells Z 88)).alloc (.cells Z 88)) (w.heap.size + 1) 88 256 (fb fun b => decide (b < 0))) from by
    rw [hZ]
    have a : ((w.alloc (.cells no256 88)).alloc (.cells no256 88)).heap[(w.alloc (.cells no256 88)).heap.size]? = some (.cells no256 88 (0, 0)) := heap_alloc_new _ _
    rw [World.size_alloc] at a
    exact FRow.congr (a : FRow _ _ 88 256 (fb fun _ => false)) fun i _ => by simp [fb])
  have HB := (show Hid (Below w.heap.size w ((w.alloc (.cells Z 88)).alloc (.cells Z 88))) from chain b1 b2)
  clear b1 b2 hZ
  go_enter Try.func35, Try.ntmps35
  go_wp2_with (fail)
  generalize (w.alloc (.cells Z 88)).alloc (.cells Z 88) = w2 at *
  clear hzero h
  go_loopw [22] (fun y wr => ∃ i : Nat, y = .int .i64 (i : Int) ∧ i ≤ 256 ∧ Hid (FRow wr (w.heap.size + 1) 88 256 (fb fun b => decide (b < i))) ∧ Hid (FRow wr w.heap.size 88 256 (fb fun _ => false)) ∧ Hid (Below w.heap.size w wr)) (fun y _ => 256 - (intOf y).toNat)
  case atStart => exact ⟨0, rfl, by omega, HM, HA, HB⟩
  case round =>
    clear HA HM HB k1
    obtain ⟨i, rfl, hi, HM, HA, HB⟩ := hrel
    by_cases hin : i < 256
    · have q1 := HM.out.cell hin
      have q2 := HM.out.fz i
      have HN := (show Hid (FRow (wr.setCell ⟨w.heap.size + 1, i, none⟩ (.bool true)) (w.heap.size + 1) 88 256 (fb fun b => decide (b < i + 1))) from (HM.out.put i _).congr fun b _ => by
        by_cases e : b = i
        · subst e; simp [fb]
        · rw [if_neg e]
          have h3 : decide (b < i) = decide (b < i + 1) := by rw [Bool.eq_iff_iff]; simp; omega
          simp only [fb, h3])
      have HA2 := (show Hid (FRow (wr.setCell ⟨w.heap.size + 1, i, none⟩ (.bool true)) w.heap.size 88 256 (fb fun _ => false)) from HA.out.other (by omega) i _)
      have HB2 := (show Hid (Below w.heap.size w (wr.setCell ⟨w.heap.size + 1, i, none⟩ (.bool true))) from HB.out.setCell (p := ⟨w.heap.size + 1, i, none⟩) (by simp) _)
      unfold fb at q1
      clear HA HB HM
      go_wp2_with (fail)
      go_roundw
      case rel => exact ⟨i + 1, by go_num, by omega, HN, HA2, HB2⟩
      case measure => simp [intOf]; omega
    · have hmy : FRow wr (w.heap.size + 1) 88 256 (fb fun _ => true) := HM.out.congr fun b hb => by
        have h3 : decide (b < i) = true := decide_eq_true (by omega)
        simp only [fb, h3]
      have hrs := HA.out
      have hi1 := info88f (fb fun _ => true)
      have hone : (fc 256 (fb fun _ => true)).all (·.oneCell') = true := fc_one fun _ => rfl
      have hold : (fc 256 (fb fun _ => false)).size = (fc 256 (fb fun _ => true)).size := by rw [fc_size, fc_size]
      have HR2 := (show Hid (FRow (wr.setRow w.heap.size (fc 256 (fb fun _ => true))) w.heap.size 88 256 (fb fun _ => true)) from setRow_heap _ _ _ _ _ _ hrs)
      have HB2 := (show Hid (Below w.heap.size w (wr.setRow w.heap.size (fc 256 (fb fun _ => true)))) from below_row HB.out (Nat.le_refl _) (Nat.le_refl _) _)
      obtain ⟨W2, hW2⟩ : ∃ W2, wr.setRow w.heap.size (fc 256 (fb fun _ => true)) = W2 := ⟨_, rfl⟩
      rw [hW2] at HR2 HB2
      unfold FRow at hmy hrs
      have HF := (show Hid (FRow W2 w.heap.size 88 256 (fb fun _ => true)) from HR2.out)
      generalize hF : (fb fun _ => true) = F at hmy hi1 hone hold hW2 HR2 ⊢
      clear HM HA HB
      go_wp2_with (first | (refine wpList_load_row rfl 88 (.tmp 4) rfl (w.heap.size + 1) rfl 88 (fc 256 F) (0, 0) _ hmy Try.underlying88 rfl hi1 ?_) | (refine wpList_store_row rfl 88 (.tmp 2) (.tmp 28) rfl w.heap.size (fc 256 F) rfl rfl 88 _ hrs hi1 hold hone ?_; rw [hW2]))
      refine ret88 rfl w.heap.size F rfl HR2.out rfl ?_
      exact ⟨by rw [hF], HB2.out⟩
set_option maxHeartbeats 4000000 in
theorem comes_k (gp k k' : Nat) (hk : k = k' + 1) (w : World) (bm boff mc : Nat) (hc1 : k ≤ mc) (hc2 : mc ≤ 9223372036854775807) (h : w.cell? ⟨gp, 0, none⟩ = some (.slice (some ⟨bm, boff, none⟩) k mc)) (hlt : gp < w.heap.size) (hbm : bm < w.heap.size) (m : Mc) (q : Mp) (hr : w.rangeAt bm (boff + k' * 4) (mv m q).toList) (hR : Right m) (hM : MAt (tr.In w) w m q) : Calls Try.prog 35 #[.pointer (some ⟨gp, 0, none⟩)] w (CsOut (putsB m) w) := by
  obtain ⟨Z, hZ⟩ : ∃ Z, Z = no256 := ⟨_, rfl⟩
  have hzero : ∀ w, (zeroValue 88).run Try.prog w = .ok (.agg Z) w := by rw [hZ]; exact zero88
  have b1 := below_alloc w (.cells Z 88)
  have k0 := (b1.cell (p := ⟨gp, 0, none⟩) hlt).trans h
  have hrg := ir.range_later hr hbm b1
  have c39 := puts_any m hR q _ (hM.later b1)
  rw [show (Value.agg (mv m q)) = .agg (mv m q).toList.toArray by simp] at c39
  have i1 : (Try.prog.info? 32).map (·.size) = some (mv m q).toList.length := ir.info32
  have HA := (show Hid (FRow (w.alloc (.cells Z 88)) w.heap.size 88 256 (fb fun _ => false)) from by rw [hZ]; exact heap_alloc_new w _)
  have HB := (show Hid (Below w.heap.size w (w.alloc (.cells Z 88))) from b1)
  have HSZ := (show Hid (w.heap.size < (w.alloc (.cells Z 88)).heap.size) from by show _ < _; simp)
  have f1 : ((k : Nat) : Int) - 1 = (k' : Int) := by omega
  have f2 : decide ((0 : Int) < (k : Int)) = true := decide_eq_true (by omega)
  have f3 : k' < k := by omega
  generalize (mv m q).toList = M at *
  clear b1 hZ hr hM hk
  go_enter Try.func35, Try.ntmps35
  go_wp2_with (refine wpList_load_mid rfl 32 (.tmp 19) rfl bm (boff + k' * 4) rfl M _ hrg Try.underlying32 rfl i1 ?_)
  go_at_call 39
  refine c39.mono ?_
  rintro e w2 ⟨rfl, b2⟩
  have hrs : FRow w2 w.heap.size 88 256 (fb fun _ => false) := (b2.block _ HSZ.out).trans HA.out
  have hi1 := info88f (fb (putsB m))
  have hone : (fc 256 (fb (putsB m))).all (·.oneCell') = true := fc_one fun _ => rfl
  have hold : (fc 256 (fb fun _ => false)).size = (fc 256 (fb (putsB m))).size := by rw [fc_size, fc_size]
  have HR2 := (show Hid (FRow (w2.setRow w.heap.size (fc 256 (fb (putsB m)))) w.heap.size 88 256 (fb (putsB m))) from setRow_heap _ _ _ _ _ _ hrs)
  have HB2 := (show Hid (Below w.heap.size w (w2.setRow w.heap.size (fc 256 (fb (putsB m))))) from below_row (chain HB.out b2) (Nat.le_refl _) (Nat.le_refl _) _)
  obtain ⟨W2, hW2⟩ : ∃ W2, w2.setRow w.heap.size (fc 256 (fb (putsB m))) = W2 := ⟨_, rfl⟩
  rw [hW2] at HR2 HB2
  unfold FRow at hrs
  generalize hF : fb (putsB m) = F at *
  clear c39 b2 hrg k0
  go_wp2_with (refine wpList_store_row rfl 88 (.tmp 2) (.tmp 21) rfl w.heap.size (fc 256 F) rfl rfl 88 _ hrs hi1 hold hone ?_; rw [hW2])
  refine ret88 rfl w.heap.size F rfl HR2.out rfl ?_
  exact ⟨by rw [hF], HB2.out⟩
set_option maxHeartbeats 2000000 in
theorem has_any (l : List Int) (x : Int) (r : Bool) (hr : r = l.contains x) (v : Value) (w : World) (hv : IntsV w v l) : Calls Try.prog 29 #[v, .int .i64 x] w fun e w' => e = .returned (.bool r) ∧ w' = w := by
  obtain ⟨o, cap, rfl, h1, h2, HI⟩ := ir.iv_of hv
  have HX := (show Hid (r = l.contains x) from hr)
  clear hr hv
  go_enter Try.func29, Try.ntmps29
  go_wp2_with (fail)
  go_loopw [9] (fun y wr => ∃ i : Nat, y = .int .i64 (i : Int) ∧ i ≤ l.length ∧ wr = w ∧ Hid (∀ j (hj : j < l.length), j < i → l[j] ≠ x)) (fun y _ => l.length - (intOf y).toNat)
  case atStart => exact ⟨0, rfl, by omega, rfl, fun j hj h => by omega⟩
  case round =>
    obtain ⟨i, rfl, hi, rfl, HA⟩ := hrel
    by_cases hin : i < l.length
    · obtain ⟨b, off, rfl, hc⟩ := HI.out wr (Below.refl _ _) i hin
      have HN := (show Hid (l[i] ≠ x → ∀ j (hj : j < l.length), j < i + 1 → l[j] ≠ x) from fun e j hj hj2 => by
        by_cases q : j = i
        · subst q; exact e
        · exact HA.out j hj (by omega))
      have HT := (show Hid (l[i] = x → r = true) from fun e => by rw [HX.out, List.contains_iff_mem, ← e]; exact List.getElem_mem _)
      generalize l[i] = z at *
      clear HA
      by_cases e : z = x
      · have HF := (show Hid (r = true) from HT.out e)
        subst e
        go_wp2_with (fail)
        go_ret
        exact ⟨by rw [HF.out]; rfl, rfl⟩
      · have HN2 := (show Hid (∀ j (hj : j < l.length), j < i + 1 → l[j] ≠ x) from HN.out e)
        have hne : (x == z) = false := beq_eq_false_iff_ne.2 (Ne.symm e)
        clear HN HT
        go_wp2_with (fail)
        go_roundw
        case rel => exact ⟨i + 1, by go_num, by omega, trivial, HN2⟩
        case measure => simp [intOf]; omega
    · have HF := (show Hid (r = false) from by
        show _ = _
        rw [HX.out]
        cases hb : l.contains x with
        | false => rfl
        | true =>
          rw [List.contains_iff_mem] at hb
          obtain ⟨j, hj, e⟩ := List.mem_iff_getElem.1 hb
          exact absurd e (HA.out j hj (by omega)))
      clear HA
      go_wp2_with (fail)
      go_ret
      exact ⟨by rw [HF.out]; rfl, rfl⟩
end Go.Proofs.Ytmmlibehihknbaa.op

namespace Go.Proofs.Ytmmlibehihknbaa.op
open Go.ChangeShapes Go.WideShapes Go.ChangeAt Go.RowKit Go.Shelf
open mg (chain below_alloc IntsV)
set_option linter.unusedVariables false
set_option maxRecDepth 100000

def renB : Go.Shelf.Ren := ⟨fun | 25 => 36 | 31 => 40 | 32 => 41 | 37 => 42 | n => n, fun | 22 => 25 | 40 => 95 | n => n, fun | n => n⟩
theorem laysB : Go.Proofs.Lays2.n25 Try.prog renB := {
  mixed := by kernel_rfl
  f25 := by kernel_rfl
  f31 := by kernel_rfl
  f32 := by kernel_rfl
  f37 := by kernel_rfl
  t0 := Try.underlying0
  a0 := Try.isAgg0
  z0 := Try.sizeOf0
  v0 := Try.zeroValue0
  t3 := Try.underlying3
  a3 := Try.isAgg3
  z3 := Try.sizeOf3
  v3 := Try.zeroValue3
  t4 := Try.underlying4
  a4 := Try.isAgg4
  z4 := Try.sizeOf4
  v4 := Try.zeroValue4
  t22 := Try.underlying25
  a22 := Try.isAgg25
  z22 := Try.sizeOf25
  v22 := Try.zeroValue25
  t40 := Try.underlying95
  a40 := Try.isAgg95
  z40 := Try.sizeOf95
  v40 := Try.zeroValue95 }
theorem below_drewN (w : World) (q : Nat) : Below w.heap.size w (w.drewN q) := ⟨rfl, rfl, rfl, Nat.le_refl _, fun _ _ => rfl⟩
/-- numbers that rise, by what the document's Drop asks -/
theorem rises : ∀ (least : Int) (n : Nat) (l : List Int), hp.numB least n l = true → l.Pairwise (· ≤ ·) ∧ ∀ x ∈ l, least ≤ x
  | _, _, [] => fun _ => ⟨List.Pairwise.nil, fun x hx => by cases hx⟩
  | least, n, x :: l => fun h => by
    unfold hp.numB at h
    split at h
    · cases h
    · rename_i h1
      obtain ⟨h2, h3⟩ := rises (x + 1) n l h
      refine ⟨List.pairwise_cons.2 ⟨fun y hy => by have := h3 y hy; omega, h2⟩, fun y hy => ?_⟩
      rcases List.mem_cons.1 hy with rfl | hy
      · omega
      · have := h3 y hy; omega
set_option maxHeartbeats 1000000 in
theorem search_nil (o : Option Addr) (cap : Nat) (x : Int) (w : World) : Calls Try.prog 36 #[.slice o 0 cap, .int .i64 x] w fun e w' => e = .returned (.tuple #[.int .i64 0, .bool false]) ∧ Below w.heap.size w w' := by
  go_enter Try.func36, Try.ntmps36
  go_wp2_with (fail)
  go_loopw [7, 8] (fun y z wr => y = .int .i64 0 ∧ z = .int .i64 0 ∧ wr = w) (fun _ _ _ => 0)
  case atStart => exact ⟨rfl, rfl, rfl⟩
  case round =>
    obtain ⟨rfl, rfl, rfl⟩ := hrel
    go_wp2_with (fail)
    go_ret2
    exact ⟨rfl, Below.refl _ _⟩
theorem search_any (l : List Int) (x : Int) (hs : l.Pairwise (· ≤ ·)) (hn : l.length ≤ 100000) (v : Value) (w : World) (hv : IntsV w v l) : ∃ c : Nat, Calls Try.prog 36 #[v, .int .i64 x] w fun e w' => e = .returned (.tuple #[.int .i64 (c : Int), .bool (l.contains x)]) ∧ Below w.heap.size w w' := by
  obtain ⟨o, cap, rfl, hr⟩ := hv
  by_cases h0 : l.length = 0
  · have hl : l = [] := List.length_eq_zero_iff.1 h0
    subst hl
    exact ⟨0, search_nil o cap x w⟩
  · obtain ⟨b, off, rfl, hb, _⟩ := hr.lie 0 (by omega)
    have hcl : ∀ j, j < l.length → w.cell? ⟨b, off + j, none⟩ = some (.int .i64 (l.getD j 0)) := fun j hj => by
      obtain ⟨b', off', e, _, hc⟩ := hr.lie j hj
      simp at e
      obtain ⟨rfl, rfl⟩ := e
      rw [hc, List.getD_eq_getElem?_getD, List.getElem?_eq_getElem hj]
      rfl
    have c := Any.slices_BinarySearch_int laysB b off l.length cap l x w (Nat.le_refl _) (by omega) hcl (by rw [List.take_length]; exact hs)
    refine ⟨(l.take l.length).countP (· < x), c.mono fun e w' h => ?_⟩
    obtain ⟨rfl, q, rfl⟩ := h
    rw [List.take_length]
    exact ⟨rfl, below_drewN w q⟩
end Go.Proofs.Ytmmlibehihknbaa.op
