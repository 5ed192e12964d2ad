/-
  Contracts over this program: bytes by which every state goes to the same one, in one class (classes).
-/
import Derived.Test.YtkdkibnjfgcppaaKMj
import Derived.Deep.MidRow
namespace Go.Proofs.Ytkdkibnjfgcppaa.mi
open Go.ChangeShapes Go.WideShapes Go.ChangeAt Go.RowKit Go.Shelf Go.Maps
set_option linter.unusedVariables false

/-! plain: one row more -/
theorem firsts_yes {col : Nat → List Int} {b : Nat} (h : ∃ c ∈ firsts col b, col c = col b) : firsts col (b + 1) = firsts col b := by
  obtain ⟨c, hc, e⟩ := h
  rw [firsts, if_pos (List.any_eq_true.2 ⟨c, hc, by simpa using e⟩)]
theorem firsts_no {col : Nat → List Int} {b : Nat} (h : ¬ ∃ c ∈ firsts col b, col c = col b) : firsts col (b + 1) = firsts col b ++ [b] := by
  rw [firsts, if_neg]
  intro hc
  obtain ⟨c, hc, e⟩ := List.any_eq_true.1 hc
  exact h ⟨c, hc, by simpa using e⟩
theorem cls_step {col : Nat → List Int} {key : Nat → St} (hk : ∀ b c, b < 256 → c < 256 → (key b = key c ↔ col b = col c)) {b k : Nat} (hb : b < 256) {l l' : List St} (hl : l = (firsts col b).map key) (hnd : l.Nodup) (h1 : l'[k]? = some (key b)) (h2 : l' = l ∨ (key b ∉ l ∧ l' = l ++ [key b])) :
    l' = (firsts col (b + 1)).map key ∧ l'.Nodup ∧ k = clsOf col 256 b := by
  have hmem : key b ∈ l ↔ ∃ c ∈ firsts col b, col c = col b := by
    rw [hl, List.mem_map]
    constructor
    · rintro ⟨c, hc, e⟩; exact ⟨c, hc, (hk c b (by have := firsts_lt col b c hc; omega) hb).1 e⟩
    · rintro ⟨c, hc, e⟩; exact ⟨c, hc, (hk c b (by have := firsts_lt col b c hc; omega) hb).2 e⟩
  have hl' : l' = (firsts col (b + 1)).map key ∧ l'.Nodup := by
    rcases h2 with rfl | ⟨hn, rfl⟩
    · rw [firsts_yes (hmem.1 (List.mem_of_getElem? h1))]; exact ⟨hl, hnd⟩
    · rw [firsts_no (fun h => hn (hmem.2 h)), List.map_append, ← hl]
      refine ⟨rfl, ?_⟩
      rw [List.nodup_append]
      exact ⟨hnd, by simp, fun a ha c hc e => by rw [List.mem_singleton.1 hc] at e; exact hn (e ▸ ha)⟩
  refine ⟨hl'.1, hl'.2, ?_⟩
  obtain ⟨c, e1, e2⟩ := cls_at col (k := b + 1) (b := b) (by omega)
  have e3 : l'[clsOf col (b + 1) b]? = some (key b) := by
    rw [hl'.1, List.getElem?_map, e1]
    have hc := firsts_lt col (b + 1) c (List.mem_of_getElem? e1)
    exact congrArg some ((hk c b (by omega) hb).2 e2)
  rw [cls_pre col (k := b + 1) (j := 256) (by omega) (by omega)]
  exact nodup_idx hl'.2 h1 e3
/-- the classes of the bytes -/
def clsL (rows : List (List Int)) : List Nat := (List.range 256).map (clsOf (colOf rows) 256)
theorem clsL_len (rows : List (List Int)) : (clsL rows).length = 256 := by simp [clsL]
theorem clsL_get (rows : List (List Int)) (b : Nat) (hb : b < 256) : (clsL rows)[b]? = some (clsOf (colOf rows) 256 b) := by
  unfold clsL; rw [List.getElem?_map, List.getElem?_range hb]; rfl
theorem clsL_lt (rows : List (List Int)) (b : Nat) (hb : b < 256) : clsOf (colOf rows) 256 b < 256 := Nat.lt_of_lt_of_le (cls_lt _ hb) (firsts_len _ _)
/-- the classes, where the first b bytes are parted by one row more -/
def mixL (rows : List (List Int)) (r : List Int) (b : Nat) : List Nat := (List.range 256).map fun j => if j < b then clsOf (colOf (rows ++ [r])) 256 j else clsOf (colOf rows) 256 j
theorem mixL_len (rows : List (List Int)) (r : List Int) (b : Nat) : (mixL rows r b).length = 256 := by simp [mixL]
theorem mixL_get (rows : List (List Int)) (r : List Int) (b j : Nat) (hj : j < 256) : (mixL rows r b)[j]? = some (if j < b then clsOf (colOf (rows ++ [r])) 256 j else clsOf (colOf rows) 256 j) := by
  unfold mixL; rw [List.getElem?_map, List.getElem?_range hj]; rfl
theorem mixL_zero (rows : List (List Int)) (r : List Int) : mixL rows r 0 = clsL rows := by
  unfold mixL clsL
  exact List.map_congr_left fun j _ => by rw [if_neg (by omega)]
theorem mixL_all (rows : List (List Int)) (r : List Int) : mixL rows r 256 = clsL (rows ++ [r]) := by
  unfold mixL clsL
  exact List.map_congr_left fun j hj => by rw [if_pos (List.mem_range.1 hj)]
theorem mixL_set (rows : List (List Int)) (r : List Int) (b : Nat) (hb : b < 256) : (mixL rows r b).set b (clsOf (colOf (rows ++ [r])) 256 b) = mixL rows r (b + 1) := by
  apply List.ext_getElem?
  intro j
  by_cases hj : j < 256
  · rw [mixL_get _ _ _ _ hj]
    by_cases e : j = b
    · subst e
      rw [List.getElem?_set_self (by rw [mixL_len]; exact hb), if_pos (by omega)]
    · rw [List.getElem?_set_ne (fun h => e h.symm), mixL_get _ _ _ _ hj]
      by_cases h : j < b
      · rw [if_pos h, if_pos (by omega)]
      · rw [if_neg h, if_neg (by omega)]
  · rw [List.getElem?_eq_none (by rw [List.length_set, mixL_len]; omega), List.getElem?_eq_none (by rw [mixL_len]; omega)]
def keyL (rows : List (List Int)) (r : List Int) (b : Nat) : St := (clsOf (colOf rows) 256 b, r.getD b 0)
theorem keyL_iff (rows : List (List Int)) (r : List Int) (b c : Nat) (hb : b < 256) (hc : c < 256) : keyL rows r b = keyL rows r c ↔ colOf (rows ++ [r]) b = colOf (rows ++ [r]) c := by
  rw [col_snoc]
  unfold keyL
  rw [Prod.mk.injEq, cls_iff _ hb hc]

/-! in memory -/
def ccs (xs : List Nat) : Array Value := (xs.map fun n : Nat => Value.int .u8 (n : Int)).toArray
def CBox (w : World) (g : Nat) (xs : List Nat) : Prop := w.heap[g]? = some (.cells (ccs xs) 22 (0, 0))
theorem ccs_size (xs : List Nat) : (ccs xs).size = xs.length := by simp [ccs]
theorem CBox.lt {w : World} {g : Nat} {xs : List Nat} (h : CBox w g xs) : g < w.heap.size := (Array.getElem?_eq_some_iff.1 h).1
theorem CBox.cell {w : World} {g : Nat} {xs : List Nat} (h : CBox w g xs) {i x : Nat} (hx : xs[i]? = some x) : w.cell? ⟨g, i, none⟩ = some (.int .u8 (x : Int)) := by
  rw [Lib.cell_of_heap h]
  simp [ccs, hx]
theorem CBox.put {w : World} {g : Nat} {xs : List Nat} (h : CBox w g xs) (i v : Nat) : CBox (w.setCell ⟨g, i, none⟩ (.int .u8 (v : Int))) g (xs.set i v) := by
  unfold CBox
  rw [set_heap w _ _ _ i _ h]
  unfold ccs
  rw [List.setIfInBounds_toArray, List.map_set]
def zc : List Nat := List.replicate 256 0
theorem zero22 : ∀ w, (zeroValue 22).run Try.prog w = .ok (.agg (ccs zc)) w :=
  (zero_of_info (P := Try.prog) (t := 22) (v := .agg (ccs zc)) (n := 256) (by kernel_rfl)).1
theorem zc_cls : zc = clsL [] := by
  symm
  refine List.eq_replicate_iff.2 ⟨clsL_len _, fun x hx => ?_⟩
  obtain ⟨b, _, rfl⟩ := List.mem_map.1 hx
  exact cls_none b
theorem ccs_one (xs : List Nat) : (ccs xs).all (·.oneCell') = true := by
  rw [Array.all_eq_true_iff_forall_mem]
  intro v hv
  simp [ccs] at hv
  obtain ⟨x, _, rfl⟩ := hv
  rfl
theorem sizeC (xs : List Nat) (h : xs.length = 256) : (Try.prog.info? 22).map (·.size) = some (ccs xs).size := by rw [ccs_size, h]; kernel_rfl
def ics (r : List Int) : Array Value := (r.map fun n : Int => Value.int .i64 n).toArray
def RBox (w : World) (g : Nat) (r : List Int) : Prop := w.heap[g]? = some (.cells (ics r) 89 (0, 0))
theorem ics_size (xs : List Int) : (ics xs).size = xs.length := by simp [ics]
theorem RBox.lt {w : World} {g : Nat} {r : List Int} (h : RBox w g r) : g < w.heap.size := (Array.getElem?_eq_some_iff.1 h).1
def zr : List Int := List.replicate 256 0
theorem zero89 : ∀ w, (zeroValue 89).run Try.prog w = .ok (.agg (ics zr)) w :=
  (zero_of_info (P := Try.prog) (t := 89) (v := .agg (ics zr)) (n := 256) (by kernel_rfl)).1
theorem ics_one (xs : List Int) : (ics xs).all (·.oneCell') = true := by
  rw [Array.all_eq_true_iff_forall_mem]
  intro v hv
  simp [ics] at hv
  obtain ⟨x, _, rfl⟩ := hv
  rfl
theorem sizeR (xs : List Int) (h : xs.length = 256) : (Try.prog.info? 89).map (·.size) = some (ics xs).size := by rw [ics_size, h]; kernel_rfl
theorem storeR (w : World) (s r : List Int) (hs : s.length = 256) (hr : r.length = 256) : (storeCells ⟨w.heap.size, 0, none⟩ (ics r).toList).run Try.prog (w.alloc (.cells (ics s) 89)) = .ok () (w.alloc (.cells (ics r) 89)) :=
  run_storeCells_new (P := Try.prog) w 89 (ics s) (ics r) (sizeR r hr) (by rw [ics_size, ics_size, hs, hr]) (ics_one r)
theorem index89 (r : List Int) (i : Nat) (hi : i < 256) (x : Int) (hx : r[i]? = some x) (W : World) : (Instr.index 89 (.agg (ics r)) (.int .i64 (i : Int))).run Try.prog W = .ok (.int .i64 x) W :=
  df.run_index_arr 89 3 256 (ics r) i hi (.int .i64 x) (by simp [ics, hx]) W Try.underlying89 (Try.isAgg3 W) (Try.sizeOf3 W)
/-- rows, one behind the other -/
def RRows (P : Nat → Prop) (w : World) (o : Option Addr) (cap : Nat) (rows : List (List Int)) : Prop := rows.length ≤ cap ∧ cap ≤ 9223372036854775807 ∧ (∀ r ∈ rows, r.length = 256) ∧ ∀ i (h : i < rows.length), ∃ g, o = some ⟨g, 0, none⟩ ∧ P g ∧ w.rangeAt g (i * 256) (rows[i].map fun n : Int => Value.int .i64 n)
theorem RRows.carry {P Q : Nat → Prop} {w w' : World} {o : Option Addr} {cap : Nat} {rows : List (List Int)} (h : RRows P w o cap rows) (hk : ∀ b, P b → w'.heap[b]? = w.heap[b]?) (hq : ∀ b, P b → Q b) : RRows Q w' o cap rows :=
  ⟨h.1, h.2.1, h.2.2.1, fun i hi => by
    obtain ⟨g, e, hp, hr⟩ := h.2.2.2 i hi
    refine ⟨g, e, hq g hp, fun j v hv => ?_⟩
    have := hr j v hv
    simp only [World.cell?, hk g hp] at this ⊢
    exact this⟩
set_option maxHeartbeats 1000000 in
set_option maxRecDepth 100000 in
theorem classes_any (rows : List (List Int)) (hv : ∀ r ∈ rows, ∀ x ∈ r, -1 ≤ x ∧ x ≤ 1000) (hn : rows.length ≤ 1000) (o : Option Addr) (cap : Nat) (w : World) (hR : RRows (df.In w) w o cap rows) :
    Calls Try.prog 40 #[.slice o rows.length cap] w fun e w' => e = .returned (.tuple #[.agg (ccs (clsL rows)), .int .i64 ((firsts (colOf rows) 256).length : Nat)]) ∧ Below w.heap.size w w' := by
  have hz := zero22
  have hz2 := zero89
  have hmm := @run_makeMap Try.prog
  have hcap := hR.1
  have hcap2 := hR.2.1
  obtain ⟨wB, hwB⟩ : ∃ wB, wB = (w.alloc (.cells (ccs zc) 22)).alloc (.cells (ccs zc) 22) := ⟨_, rfl⟩
  have BB : Below w.heap.size w wB := by rw [hwB]; exact ((Below.refl _ _).alloc (Nat.le_refl _) _).alloc (by simp) _
  have hsB : wB.heap.size = w.heap.size + 1 + 1 := by rw [hwB]; simp
  have xR : CBox wB w.heap.size zc := by rw [hwB]; exact (Below.heap_alloc _ _ _ (by simp)).trans (heap_alloc_new w _)
  have xC : CBox wB (w.heap.size + 1) (clsL []) := by
    rw [← zc_cls, hwB]
    have := heap_alloc_new (w.alloc (.cells (ccs zc) 22)) (.cells (ccs zc) 22)
    rw [World.size_alloc] at this
    exact this
  have HV : Hid (∀ r ∈ rows, ∀ x ∈ r, -1 ≤ x ∧ x ≤ 1000) := hv
  have HRR : Hid (RRows (df.In w) w o cap rows) := hR
  go_enter Try.func40, Try.ntmps40
  go_wp2_with (fail)
  rw [← hwB]
  clear hwB hv hR
  have HSB : Hid (wB.heap.size = w.heap.size + 1 + 1) := hsB
  have HX : Hid (∀ W, Below (w.heap.size + 1) wB W → RRows (df.In w) W o cap rows ∧ CBox W w.heap.size zc ∧ Below w.heap.size w W) := fun W b =>
    ⟨HRR.out.carry (fun k hk => (b.block k (by unfold df.In at hk; omega)).trans (BB.block k hk)) (fun _ => id), (b.block _ (by omega)).trans xR, BB.trans ⟨b.os, b.tape, b.output, b.size, fun k hk => b.block k (by omega)⟩⟩
  clear xR
  go_loopw [5, 13] (fun y z wr => ∃ i : Nat, z = .int .i64 (i : Int) ∧ y = .int .i64 ((firsts (colOf (rows.take i)) 256).length : Nat) ∧ i ≤ rows.length ∧ CBox wr (w.heap.size + 1) (clsL (rows.take i)) ∧ Below (w.heap.size + 1) wB wr) (fun _ z _ => rows.length - (intOf z).toNat)
  case atStart => exact ⟨0, rfl, by rw [List.take_zero, firsts_none]; rfl, by omega, xC, Below.refl _ _⟩
  case round =>
    obtain ⟨i, rfl, rfl, hi, hC, hB⟩ := hrel
    obtain ⟨hR2, hZ2, hBw⟩ := HX.out wr hB
    by_cases hlt : i < rows.length
    · obtain ⟨g, rfl, hg, hra⟩ := hR2.2.2.2 i hlt
      have hgl : g < w.heap.size := hg
      obtain ⟨r, hr⟩ : ∃ r, r = rows[i] := ⟨_, rfl⟩
      rw [← hr] at hra
      have hrl : r.length = 256 := by rw [hr]; exact hR2.2.2.1 _ (List.getElem_mem hlt)
      have HTK : Hid (rows.take (i + 1) = rows.take i ++ [r]) := by show _ = _; rw [hr, List.take_succ_eq_append_getElem hlt]
      have HRV : Hid (∀ x ∈ r, -1 ≤ x ∧ x ≤ 1000) := by rw [hr]; exact HV.out _ (List.getElem_mem hlt)
      clear hr hR2
      obtain ⟨pre, hpre⟩ : ∃ pre, pre = rows.take i := ⟨_, rfl⟩
      rw [← hpre] at hC HTK ⊢
      generalize (firsts (colOf pre) 256).length = n0 at *
      have hst := storeR wr zr r rfl hrl
      have hrc : (r.map fun n : Int => Value.int .i64 n).length = 256 := by simp [hrl]
      have hi89 : (Try.prog.info? 89).map (·.size) = some (r.map fun n : Int => Value.int .i64 n).length := by rw [hrc]; kernel_rfl
      have hicz := ics_size zr
      rw [show zr.length = 256 from rfl] at hicz
      have HRO : Hid ((r.map fun n : Int => Value.int .i64 n).toArray = ics r) := rfl
      obtain ⟨w1, hw1⟩ : ∃ w1, w1 = (wr.alloc (.cells (ics r) 89)).alloc (.map #[] 0) := ⟨_, rfl⟩
      go_wp2_with (first | (refine wpList_load_mid rfl 89 (.tmp 15) rfl g (i * 256) rfl _ _ hra Try.underlying89 rfl hi89 ?_; rw [HRO.out]))
      rw [← hw1]
      have hsw : w.heap.size + 1 < wr.heap.size := hC.lt
      have hRB : RBox w1 wr.heap.size r := by rw [hw1]; exact (Below.heap_alloc _ _ _ (by simp)).trans (heap_alloc_new wr _)
      have hM1 : Nb w1 (wr.heap.size + 1) [] := by
        rw [hw1]
        have h0 := World.ownsMap_made (P := Try.prog) (wr.alloc (.cells (ics r) 89)) 119 (plainElem (H := Unit) Try.prog 3)
        simp only [World.size_alloc] at h0
        exact ⟨_, h0, mapN_nil _ _⟩
      have bw1 : Below wr.heap.size wr w1 := by rw [hw1]; exact ((Below.refl _ _).alloc (Nat.le_refl _) _).alloc (by simp) _
      have hC1 : CBox w1 (w.heap.size + 1) (mixL pre r 0) := by rw [mixL_zero]; exact (bw1.block _ hC.lt).trans hC
      have hB1 : Below (w.heap.size + 1) wB w1 := hB.trans ⟨bw1.os, bw1.tape, bw1.output, bw1.size, fun k hk => bw1.block k (by omega)⟩
      refine wp_load_row 89 (.tmp 7) rfl wr.heap.size rfl 89 (ics r) (0, 0) _ hRB Try.underlying89 rfl (sizeR r hrl) ?_
      have HHC : Hid (CBox w1 (w.heap.size + 1) (mixL pre r 0)) := hC1
      clear hw1 hst hra hz hz2 hmm hC hB hRB hC1 hi89 hrc
      go_wp2_with (fail)
      obtain ⟨wo, rfl⟩ : ∃ wo : World, wo = wr := ⟨_, rfl⟩
      go_loopw [19] (fun y W => ∃ (b : Nat) (l : List St), y = .int .i64 (b : Int) ∧ b ≤ 256 ∧ CBox W (w.heap.size + 1) (mixL pre r b) ∧ Nb W (wo.heap.size + 1) l ∧ Hid (l = (firsts (colOf (pre ++ [r])) b).map (keyL pre r) ∧ l.Nodup) ∧ Below (w.heap.size + 1) wB W) (fun y _ => 256 - (intOf y).toNat)
      case atStart => exact ⟨0, [], rfl, by omega, HHC.out, hM1, ⟨rfl, by simp⟩, hB1⟩
      case round =>
        obtain ⟨b, l, rfl, hb, hCb, hNb, HL, hBb⟩ := hrel
        by_cases hlb : b < 256
        · obtain ⟨x, hx⟩ : ∃ x, r[b]? = some x := ⟨r[b], List.getElem?_eq_getElem (by omega)⟩
          have hidx := index89 r b hlb x hx
          have hxr := HRV.out x (List.mem_of_getElem? hx)
          have hcell := hCb.cell (mixL_get pre r b b hlb)
          rw [if_neg (by omega)] at hcell
          have hc8 := clsL_lt pre b hlb
          have hky : keyL pre r b = (clsOf (colOf pre) 256 b, x) := by unfold keyL; rw [List.getD_eq_getElem?_getD, hx]; rfl
          obtain ⟨c, hcc⟩ : ∃ c, c = clsOf (colOf pre) 256 b := ⟨_, rfl⟩
          rw [← hcc] at hcell hc8 hky
          have hll : l.length ≤ 256 := by rw [HL.out.1, List.length_map]; exact Nat.le_trans (firsts_len _ _) (by omega)
          have c63 := number_any hNb (c, x) ⟨by show c ≤ 1000000; omega, by show -1 ≤ x; omega, by show x ≤ 1000000; omega⟩ (by omega)
          have hfz := Lib.frozen_of_heap hCb b
          have hml := hNb.lt
          have HFIN : Hid (∀ w2 (k : Nat) (l' : List St), l'[k]? = some (c, x) → (l' = l ∨ ((c, x) ∉ l ∧ l' = l ++ [(c, x)])) → Nb w2 (wo.heap.size + 1) l' → wr.grownBy w2 (some (wo.heap.size + 1)) → k < 256 ∧ w2.frozen? ⟨w.heap.size + 1, b, none⟩ = false ∧ (∃ u, w2.cell? ⟨w.heap.size + 1, b, none⟩ = some u) ∧ (l' = (firsts (colOf (pre ++ [r])) (b + 1)).map (keyL pre r) ∧ l'.Nodup) ∧ CBox (w2.setCell ⟨w.heap.size + 1, b, none⟩ (.int .u8 (k : Int))) (w.heap.size + 1) (mixL pre r (b + 1)) ∧ Nb (w2.setCell ⟨w.heap.size + 1, b, none⟩ (.int .u8 (k : Int))) (wo.heap.size + 1) l' ∧ Below (w.heap.size + 1) wB (w2.setCell ⟨w.heap.size + 1, b, none⟩ (.int .u8 (k : Int)))) := fun w2 k l' h1 h2 hg gr => by
            have hC2 : CBox w2 (w.heap.size + 1) (mixL pre r b) := (gr.block _ hCb.lt (by simp; omega)).trans hCb
            obtain ⟨e1, e2, e3⟩ := cls_step (keyL_iff pre r) hlb HL.out.1 HL.out.2 (k := k) (l' := l') (by rw [hky]; exact h1) (by rw [hky]; exact h2)
            refine ⟨by rw [e3]; exact clsL_lt _ b hlb, Lib.frozen_of_heap hC2 b, ⟨_, hC2.cell (mixL_get pre r b b hlb)⟩, ⟨e1, e2⟩, ?_, hg.keep (Below.heap_setCell _ _ _ _ (by simp; omega)), ?_⟩
            · have h0 := hC2.put b k
              rw [e3, mixL_set pre r b hlb] at h0
              rw [e3]
              exact h0
            · exact (hBb.trans ⟨gr.os, gr.tape, gr.output, gr.size, fun q hq => gr.block q (by omega) (by simp; omega)⟩).setCell (p := ⟨w.heap.size + 1, b, none⟩) (by simp) _
          clear hCb hNb hky hcc hx hBb
          go_wp2_with (go_at_call 63; (refine c63.mono ?_); rintro e w2 ⟨k, l', rfl, h1, h2, hg2, gr⟩; obtain ⟨hk8, hfz2, ⟨u, hu⟩, q1, q2, q3, q4⟩ := HFIN.out w2 k l' h1 h2 hg2 gr; have Q1 := (show Hid _ from q1); have Q2 := (show Hid _ from q2); have Q3 := (show Hid _ from q3); have Q4 := (show Hid _ from q4); clear q1 q2 q3 q4 h1 h2 hg2 gr hcell hfz)
          go_roundw
          case rel => exact ⟨b + 1, l', by go_num, by omega, Q2.out, Q3.out, Q1, Q4.out⟩
          case measure => simp [intOf]; omega
        · obtain rfl : b = 256 := by omega
          have hln : (Builtin.len_ #[116] 3 #[.map (some (wo.heap.size + 1))]).run Try.prog wr = .ok (.int .i64 (l.length : Int)) wr := by
            obtain ⟨D, h1, h2⟩ := hNb
            rw [h1.len Try.underlying116 3, h2.sz]
          have HE : Hid (l.length = (firsts (colOf (rows.take (i + 1))) 256).length) := by show _ = _; rw [HTK.out, HL.out.1, List.length_map]
          have HC2 : Hid (CBox wr (w.heap.size + 1) (clsL (rows.take (i + 1)))) := by show CBox _ _ _; rw [HTK.out, ← mixL_all]; exact hCb
          clear hCb hNb HL
          generalize l.length = n1 at *
          go_wp2_with (fail)
          go_roundw
          case rel => exact ⟨i + 1, by go_num, by rw [HE.out], by omega, HC2.out, hBb⟩
          case measure => simp [intOf]; omega
    · obtain rfl : i = rows.length := by omega
      rw [List.take_length] at hC ⊢
      have hcl := clsL_len rows
      generalize hX : clsL rows = X at hC hcl
      have HX2 : Hid (clsL rows = X) := hX
      generalize hN : (firsts (colOf rows) 256).length = n0
      have HN2 : Hid ((firsts (colOf rows) 256).length = n0) := hN
      clear hX hN hz hz2 hmm xC
      go_wp2_with (first | (refine wpList_load_row rfl 22 (.tmp 4) rfl (w.heap.size + 1) rfl 22 (ccs X) (0, 0) _ hC Try.underlying22 rfl (sizeC X hcl) ?_) | (refine wpList_store_row rfl 22 (.tmp 2) (.tmp 38) rfl w.heap.size (ccs X) rfl rfl 22 _ hZ2 (sizeC X hcl) (by rw [ccs_size, ccs_size, hcl]; rfl) (ccs_one _) ?_))
      refine bodyPost_ret (by rw [results_cell_tmp Try.results40]; simp [asAddr, Result.andThen, run_loadVar_row (P := Try.prog) (wr.setRow w.heap.size (ccs X)) w.heap.size 22 22 (ccs X) (0, 0) _ (setRow_heap wr _ _ (ccs X) _ _ hZ2) Try.underlying22 rfl (sizeC X hcl)]; rfl) rfl ?_
      exact ⟨by rw [HX2.out, HN2.out], below_setRow hBw (by omega) _⟩
end Go.Proofs.Ytkdkibnjfgcppaa.mi
