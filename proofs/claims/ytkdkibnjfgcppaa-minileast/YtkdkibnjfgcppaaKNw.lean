/-
  Contracts over this program: the document's Map.
-/
import Derived.Test.YtkdkibnjfgcppaaKNt
namespace Go.Proofs.Ytkdkibnjfgcppaa.mi
open Go.ChangeShapes Go.WideShapes Go.ChangeAt Go.RowKit Go.Shelf Go.Maps
set_option linter.unusedVariables false

/-- the classes, the first k of them changed -/
def yk (d : df.Dfa) (T : List Nat) (k : Nat) : List Nat := (List.range 256).map fun j => if j < k then d.cls (T.getD j 0) else d.cls j
theorem yk_len (d : df.Dfa) (T : List Nat) (k : Nat) : (yk d T k).length = 256 := by simp [yk]
theorem yk_get (d : df.Dfa) (T : List Nat) (k i : Nat) (h : i < 256) : (yk d T k)[i]? = some (if i < k then d.cls (T.getD i 0) else d.cls i) := by
  unfold yk; rw [List.getElem?_map, List.getElem?_range h]; rfl
theorem yk_set (d : df.Dfa) (T : List Nat) (k : Nat) (h : k < 256) : (yk d T k).set k (d.cls (T.getD k 0)) = yk d T (k + 1) := by
  apply List.ext_getElem?
  intro i
  by_cases hi : i < 256
  · rw [yk_get _ _ _ _ hi]
    by_cases e : k = i
    · subst e
      rw [List.getElem?_set_self (by rw [yk_len]; exact h), if_pos (by omega)]
    · rw [List.getElem?_set_ne e, yk_get _ _ _ _ hi]
      by_cases h2 : i < k
      · rw [if_pos h2, if_pos (by omega)]
      · rw [if_neg h2, if_neg (by omega)]
  · rw [List.getElem?_eq_none (by rw [List.length_set, yk_len]; omega), List.getElem?_eq_none (by rw [yk_len]; omega)]
theorem yk_all (d : df.Dfa) (T : List Nat) : yk d T 256 = xk d T 256 := by
  unfold yk xk
  apply List.map_congr_left
  intro j hj
  rw [if_pos (List.mem_range.1 hj), if_pos (List.mem_range.1 hj)]
theorem dcells_of {P : Nat → Prop} {w : World} {d : df.Dfa} {cs : Array Value} {o ao : Option Addr} {cap acap : Nat} (h : df.DAt P w d cs o cap ao acap) (T : List Nat) : DCells cs (yk d T 0) (.slice o d.next.length cap) (.slice ao d.acc.length acap) :=
  ⟨h.size, fun i hi => by rw [yk_get _ _ _ _ hi, if_neg (by omega), h.cl i hi]; rfl, h.nx, h.ac⟩
/-- what the document's Map answers -/
def RMap (d : df.Dfa) (T : List Nat) (w : World) (e : Ending) (w' : World) : Prop := ∃ (d' : df.Dfa) (cs' : Array Value) (o' ao' : Option Addr) (cap' acap' : Nat), e = .returned (.agg cs') ∧ df.DAt (fun b => w.heap.size ≤ b ∧ b < w'.heap.size) w' d' cs' o' cap' ao' acap' ∧ Least ((dm (mp d T)).lang (some 0)) ((List.range 256).map d'.cls) d'.next d'.acc ∧ Below w.heap.size w w'
theorem ext_yk {P : Nat → Prop} {w : World} {d : df.Dfa} {cs : Array Value} {o ao : Option Addr} {cap acap : Nat} (h : df.DAt P w d cs o cap ao acap) : cs.extract 0 256 = ccs ((List.range 256).map d.cls) := ext_ccs h
/-- the dfa's own box is changed, class by class -/
def Mq (d : df.Dfa) (T : List Nat) (w w1 : World) (nv av : Value) (W : World) (k : Nat) : Prop := DL W w.heap.size (yk d T k) nv av ∧ (∀ g, g ≠ w.heap.size → W.heap[g]? = w1.heap[g]?) ∧ Below w.heap.size w W ∧ W.heap.size = w1.heap.size
theorem wp_load22e {oo : Oper} {a : Act} {w : World} {K : Act → World → Prop} {Q : Exit → Act → World → Prop} (x : Operand) (ho : oo.op = .load 22 x) (g : Nat) (hx : a.eval x = .pointer (some ⟨g, 0, none⟩)) (cs : Array Value) (hs : cs.size = 258) (hb : df.DBox w g cs) (u : Array Value) (hu : cs.extract 0 256 = u) (h : K (a.put oo.dst (.agg u)) w) : oo.wp Try.prog a w K Q := by
  unfold Oper.wp
  rw [x_load22 ho hx hs hb, hu]
  exact h
set_option maxHeartbeats 2000000 in
set_option maxRecDepth 100000 in
theorem rmap_any (d : df.Dfa) (hr : df.right d = true) (T : List Nat) (hT : T.length = 256) (hT8 : ∀ x ∈ T, x < 256) (cs : Array Value) (o ao : Option Addr) (cap acap : Nat) (w : World) (hD : df.DAt (df.In w) w d cs o cap ao acap) :
    Calls Try.prog 14 #[.agg cs, .agg (ccs T)] w (RMap d T w) := by
  have hz := zero26
  have hz22 := zero22
  have hw8 := hD.size
  have hone := dat_one hD
  obtain ⟨wA, hwA⟩ : ∃ wA, wA = ((w.alloc (.cells cs 26)).alloc (.cells (ccs T) 22)).alloc (.cells z26 26) := ⟨_, rfl⟩
  have B0 : Below w.heap.size w wA := by rw [hwA]; exact (((Below.refl _ _).alloc (Nat.le_refl _) _).alloc (by simp) _).alloc (by simp; omega) _
  have hsA : wA.heap.size = w.heap.size + 1 + 1 + 1 := by rw [hwA]; simp
  have xA : df.DBox wA w.heap.size cs := by rw [hwA]; exact (Below.heap_alloc _ _ _ (by simp; omega)).trans ((Below.heap_alloc _ _ _ (by simp)).trans (df.dbox_new w cs))
  have xT : CBox wA (w.heap.size + 1) T := by rw [hwA]; have := heap_alloc_new (w.alloc (.cells cs 26)) (.cells (ccs T) 22); rw [World.size_alloc] at this; exact (Below.heap_alloc _ _ _ (by simp)).trans this
  have xR : df.DBox wA (w.heap.size + 1 + 1) z26 := by rw [hwA]; have := heap_alloc_new ((w.alloc (.cells cs 26)).alloc (.cells (ccs T) 22)) (.cells z26 26); rw [World.size_alloc, World.size_alloc] at this; exact this
  have HD := (show Hid (df.DAt (df.In w) w d cs o cap ao acap) from hD)
  have HSA : Hid (wA.heap.size = w.heap.size + 1 + 1 + 1) := hsA
  obtain ⟨C0, hC0⟩ : ∃ C0, C0 = (List.range 256).map d.cls := ⟨_, rfl⟩
  have hC0l : C0.length = 256 := by rw [hC0]; simp
  have HC0 := (show Hid (C0 = (List.range 256).map d.cls) from hC0)
  have hex : cs.extract 0 256 = ccs C0 := by rw [ext_ccs hD, hC0]
  have hst := storeC wA zc C0 rfl hC0l
  have hccz := ccs_size zc
  rw [show zc.length = 256 from rfl] at hccz
  have hcX := ccs_size C0
  rw [hC0l] at hcX
  obtain ⟨w1, hw1⟩ : ∃ w1, w1 = wA.alloc (.cells (ccs C0) 22) := ⟨_, rfl⟩
  have b1 : Below wA.heap.size wA w1 := by rw [hw1]; exact below_alloc wA _
  have x1 : CBox w1 wA.heap.size C0 := by rw [hw1]; exact heap_alloc_new wA _
  clear hD hC0 hsA
  go_enter Try.func14, Try.ntmps14
  go_wp2_with (fail)
  rw [← hwA]
  clear hwA
  refine wp_load22e (.tmp 7) rfl w.heap.size rfl cs hw8 xA (ccs C0) hex ?_
  go_wp2_with (fail)
  have hs1 : w1.heap.size = w.heap.size + 1 + 1 + 1 + 1 := by rw [hw1, World.size_alloc, HSA.out]
  rw [← hw1]
  have xA1 : df.DBox w1 w.heap.size cs := xA.later b1
  have xT1 : CBox w1 (w.heap.size + 1) T := (b1.block _ xT.lt).trans xT
  have xR1 : df.DBox w1 (w.heap.size + 1 + 1) z26 := xR.later b1
  have hb1 : Below w.heap.size w w1 := df.chain B0 b1
  have HQ := (show Hid (Mq d T w w1 (.slice o d.next.length cap) (.slice ao d.acc.length acap) w1 0) from ⟨⟨cs, xA1, dcells_of HD.out T⟩, fun _ _ => rfl, hb1, rfl⟩)
  have HS1 := (show Hid (w1.heap.size = w.heap.size + 1 + 1 + 1 + 1) from hs1)
  clear hst hw1 hz hz22 hs1 hccz hcX hex
  go_wp2_with (fail)
  go_loopw [6] (fun y W => ∃ k : Nat, y = .int .i64 (k : Int) ∧ k ≤ 256 ∧ Hid (Mq d T w w1 (.slice o d.next.length cap) (.slice ao d.acc.length acap) W k)) (fun y _ => 256 - (intOf y).toNat)
  case atStart => exact ⟨0, rfl, by omega, HQ⟩
  case round =>
    clear HQ
    obtain ⟨k, rfl, hk, HQ⟩ := hrel
    have hAs := HSA.out
    have xTr : CBox wr (w.heap.size + 1) T := (HQ.out.2.1 _ (by omega)).trans xT1
    have xCr : CBox wr wA.heap.size C0 := (HQ.out.2.1 _ (by omega)).trans x1
    have xRr : df.DBox wr (w.heap.size + 1 + 1) z26 := (HQ.out.2.1 _ (by omega)).trans xR1
    clear hAs
    by_cases hlt : k < 256
    · obtain ⟨x, hx⟩ : ∃ x, T[k]? = some x := ⟨T[k], List.getElem?_eq_getElem (by omega)⟩
      have hx8 := hT8 x (List.mem_of_getElem? hx)
      have kT := xTr.cell hx
      have kC := xCr.cell (i := x) (x := d.cls x) (by rw [HC0.out]; simp [hx8])
      have hc8 := HD.out.c8 x
      obtain ⟨u, ku⟩ : ∃ u, wr.cell? ⟨w.heap.size, k, none⟩ = some u := by
        obtain ⟨c, h1, h2⟩ := HQ.out.1
        exact ⟨_, by rw [Lib.cell_of_heap h1, h2.cl k hlt, yk_get _ _ _ _ hlt]; rfl⟩
      have fk := HQ.out.1.fz k
      have HQ2 := (show Hid (Mq d T w w1 (.slice o d.next.length cap) (.slice ao d.acc.length acap) (wr.setCell ⟨w.heap.size, k, none⟩ (.int .u8 (d.cls x : Nat))) (k + 1)) from ⟨by
        have h1 := HQ.out.1.setC k (d.cls x) hlt (yk_len _ _ _)
        rw [← yk_set d T k hlt, List.getD_eq_getElem?_getD, hx]
        exact h1, fun g hg => (Below.heap_setCell wr ⟨w.heap.size, k, none⟩ _ g hg).trans (HQ.out.2.1 g hg), HQ.out.2.2.1.setCell (p := ⟨w.heap.size, k, none⟩) (Nat.le_refl _) _, by rw [World.size_setCell]; exact HQ.out.2.2.2⟩)
      clear HQ xTr xCr xRr
      generalize d.cls x = dx at *
      go_wp2_with (fail)
      go_roundw
      case rel => exact ⟨k + 1, by go_num, by omega, HQ2⟩
      case measure => simp [intOf]; omega
    · obtain rfl : k = 256 := by omega
      obtain ⟨⟨M, hM, hMC⟩, _, hBk, hsk⟩ := HQ.out
      rw [yk_all] at hMC
      have hDr := HD.out.later hBk
      have hX8 : ∀ i, (mp d T).cls i < 256 := fun i => by
        show (xk d T 256).getD i 0 < 256
        rw [List.getD_eq_getElem?_getD]
        by_cases hi : i < 256
        · rw [xk_get _ _ _ _ hi, if_pos hi]; exact HD.out.c8 _
        · rw [List.getElem?_eq_none (by rw [xk_len]; omega)]; simp
      have hDM : df.DAt (df.In wr) wr (mp d T) M o cap ao acap := ⟨hMC.size, fun i hi => by
        rw [hMC.cl i hi, xk_get _ _ _ _ hi, mp_cls _ _ _ hi, if_pos hi]; rfl, hX8, hMC.nx, hMC.ac, hDr.rows, hDr.accs⟩
      have hT2 : ∀ i, i < 256 → T.getD i 0 < 256 := fun i hi => by
        rw [List.getD_eq_getElem?_getD, List.getElem?_eq_getElem (by omega)]; exact hT8 _ (List.getElem_mem _)
      have c12 := rleast_any (mp d T) (mp_right d T hr hT2) M o ao cap acap wr hDM
      have hM8 := hMC.size
      have hss : w.heap.size + 1 + 1 < wr.heap.size := by have := HS1.out; omega
      have HBk := (show Hid _ from hBk)
      clear hDM hX8 hDr hMC HQ hsk xTr xCr hBk
      go_wp2_with (fail)
      refine wp_load_row 26 (.tmp 2) rfl w.heap.size rfl 26 M (0, 0) _ hM Try.underlying26 rfl (df.info26 M hM8) ?_
      go_wp2_with (fail)
      go_at_call 12
      refine c12.mono ?_
      rintro e w4 ⟨d', cs', o', ao', cap', acap', rfl, hD', hL, b4⟩
      have x3 : df.DBox w4 (w.heap.size + 1 + 1) z26 := xRr.later b4
      have hi26 := df.info26 cs' hD'.size
      have hcs := hD'.size
      have hon := dat_one hD'
      go_wp2_with (first | (refine wpList_store_row rfl 26 (.tmp 4) (.tmp 22) rfl (w.heap.size + 1 + 1) cs' rfl rfl 26 _ x3 hi26 (by rw [z26_size, hcs]) hon ?_))
      refine bodyPost_ret (results_cell_row Try.results14 _ _ (w.heap.size + 1 + 1) 26 _ (0, 0) _ rfl (setRow_heap w4 _ _ cs' _ _ x3) Try.underlying26 rfl hi26) rfl ?_
      exact ⟨d', cs', o', ao', cap', acap', rfl, hD'.carry (fun k hk => setRow_other _ _ _ _ (by omega)) (fun k hk => ⟨by omega, by rw [setRow_size]; exact hk.2⟩), hL, below_setRow (df.chain HBk.out b4) (by omega) _⟩
end Go.Proofs.Ytkdkibnjfgcppaa.mi
