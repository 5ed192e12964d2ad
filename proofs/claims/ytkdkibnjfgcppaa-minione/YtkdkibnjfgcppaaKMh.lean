/-
  Contracts over this program: what is seen of a state (look).
-/
import Derived.Test.YtkdkibnjfgcppaaKMf
import Derived.Test.YtkdkibnjfgcppaaKMg
import Derived.Test.YtkdkibnjfgcppaaKDg
import Derived.Deep.WholeRow
import Derived.Laws.Tables
import Derived.Laws.ResultCell
import Derived.Laws.CopyOwn
namespace Go.Proofs.Ytkdkibnjfgcppaa.mi
open Go.ChangeShapes Go.WideShapes Go.ChangeAt Go.RowKit Go.Shelf Go.Maps
set_option linter.unusedVariables false

/-- a dfa by bytes -/
def dm (d : df.Dfa) : Dm where
  n := d.next.length
  go s b := if 0 ≤ df.nxt d s (d.cls b.toNat) then some (df.nxt d s (d.cls b.toNat)).toNat else none
  acc s := df.acpt d s
/-- a state, or none, as a number -/
def st : Option Nat → Int
  | none => -1
  | some s => (s : Int)
theorem st_go (d : df.Dfa) (s : Nat) (b : UInt8) (h : -1 ≤ df.nxt d s (d.cls b.toNat)) : st ((dm d).goO (some s) b) = df.nxt d s (d.cls b.toNat) := by
  show st (if 0 ≤ df.nxt d s (d.cls b.toNat) then some (df.nxt d s (d.cls b.toNat)).toNat else none) = _
  split
  · show ((df.nxt d s (d.cls b.toNat)).toNat : Int) = _
    omega
  · show (-1 : Int) = _
    omega
/-- what is seen so far -/
def part8 (d : Dm) (P : List Nat) (x : Option Nat) (k : Nat) : List Nat := pa P x :: (List.range 256).map fun b => if b < k then pa P (d.goO x (by8 b)) else 0
theorem part8_all (d : Dm) (P : List Nat) (x : Option Nat) : part8 d P x 256 = sgOf d P x := by
  exact congrArg (pa P x :: ·) (List.map_congr_left fun b hb => by rw [if_pos (List.mem_range.1 hb)])
theorem part8_len (d : Dm) (P : List Nat) (x : Option Nat) (k : Nat) : (part8 d P x k).length = 257 := by simp [part8]
theorem part8_zero (d : Dm) (P : List Nat) (x : Option Nat) : part8 d P x 0 = pa P x :: List.replicate 256 0 := by
  refine congrArg (pa P x :: ·) (List.eq_replicate_iff.2 ⟨by rw [List.length_map, List.length_range], fun b hb => ?_⟩)
  obtain ⟨i, _, rfl⟩ := List.mem_map.1 hb
  rw [if_neg (by omega)]
theorem part8_set (d : Dm) (P : List Nat) (x : Option Nat) (k : Nat) (hk : k < 256) : (part8 d P x k).set (k + 1) (pa P (d.goO x (by8 k))) = part8 d P x (k + 1) := by
  unfold part8
  rw [List.set_cons_succ]
  refine congrArg (pa P x :: ·) (List.ext_getElem (by simp) ?_)
  · intro i h1 h2
    simp at h1 h2
    rw [List.getElem_set]
    by_cases e : k = i
    · subst e; simp
    · simp only [e, if_false, List.getElem_map, List.getElem_range]
      by_cases h : i < k
      · rw [if_pos h, if_pos (by omega)]
      · rw [if_neg h, if_neg (by omega)]
theorem set_heap (w : World) (g : Nat) (cs : Array Value) (T : TypeId) (i : Nat) (x : Value) (h : w.heap[g]? = some (.cells cs T (0, 0))) : (w.setCell ⟨g, i, none⟩ x).heap[g]? = some (.cells (cs.setIfInBounds i x) T (0, 0)) := by
  show (w.heap.modify g _)[g]? = _
  rw [Array.getElem?_modify, if_pos rfl, h]
  rfl
theorem touch_set (w : World) (g i : Nat) (x : Value) : w.grownBy (w.setCell ⟨g, i, none⟩ x) (some g) :=
  ⟨rfl, rfl, rfl, by simp, fun k _ hne => Below.heap_setCell _ _ _ _ (fun e => hne (congrArg some e))⟩
theorem touch_drew {w w1 : World} {row : Option Nat} (h : w.grownBy w1 row) : w.grownBy w1.drew row := ⟨h.os, h.tape, h.output, h.size, h.block⟩

/-- a sight in a cell of its own -/
def GBox (w : World) (g : Nat) (s : Sg) : Prop := w.heap[g]? = some (.cells (gcs s) 161 (0, 0))
def zs : Sg := List.replicate 257 0
theorem zero161 : ∀ w, (zeroValue 161).run Try.prog w = .ok (.agg (gcs zs)) w :=
  (zero_of_info (P := Try.prog) (t := 161) (v := .agg (gcs zs)) (n := 257) (by kernel_rfl)).1
theorem gcs_set (s : Sg) (i x : Nat) : (gcs s).setIfInBounds i (.int .i16 (x : Int)) = gcs (s.set i x) := by
  unfold gcs
  rw [List.setIfInBounds_toArray, List.map_set]
theorem gcs_one (s : Sg) : (gcs s).all (·.oneCell') = true := by
  rw [Array.all_eq_true_iff_forall_mem]
  intro v hv
  simp [gcs] at hv
  obtain ⟨x, _, rfl⟩ := hv
  rfl
theorem sizeG (s : Sg) (h : s.length = 257) : (Try.prog.info? 161).map (·.size) = some (gcs s).size := by rw [gcs_size, h]; kernel_rfl
theorem storeG (w : World) (s r : Sg) (hs : s.length = 257) (hr : r.length = 257) : (storeCells ⟨w.heap.size, 0, none⟩ (gcs r).toList).run Try.prog (w.alloc (.cells (gcs s) 161)) = .ok () (w.alloc (.cells (gcs r) 161)) :=
  run_storeCells_new (P := Try.prog) w 161 (gcs s) (gcs r) (sizeG r hr) (by rw [gcs_size, gcs_size, hs, hr]) (gcs_one r)
theorem GBox.lt {w : World} {g : Nat} {s : Sg} (h : GBox w g s) : g < w.heap.size := (Array.getElem?_eq_some_iff.1 h).1
theorem pa_le {P : List Nat} (h : ∀ x ∈ P, x ≤ 32767) (x : Option Nat) : pa P x ≤ 32767 := by
  have : ∀ i, P.getD i 0 ≤ 32767 := fun i => by
    by_cases hi : i < P.length
    · rw [List.getD_eq_getElem?_getD, List.getElem?_eq_getElem hi]; exact h _ (List.getElem_mem hi)
    · rw [List.getD_eq_getElem?_getD, List.getElem?_eq_none (by omega)]; simp
  cases x <;> exact this _
theorem part_call {d : df.Dfa} {P : List Nat} {gp pc : Nat} (hP : P.length = d.next.length + 1) (hpc : P.length ≤ pc) (hb : P.length ≤ 1000000) (y : Option Nat) (hy : y ∈ items (dm d)) {W : World} (hW : NRow W gp P) :
    Calls Try.prog 62 #[.slice (some ⟨gp, 0, none⟩) P.length pc, .int .i64 (st y)] W (fun e w' => e = .returned (.int .i64 (pa P y : Int)) ∧ w' = W) := by
  have key : ∀ i, i < P.length → Calls Try.prog 62 #[.slice (some ⟨gp, 0, none⟩) P.length pc, .int .i64 ((i : Int) - 1)] W (fun e w' => e = .returned (.int .i64 (P.getD i 0 : Nat)) ∧ w' = W) := fun i hi =>
    partOf_any hW hpc i hi hb _ (by rw [List.getD_eq_getElem?_getD, List.getElem?_eq_getElem hi]; rfl)
  cases y with
  | none => exact key 0 (by omega)
  | some s =>
    have hs : s < d.next.length := mem_items.1 hy s rfl
    have := key (s + 1) (by omega)
    rw [show (((s + 1 : Nat) : Int) - 1) = (s : Int) by omega] at this
    exact this
set_option maxHeartbeats 4000000 in
set_option maxRecDepth 100000 in
theorem look_any (d : df.Dfa) (hr : df.right d = true) (cs : Array Value) (o ao : Option Addr) (cap acap : Nat) (P : List Nat) (hP : P.length = d.next.length + 1) (hP2 : ∀ x ∈ P, x ≤ 32767) (x : Option Nat) (hx : x ∈ items (dm d)) (gp pc : Nat) (hpc : P.length ≤ pc) (w : World) (hD : df.DAt (df.In w) w d cs o cap ao acap) (hN : NRow w gp P) :
    Calls Try.prog 88 #[.agg cs, .slice (some ⟨gp, 0, none⟩) P.length pc, .int .i64 (st x)] w fun e w' => e = .returned (.agg (gcs (sgOf (dm d) P x))) ∧ Below w.heap.size w w' := by
  have hok := df.ok_of d hr
  have hz := zero161
  have c62 := fun (y : Option Nat) (hy : y ∈ items (dm d)) (W : World) (hW : NRow W gp P) => (show Calls Try.prog 62 #[.slice (some ⟨gp, 0, none⟩) P.length pc, .int .i64 (st y)] W (fun e w' => e = .returned (.int .i64 (pa P y : Int)) ∧ w' = W) from part_call hP hpc (by rw [hP]; have := hok.most; omega) y hy hW)
  have HPL : Hid (∀ y, pa P y ≤ 32767) := pa_le hP2
  have HPN : Hid (P.length = d.next.length + 1) := hP
  clear hP hpc
  obtain ⟨wA, hwA⟩ : ∃ wA, wA = (w.alloc (.cells cs 26)).alloc (.cells (gcs zs) 161) := ⟨_, rfl⟩
  have B0 : Below w.heap.size w wA := by rw [hwA]; exact ((Below.refl _ _).alloc (Nat.le_refl _) _).alloc (by simp) _
  have h1 := c62 x hx wA (hN.later B0)
  have hp1 := HPL.out x
  have hsA : wA.heap.size = w.heap.size + 1 + 1 := by rw [hwA]; simp
  have hst : (storeCells ⟨w.heap.size + 1 + 1, 0, none⟩ ((gcs zs).toList.set 0 (.int .i16 (pa P x : Int)))).run Try.prog (wA.alloc (.cells (gcs zs) 161)) = .ok () (wA.alloc (.cells (gcs (part8 (dm d) P x 0)) 161)) := by
    have h0 := storeG wA zs (part8 (dm d) P x 0) rfl (part8_len _ _ _ _)
    rw [hsA] at h0
    have e : (gcs (part8 (dm d) P x 0)).toList = (gcs zs).toList.set 0 (.int .i16 (pa P x : Int)) := by
      rw [← Array.toList_setIfInBounds, gcs_set, part8_zero]; rfl
    rw [e] at h0
    exact h0
  obtain ⟨wB, hwB⟩ : ∃ wB, wB = wA.alloc (.cells (gcs (part8 (dm d) P x 0)) 161) := ⟨_, rfl⟩
  rw [← hwB] at hst
  have B1 : Below wA.heap.size wA wB := by rw [hwB]; exact below_alloc _ _
  have BB : Below w.heap.size w wB := chain B0 B1
  have hsB : wB.heap.size = w.heap.size + 1 + 1 + 1 := by rw [hwB]; simp [hsA]
  have xA : df.DBox wB w.heap.size cs := by
    have h0 : df.DBox wA w.heap.size cs := by rw [hwA]; exact (Below.heap_alloc _ _ _ (by simp)).trans (df.dbox_new w cs)
    exact (B1.block _ (by omega)).trans h0
  have xR : GBox wB (w.heap.size + 1) zs := by
    have h0 : GBox wA (w.heap.size + 1) zs := by rw [hwA]; have := heap_alloc_new (w.alloc (.cells cs 26)) (.cells (gcs zs) 161); rw [World.size_alloc] at this; exact this
    exact (B1.block _ (by omega)).trans h0
  have xS : GBox wB (w.heap.size + 1 + 1) (part8 (dm d) P x 0) := by rw [hwB, ← hsA]; exact heap_alloc_new wA _
  have hw8 := hD.size
  have hcz := gcs_size zs
  rw [show zs.length = 257 from rfl] at hcz
  have HX : Hid (pa P x = pa P x) := rfl
  generalize hpx : pa P x = px at h1 hp1 hst
  rw [hwA] at h1 hst
  have HWB : Hid (wB = wA.alloc (.cells (gcs (part8 (dm d) P x 0)) 161)) := hwB
  clear hwA hwB hpx hsA
  go_enter Try.func88, Try.ntmps88
  go_wp2_with (first | (go_at_call 62; refine h1.mono ?_; rintro e w1 ⟨rfl, h⟩; obtain rfl := h.symm) | (refine df.wpList_load22 rfl (.tmp 16) rfl w.heap.size rfl cs xA hw8 ?_))
  clear h1 hst hz
  have HSB : Hid (wB.heap.size = w.heap.size + 1 + 1 + 1) := hsB
  have HNB : Hid (∀ W, Below (w.heap.size + 1 + 1) wB W → NRow W gp P ∧ df.DAt (df.In w) W d cs o cap ao acap ∧ df.DBox W w.heap.size cs ∧ GBox W (w.heap.size + 1) zs ∧ Below w.heap.size w W) := fun W b =>
    ⟨(b.block _ (by have := hN.lt; omega)).trans ((BB.block _ hN.lt).trans hN), hD.carry (fun k hk => (b.block k (by unfold df.In at hk; omega)).trans (BB.block k hk)) (fun _ => id), (b.block _ (by omega)).trans xA, (b.block _ (by omega)).trans xR, BB.trans ⟨b.os, b.tape, b.output, b.size, fun k hk => b.block k (by omega)⟩⟩
  have HC62 : Hid (∀ y, y ∈ items (dm d) → ∀ W, NRow W gp P → Calls Try.prog 62 #[.slice (some ⟨gp, 0, none⟩) P.length pc, .int .i64 (st y)] W (fun e w' => e = .returned (.int .i64 (pa P y : Int)) ∧ w' = W)) := c62
  have HCL : Hid (∀ k, k < 256 → cs[k]? = some (.int .u8 (d.cls k : Nat)) ∧ d.cls k < 256) := fun k hk => ⟨hD.cl k hk, hD.c8 k⟩
  have HOK : Hid (df.Ok d) := hok
  have HDM : Hid ((dm d).ok) := fun s hs b t e => by
    have h0 := df.nxt_ok hok s (d.cls b.toNat) hs (hok.cl _ b.toNat_lt)
    simp only [dm] at e
    split at e
    · cases e; show _ < d.next.length; omega
    · cases e
  clear hD hN xA xR c62 hok HX HWB B0 B1
  go_loopw [18] (fun y wr => ∃ k : Nat, y = .int .i64 (k : Int) ∧ k ≤ 256 ∧ GBox wr (w.heap.size + 1 + 1) (part8 (dm d) P x k) ∧ Below (w.heap.size + 1 + 1) wB wr) (fun y _ => 256 - (intOf y).toNat)
  case atStart => exact ⟨0, rfl, by omega, xS, Below.refl _ _⟩
  case round =>
    obtain ⟨k, rfl, hk, hG, hB⟩ := hrel
    obtain ⟨hN2, hD2, hX2, hR2, hBw⟩ := HNB.out wr hB
    by_cases hlt : k < 256
    · obtain ⟨hcl, hc8⟩ := HCL.out k hlt
      have hidx := df.index22 cs k hlt _ hcl hw8
      have HG2 : Hid (∀ v : Nat, v = pa P ((dm d).goO x (by8 k)) → GBox (wr.setCell ⟨w.heap.size + 1 + 1, 1 + k, none⟩ (.int .i16 (v : Int))) (w.heap.size + 1 + 1) (part8 (dm d) P x (k + 1)) ∧ Below (w.heap.size + 1 + 1) wB (wr.setCell ⟨w.heap.size + 1 + 1, 1 + k, none⟩ (.int .i16 (v : Int)))) := fun v hv => by
        refine ⟨?_, hB.setCell (p := ⟨w.heap.size + 1 + 1, 1 + k, none⟩) (by simp) _⟩
        unfold GBox
        rw [set_heap wr _ _ _ (1 + k) _ hG, gcs_set, hv, Nat.add_comm 1 k, part8_set _ _ _ _ hlt]
      have hcell : ∃ u, wr.cell? ⟨w.heap.size + 1 + 1, 1 + k, none⟩ = some u := by
        rw [Lib.cell_of_heap hG]
        have : 1 + k < (gcs (part8 (dm d) P x k)).size := by rw [gcs_size, part8_len]; omega
        exact ⟨_, Array.getElem?_eq_getElem this⟩
      obtain ⟨u, hu⟩ := hcell
      have hfz : wr.frozen? ⟨w.heap.size + 1 + 1, 1 + k, none⟩ = false := Lib.frozen_of_heap hG (1 + k)
      have hbk : (by8 k).toNat = k := by simp [by8]; omega
      clear hG hcl hR2
      cases x with
      | none =>
        have c1 := HC62.out none hx wr hN2
        have hp := HPL.out none
        have HV := HG2.out (pa P none) rfl
        clear HG2
        have e0 : ((dm d).goO none (by8 k)) = none := rfl
        generalize pa P none = z at *
        obtain ⟨HV1, HV2⟩ := (show Hid _ ∧ Hid _ from ⟨HV.1, HV.2⟩)
        clear HV e0
        simp only [st] at c1 ⊢
        go_wp2_with (go_at_call 62; (refine c1.mono ?_); rintro e w1 ⟨rfl, h⟩; obtain rfl := h.symm)
        go_roundw
        case rel => exact ⟨k + 1, by go_num, by omega, HV1.out, HV2.out⟩
        case measure => simp [intOf]; omega
      | some s0 =>
        have hs0 : s0 < d.next.length := mem_items.1 hx s0 rfl
        have hcw := HOK.out.cl k hlt
        obtain ⟨b, off, b', off', ci, e1, hc1, hw1, hw2, hc2⟩ := df.nxt_at hD2 HOK.out s0 _ hs0 hcw
        have hno := df.nxt_ok HOK.out s0 _ hs0 hcw
        have hst := st_go d s0 (by8 k) (by rw [hbk]; exact hno.1)
        rw [hbk] at hst
        have c1 := HC62.out _ (go_items HDM.out hx (by8 k)) wr hN2
        rw [hst] at c1
        have hp := HPL.out ((dm d).goO (some s0) (by8 k))
        have HV := HG2.out (pa P ((dm d).goO (some s0) (by8 k))) rfl
        obtain ⟨HV1, HV2⟩ := (show Hid _ ∧ Hid _ from ⟨HV.1, HV.2⟩)
        have kx := hX2.nx hD2
        have f1 := hD2.rows.fit
        have f2 := hD2.rows.top
        have g1 : ((s0 : Int) != -1) = true := bne_iff_ne.2 (by omega)
        subst e1
        clear HG2 HV hst hD2 hX2 hN2
        generalize pa P ((dm d).goO (some s0) (by8 k)) = z at *
        generalize df.nxt d s0 (d.cls k) = v at *
        generalize d.cls k = c at *
        generalize df.width d = wd at *
        simp only [st] at c1 ⊢
        go_wp2_with (go_at_call 62; (refine c1.mono ?_); rintro e w1 ⟨rfl, h⟩; obtain rfl := h.symm)
        go_roundw
        case rel => exact ⟨k + 1, by go_num, by omega, HV1.out, HV2.out⟩
        case measure => simp [intOf]; omega
    · obtain rfl : k = 256 := by omega
      rw [part8_all] at hG
      obtain ⟨S, HS⟩ : ∃ S, Hid (S = sgOf (dm d) P x) := ⟨_, rfl⟩
      rw [← HS.out] at hG
      have hsl : S.length = 257 := by rw [HS.out]; simp [sgOf]
      have hi := sizeG S hsl
      go_wp2_with (first | (refine wpList_load_row rfl 161 (.tmp 7) rfl (w.heap.size + 1 + 1) rfl 161 (gcs S) (0, 0) _ hG Try.underlying161 rfl hi ?_) | (refine wpList_store_row rfl 161 (.tmp 6) (.tmp 40) rfl (w.heap.size + 1) (gcs S) rfl rfl 161 _ hR2 hi (by rw [gcs_size, gcs_size, hsl]; rfl) (gcs_one _) ?_))
      refine bodyPost_ret (results_cell_row Try.results88 _ _ (w.heap.size + 1) 161 _ (0, 0) _ rfl (setRow_heap wr _ _ (gcs S) _ _ hR2) Try.underlying161 rfl hi) rfl ?_
      exact ⟨by rw [HS.out], below_setRow hBw (by omega) _⟩
end Go.Proofs.Ytkdkibnjfgcppaa.mi
