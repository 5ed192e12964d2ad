/-
  Contracts over this program: the document's classes (Classes of the reference).
-/
import Derived.Test.YtfpihoghpogblaaAlike
import Derived.Test.YtfpihoghpogblaaRef
import Derived.Deep.WholeRow
import Derived.Laws.Tables
import Derived.Laws.ResultCell
import Derived.Laws.CopyOwn
namespace Go.Proofs.Ytfpihoghpogblaa.st
open Go.Sort Go.ChangeShapes Go.WideShapes Go.ChangeAt Go.RowKit
set_option linter.unusedVariables false

/-- an array of 256 bytes in a block of its own -/
def cells36 (xs : List Nat) : Array Value := (xs.map fun n : Nat => Value.int .u8 (n : Int)).toArray
def Arr (w : World) (g : Nat) (xs : List Nat) : Prop := w.heap[g]? = some (.cells (cells36 xs) 36 (0, 0)) ∧ xs.length = 256
theorem Arr.lt {w : World} {g : Nat} {xs : List Nat} (h : Arr w g xs) : g < w.heap.size := (Array.getElem?_eq_some_iff.1 h.1).1
theorem Arr.later {w w' : World} {g : Nat} {xs : List Nat} (h : Arr w g xs) {B : Nat} (b : Below B w w') (hB : g < B) : Arr w' g xs := ⟨by rw [b.block g hB]; exact h.1, h.2⟩
theorem Arr.cell {w : World} {g : Nat} {xs : List Nat} (h : Arr w g xs) (i : Nat) (hi : i < 256) : w.cell? ⟨g, i, none⟩ = some (.int .u8 (xs.getD i 0 : Nat)) := by
  have hi2 : i < xs.length := by rw [h.2]; exact hi
  rw [Lib.cell_of_heap h.1, List.getD_eq_getElem?_getD, List.getElem?_eq_getElem hi2]
  simp [cells36, hi2]
theorem Arr.fz {w : World} {g : Nat} {xs : List Nat} (h : Arr w g xs) (i : Nat) : w.frozen? ⟨g, i, none⟩ = false := Lib.frozen_of_heap h.1 i
theorem Arr.put {w : World} {g : Nat} {xs : List Nat} (h : Arr w g xs) (i v : Nat) : Arr (w.setCell ⟨g, i, none⟩ (.int .u8 v)) g (xs.set i v) := by
  refine ⟨?_, by rw [List.length_set]; exact h.2⟩
  rw [set_heap w g _ _ i _ h.1]
  congr 2
  simp [cells36]
theorem Arr.other {w : World} {g k : Nat} {xs : List Nat} (h : Arr w g xs) (hne : g ≠ k) (i : Nat) (u : Value) : Arr (w.setCell ⟨k, i, none⟩ u) g xs := ⟨by rw [Below.heap_setCell _ _ _ _ hne]; exact h.1, h.2⟩
theorem cells36_size (xs : List Nat) (h : xs.length = 256) : (cells36 xs).size = 256 := by simp [cells36, h]
theorem cells36_one (xs : List Nat) : (cells36 xs).all (·.oneCell') = true := by
  rw [Array.all_eq_true_iff_forall_mem]
  intro x hx
  simp [cells36] at hx
  obtain ⟨n, _, rfl⟩ := hx
  rfl
def noughts : List Nat := List.replicate 256 0
theorem zero36 : ∀ w, (zeroValue 36).run Try.prog w = .ok (.agg (cells36 noughts)) w :=
  (zero_of_info (P := Try.prog) (t := 36) (v := .agg (cells36 noughts)) (n := 256) (by kernel_rfl)).1
theorem info36 (xs : List Nat) (h : xs.length = 256) : (Try.prog.info? 36).map (·.size) = some (cells36 xs).size := by
  rw [cells36_size xs h]
  kernel_rfl

theorem store36 (w : World) (o : Obj) (xs ys : List Nat) (hx : xs.length = 256) (hy : ys.length = 256) : (storeCells ⟨w.heap.size + 1, 0, none⟩ (cells36 ys).toList).run Try.prog ((w.alloc o).alloc (.cells (cells36 xs) 36)) = .ok () ((w.alloc o).alloc (.cells (cells36 ys) 36)) := by
  have h := run_storeCells_new (P := Try.prog) (w.alloc o) 36 (cells36 xs) (cells36 ys) (info36 ys hy) (by rw [cells36_size xs hx, cells36_size ys hy]) (cells36_one ys)
  rw [World.size_alloc] at h
  exact h

theorem like_self (l : List Q4) (i : Nat) : like l i i = true := by simp [like]
theorem nat_bytes (L : List Nat) (h : ∀ c ∈ L, c < 256) (j : Nat) (hj : j < L.length) : (Lib.byteCells (L.map UInt8.ofNat))[j]? = some (.int .u8 (L.getD j 0 : Nat)) := by
  have hc := h _ (List.getElem_mem hj)
  simp [Lib.byteCells, hj, Nat.mod_eq_of_lt hc]

/-- a row that the call owns, with its slice written out -/
structure Own (B : Nat) (w : World) (u : Value) (g cap : Nat) (L : List Nat) : Prop where
  form : u = .slice (some ⟨g, 0, none⟩) L.length cap
  owns : w.ownsRowF B 5 1 u L.length (Lib.byteCells (L.map UInt8.ofNat))
  few : ∀ c ∈ L, c < 256
  room : L.length ≤ cap
theorem Own.cell {B : Nat} {w : World} {u : Value} {g cap : Nat} {L : List Nat} (h : Own B w u g cap L) (j : Nat) (hj : j < L.length) : w.cell? ⟨g, j, none⟩ = some (.int .u8 (L.getD j 0 : Nat)) := by
  have h1 := h.owns.cells (g := g) (by rw [h.form]; rfl) j _ (nat_bytes L h.few j hj)
  have hplain : (⟨g, 0, none⟩ : Addr).add j = ⟨g, j, none⟩ := by unfold Addr.add; split <;> simp_all
  rw [hplain] at h1
  exact h1
theorem Own.lt {B : Nat} {w : World} {u : Value} {g cap : Nat} {L : List Nat} (h : Own B w u g cap L) : B ≤ g ∧ g < w.heap.size := h.owns.lt g (by rw [h.form]; rfl)
theorem Own.later {B : Nat} {w w' : World} {u : Value} {g cap : Nat} {L : List Nat} (h : Own B w u g cap L) (b : Below w.heap.size w w') : Own B w' u g cap L := ⟨h.form, owns_below h.owns b, h.few, h.room⟩
theorem Own.set {B : Nat} {w : World} {u : Value} {g cap : Nat} {L : List Nat} (h : Own B w u g cap L) {k : Nat} (hk : k < B) (i : Nat) (x : Value) : Own B (w.setCell ⟨k, i, none⟩ x) u g cap L :=
  ⟨h.form, h.owns.kept (touch_set w k i x) (.inr (by rw [h.form]; intro e; have := h.lt; simp [Value.ownBlock] at e; omega)), h.few, h.room⟩
/-- behind an append -/
theorem own_more {B : Nat} {w : World} {v : Value} {L : List Nat} {n : Nat} (hn : n < 256) (hL : ∀ c ∈ L, c < 256) (h : w.ownsRowF B 5 1 v (L.length + 1) (Lib.byteCells (L.map UInt8.ofNat) ++ [.int .u8 (n : Int)])) : ∃ g cap, Own B w v g cap (L ++ [n]) := by
  have h' : w.ownsRowF B 5 1 v (L ++ [n]).length (Lib.byteCells ((L ++ [n]).map UInt8.ofNat)) := by
    rw [List.map_append, Lib.byteCells_append, List.length_append, List.map_cons, List.map_nil, cells_one hn]
    exact h
  have hfew : ∀ c ∈ L ++ [n], c < 256 := by
    intro c hc
    rcases List.mem_append.1 hc with hc | hc
    · exact hL c hc
    · simp at hc; omega
  rcases h'.2 with ⟨_, h0⟩ | ⟨g, cap, cur, fz, hv, hb, hg, hrest⟩
  · simp at h0
  · exact ⟨g, cap, ⟨hv, h', hfew, by first | exact hrest.1 | exact hrest.2.1⟩⟩

/-- an array of 256 bytes that is handed back through a cell, and a number beside it -/
theorem ret36 {fn : Func} {p u : Tmp} (h : fn.results = #[.cell p 36, .tmp u]) {a : Act} {W : World} {R : Ending → World → Prop} (g : Nat) (xs : List Nat) (n : Nat) (hp : a.tmps.getD p undef = .pointer (some ⟨g, 0, none⟩)) (hA : Arr W g xs) (hu : a.tmps.getD u undef = .int .i64 n) (hd : a.defers = [])
    (hR : R (.returned (.tuple #[.agg (cells36 xs), .int .i64 n])) W) : bodyPost Try.prog fn R .ret a W :=
  bodyPost_ret (by rw [results_cell_tmp h, hp, hu]; simp [asAddr, Result.andThen, run_loadVar_row W g 36 36 _ (0, 0) _ hA.1 Try.underlying36 rfl (info36 xs hA.2)]) hd hR
theorem Arr.row {w : World} {g : Nat} {xs ys : List Nat} (h : Arr w g xs) (hy : ys.length = 256) : Arr (w.setRow g (cells36 ys)) g ys := ⟨setRow_heap w g _ _ _ _ h.1, hy⟩

/-- where the search for a class stands -/
def KState (p : Nat → Bool) (L : List Nat) (j : Nat) (k : Value) : Prop :=
  (k = .int .i64 (-1) ∧ ∀ m, m < j → p (L.getD m 0) = false) ∨ (∃ f : Nat, k = .int .i64 f ∧ f = L.findIdx p ∧ f < j)
theorem getD_at (L : List Nat) (m : Nat) (h : m < L.length) : L.getD m 0 = L[m] := by
  rw [List.getD_eq_getElem?_getD, List.getElem?_eq_getElem h]; rfl
theorem found_at {p : Nat → Bool} {L : List Nat} {j : Nat} (hj : j < L.length) (h : ∀ m, m < j → p (L.getD m 0) = false) (hp : p (L.getD j 0) = true) : L.findIdx p = j := by
  rw [List.findIdx_eq hj]
  refine ⟨by rw [← getD_at L j hj]; exact hp, fun m hm => ?_⟩
  have := h m hm
  rw [getD_at L m (by omega)] at this
  exact this
theorem none_all {p : Nat → Bool} {L : List Nat} (h : ∀ m, m < L.length → p (L.getD m 0) = false) : L.any p = false := by
  rw [List.any_eq_false]
  intro x hx
  obtain ⟨m, hm, rfl⟩ := List.getElem_of_mem hx
  have := h m hm
  rw [getD_at L m hm] at this
  rw [this]
  simp
theorem some_any {p : Nat → Bool} {L : List Nat} (h : L.findIdx p < L.length) : L.any p = true := by
  rw [List.any_eq_true]
  exact List.findIdx_lt_length.1 h

def RClassesIs (l : List Q4) (xs : List Nat) (n : Nat) : Prop := ∀ v w, Sets w v l → Calls Try.prog 24 #[v] w fun e w' => e = .returned (.tuple #[.agg (cells36 xs), .int .i64 n]) ∧ Below w.heap.size w w'

set_option maxHeartbeats 2000000 in
set_option maxRecDepth 100000 in
theorem rclasses_any (l : List Q4) (hf : ∀ q ∈ l, Fits q) : RClassesIs l (tbl (like l) 256) (repsBy (like l) 256).length := by
  intro v w hv
  have hz := zero36
  have hcs := cells36_size noughts rfl
  have hst := store36 w (.cells (cells36 noughts) 36) noughts noughts rfl rfl
  obtain ⟨a0, len0, cap0, rfl⟩ : ∃ a len cap, v = .slice a len cap := by
    rcases hv with ⟨_, a, cap, h⟩ | ⟨b, off, cap, h, _⟩
    · exact ⟨_, _, _, h⟩
    · exact ⟨_, _, _, h⟩
  obtain ⟨i0, hi0, hz0, hz1, hz2⟩ := info_parts info5
  obtain ⟨p, HPp⟩ : ∃ p, Hid (p = like l) := ⟨_, rfl⟩
  rw [← HPp.out]
  go_enter Try.func24, Try.ntmps24
  go_wp2
  clear hz hcs hst
  go_loopw [5, 6] (fun u x wr => ∃ (i g cap : Nat) (L : List Nat), x = .int .i64 i ∧ i ≤ 256 ∧ Own (w.heap.size + 1 + 1) wr u g cap L ∧ Arr wr (w.heap.size + 1) (tbl p i) ∧ Arr wr w.heap.size noughts ∧ Below w.heap.size w wr ∧ Hid (L = repsBy p i)) (fun _ x _ => 256 - (intOf x).toNat)
  case atStart =>
    refine ⟨0, w.heap.size + 1 + 1, 0, [], rfl, by omega, ⟨rfl, ⟨rfl, .inr ⟨w.heap.size + 1 + 1, 0, #[], (0, 0), rfl, Nat.le_refl _, heap3 w _ _ _, Nat.zero_le _, Nat.le_refl _, Nat.zero_le _, rfl, rfl⟩⟩, by simp, Nat.le_refl _⟩, ⟨heap3_mid w _ _ _, rfl⟩, ⟨heap3_old w _ _ _, rfl⟩, (((Below.refl _ _).alloc (Nat.le_refl _) _).alloc (by simp) _).alloc (by simp; omega) _, rfl⟩
  case round =>
    obtain ⟨i, g, cap, L, rfl, hi, hown, harr, hres, hB, HL⟩ := hrel
    have hform := hown.form
    subst hform
    have hLl : L.length ≤ i := by rw [HL.out]; exact repsBy_length p i
    have hcapm := hown.room
    by_cases hin : i < 256
    · have hpii : p i i = true := by rw [HPp.out]; exact like_self l i
      have hd1 : decide (i < 256) = true := by simp [hin]
      have hd2 : decide ((i : Int) < 256) = true := by simp; omega
      go_wp2
      go_loopw [7, 18] (fun k x wr2 => ∃ j : Nat, x = .int .i64 j ∧ j ≤ L.length ∧ Below wr.heap.size wr wr2 ∧ Hid (KState (p i) L j k)) (fun _ x _ => L.length - (intOf x).toNat)
      case atStart => exact ⟨0, rfl, by omega, Below.refl _ _, .inl ⟨rfl, fun m hm => by omega⟩⟩
      case round =>
        obtain ⟨j, rfl, hj, hB2, HK⟩ := hrel
        have hown2 := hown.later hB2
        have harr2 := harr.later hB2 harr.lt
        have hres2 := hres.later hB2 hres.lt
        have hB3 := chain hB hB2
        have hv2 := hv.below hB3
        by_cases hjn : j < L.length
        · have hcell := hown2.cell j hjn
          have hc256 : L.getD j 0 < 256 := getD_lt_256 L hown2.few j
          rcases HK.out with ⟨hk, hnone⟩ | ⟨f, hk, hfi, hfj⟩
          · subst hk
            have hal := alike_any l hf i (L.getD j 0) hin hc256 _ rfl
            rw [← HPp.out] at hal
            have HNX : Hid (p i (L.getD j 0) = true → KState (p i) L (j + 1) (.int .i64 j)) := fun h => .inr ⟨j, rfl, (found_at hjn hnone h).symm, by omega⟩
            have HNY : Hid (p i (L.getD j 0) = false → KState (p i) L (j + 1) (.int .i64 (-1))) := fun h => .inl ⟨rfl, fun m hm => by
              by_cases e : m = j
              · subst e; exact h
              · exact hnone m (by omega)⟩
            clear HK hnone
            generalize L.getD j 0 = c at *
            generalize p i c = r at *
            cases r
            · have HZ2 : Hid (KState (p i) L (j + 1) (.int .i64 (-1))) := HNY.out rfl
              clear HNX HNY
              go_wp2_with (go_at_call 30; refine (hal _ _ hv2).mono ?_; rintro e w1 ⟨rfl, b1⟩)
              go_roundw
              case rel => exact ⟨j + 1, by go_num, by omega, chain hB2 b1, HZ2⟩
              case measure => simp [intOf]; omega
            · have HZ2 : Hid (KState (p i) L (j + 1) (.int .i64 j)) := HNX.out rfl
              clear HNX HNY
              go_wp2_with (go_at_call 30; refine (hal _ _ hv2).mono ?_; rintro e w1 ⟨rfl, b1⟩)
              go_roundw
              case rel => exact ⟨j + 1, by go_num, by omega, chain hB2 b1, HZ2⟩
              case measure => simp [intOf]; omega
          · subst hk
            have HZ2 : Hid (KState (p i) L (j + 1) (.int .i64 f)) := .inr ⟨f, rfl, hfi, by omega⟩
            have hf0 : ¬ ((f : Int) < 0) := by omega
            clear HK hfi
            go_wp2
            go_roundw
            case rel => exact ⟨j + 1, by go_num, by omega, hB2, HZ2⟩
            case measure => simp [intOf]; omega
        · have he : j = L.length := by omega
          rcases HK.out with ⟨hk, hnone⟩ | ⟨f, hk, hfi, hfj⟩
          · subst hk
            have hany : (repsBy p i).any (fun c => p i c) = false := by rw [← HL.out]; exact none_all (fun m hm => hnone m (by omega))
            have HN1 : Hid (L ++ [i] = repsBy p (i + 1)) := by show _ = _; rw [repsBy_out hany, HL.out]
            have HN2 : Hid ((tbl p i).set i L.length = tbl p (i + 1)) := by show _ = _; rw [← tbl_step p i hin, clsBy_out hpii hany, HL.out]
            have hn1 : L.length < 256 := by omega
            clear HK hnone hany he HL
            go_wp2_with (first | (at_builtin; refine Lib.wpList_append_byte rfl (.tmp 38) (.tmp 41) 46 rfl (w.heap.size + 1 + 1) 5 i0 Try.underlying46 hi0 hz0 hz1 hz2 _ _ _ rfl wr _ _ (by exact ⟨hown2.owns, Below.refl _ _, Nat.le_of_lt (Nat.lt_of_le_of_lt hown2.lt.1 hown2.lt.2)⟩) rfl (by omega) ?_; intro v' w' hb'; have harr3 := harr2.later hb'.2.1 (by omega); have hres3 := hres2.later hb'.2.1 (by omega); have kc := harr3.cell i hin; have kf := harr3.fz i))
            obtain ⟨g', cap', hown3⟩ := own_more hin hown2.few hb'.1
            exact ⟨⟨i + 1, g', cap', L ++ [i], by go_num, by omega, hown3.set (by omega) i _, by rw [← HN2.out]; exact harr3.put i _, hres3.other (by omega) i _, (hB3.trans (hb'.2.1.mono (by omega))).setCell (p := ⟨w.heap.size + 1, i, none⟩) (by show w.heap.size ≤ w.heap.size + 1; omega) _, HN1⟩, by simp [intOf]; omega⟩
          · subst hk
            have hany : (repsBy p i).any (fun c => p i c) = true := by rw [← HL.out]; exact some_any (p := p i) (by omega)
            have HN1 : Hid (L = repsBy p (i + 1)) := by show _ = _; rw [repsBy_in hany, HL.out]
            have HN2 : Hid ((tbl p i).set i f = tbl p (i + 1)) := by show _ = _; rw [← tbl_step p i hin, (clsBy_in hany).1, hfi, HL.out]
            have hn1 : f < 256 := by omega
            have hf0 : ¬ ((f : Int) < 0) := by omega
            have kc := harr2.cell i hin
            have kf := harr2.fz i
            clear HK hany he HL hfi
            go_wp2
            exact ⟨⟨i + 1, g, cap, L, by go_num, by omega, hown2.set (by omega) i _, by rw [← HN2.out]; exact harr2.put i _, hres2.other (by omega) i _, hB3.setCell (p := ⟨w.heap.size + 1, i, none⟩) (by show w.heap.size ≤ w.heap.size + 1; omega) _, HN1⟩, by simp [intOf]; omega⟩
    · have he : i = 256 := by omega
      subst he
      have HN : Hid (L.length = (repsBy p 256).length) := by show _ = _; rw [HL.out]
      clear HL
      go_wp2_with (first | (refine wpList_load_row rfl 36 (.tmp 4) rfl (w.heap.size + 1) rfl 36 (cells36 (tbl p 256)) (0, 0) _ harr.1 Try.underlying36 rfl (info36 _ harr.2) ?_) | (refine wpList_store_row rfl 36 (.tmp 2) (.tmp 47) rfl w.heap.size (cells36 (tbl p 256)) rfl rfl 36 _ hres.1 (info36 _ harr.2) (by rw [cells36_size _ hres.2, cells36_size _ harr.2]) (cells36_one _) ?_))
      refine ret36 Try.results24 w.heap.size (tbl p 256) L.length rfl (hres.row harr.2) rfl rfl ?_
      exact ⟨by rw [HN.out], below_setRow hB (Nat.le_refl _) _⟩
end Go.Proofs.Ytfpihoghpogblaa.st
