/-
  Contracts over this program: states are parted again (partAgain).
-/
import Derived.Test.YtkdkibnjfgcppaaKMh
import Derived.Deep.OwnRows
namespace Go.Proofs.Ytkdkibnjfgcppaa.mi
open Go.ChangeShapes Go.WideShapes Go.ChangeAt Go.RowKit Go.Shelf Go.Maps
set_option linter.unusedVariables false

/-- none, and the states, one by one -/
def itm (i : Nat) : Option Nat := match i with
  | 0 => none
  | s + 1 => some s
theorem itm_mem (d : df.Dfa) (i : Nat) (h : i < d.next.length + 1) : itm i ∈ items (dm d) := by
  cases i with
  | zero => exact none_items _
  | succ s => exact mem_items.2 fun t e => by cases e; show s < d.next.length; omega
theorem mem_itm {d : Dm} {x : Option Nat} (hx : x ∈ items d) : ∃ i, i < d.n + 1 ∧ x = itm i := by
  cases x with
  | none => exact ⟨0, by omega, rfl⟩
  | some s => exact ⟨s + 1, by have := mem_items.1 hx s rfl; omega, rfl⟩
theorem st_itm (i : Nat) : st (itm i) = (i : Int) - 1 := by cases i <;> simp [itm, st]
theorem pa_itm (F : List Nat) (i : Nat) : pa F (itm i) = F.getD i 0 := by cases i <;> rfl
/-- how far it has come -/
structure Som (d : Dm) (P F : List Nat) (l : List (List Nat)) (i : Nat) : Prop where
  len : F.length = d.n + 1
  nd : l.Nodup
  at' : ∀ j, j < i → l[F.getD j 0]? = some (sgOf d P (itm j))
  from' : ∀ s ∈ l, ∃ j, j < i ∧ sgOf d P (itm j) = s
  zero : 0 < i → F.getD 0 0 = 0
theorem som_start (d : Dm) (P F : List Nat) (h : F.length = d.n + 1) : Som d P F [] 0 := ⟨h, by simp, fun j hj => by omega, fun s hs => by simp at hs, fun h => by omega⟩
theorem Som.seen {d : Dm} {P F : List Nat} {l : List (List Nat)} (h : Som d P F l (d.n + 1)) : Seen d P F l.length :=
  ⟨h.len, h.zero (by omega), l, h.nd, rfl, fun x hx => by
    obtain ⟨i, hi, rfl⟩ := mem_itm hx
    rw [pa_itm]
    exact h.at' i hi, fun s hs => by
    obtain ⟨j, hj, e⟩ := h.from' s hs
    refine ⟨itm j, ?_, e⟩
    cases j with
    | zero => exact none_items _
    | succ k => exact mem_items.2 fun t e => by cases e; omega⟩
theorem Som.step {d : Dm} {P F : List Nat} {l l' : List (List Nat)} {i k : Nat} (h : Som d P F l i) (hi : i < d.n + 1) (hk : l'[k]? = some (sgOf d P (itm i))) (hl : l' = l ∨ (sgOf d P (itm i) ∉ l ∧ l' = l ++ [sgOf d P (itm i)])) : Som d P (F.set i k) l' (i + 1) := by
  have hpre : l <+: l' := by rcases hl with rfl | ⟨_, rfl⟩ <;> simp
  have hg : ∀ j, j ≠ i → (F.set i k).getD j 0 = F.getD j 0 := fun j hj => by
    rw [List.getD_eq_getElem?_getD, List.getElem?_set_ne (fun e => hj e.symm), ← List.getD_eq_getElem?_getD]
  have hs : (F.set i k).getD i 0 = k := by
    rw [List.getD_eq_getElem?_getD, List.getElem?_set_self (by rw [h.len]; exact hi)]; rfl
  refine ⟨by rw [List.length_set]; exact h.len, ?_, fun j hj => ?_, fun s hs' => ?_, fun _ => ?_⟩
  · rcases hl with rfl | ⟨hn, rfl⟩
    · exact h.nd
    · rw [List.nodup_append]
      exact ⟨h.nd, by simp, fun a ha b hb e => by rw [List.mem_singleton.1 hb] at e; exact hn (e ▸ ha)⟩
  · by_cases e : j = i
    · subst e; rw [hs]; exact hk
    · rw [hg j e]; exact pre_get hpre (h.at' j (by omega))
  · rcases hl with rfl | ⟨hn, rfl⟩
    · obtain ⟨j, hj, e⟩ := h.from' s hs'; exact ⟨j, by omega, e⟩
    · rcases List.mem_append.1 hs' with hs' | hs'
      · obtain ⟨j, hj, e⟩ := h.from' s hs'; exact ⟨j, by omega, e⟩
      · exact ⟨i, by omega, (List.mem_singleton.1 hs').symm⟩
  · by_cases e : i = 0
    · subst e
      rw [hs]
      rcases hl with rfl | ⟨hn, rfl⟩
      · obtain ⟨j, hj, _⟩ := h.from' _ (List.mem_of_getElem? hk); omega
      · have : l = [] := List.eq_nil_iff_forall_not_mem.2 fun s hs' => by obtain ⟨j, hj, _⟩ := h.from' s hs'; omega
        subst this
        have := (List.getElem?_eq_some_iff.1 hk).1
        simp at this
        exact this
    · rw [hg 0 (fun e2 => e e2.symm)]; exact h.zero (by omega)
theorem Som.few {d : Dm} {P F : List Nat} {l : List (List Nat)} {i : Nat} (h : Som d P F l i) : l.length ≤ i := by
  have := few_of h.nd (M := (List.range i).map fun j => sgOf d P (itm j)) fun s hs => by
    obtain ⟨j, hj, e⟩ := h.from' s hs
    exact List.mem_map.2 ⟨j, List.mem_range.2 hj, e⟩
  simpa using this
theorem okG (d : Dm) (P : List Nat) (hP2 : ∀ x ∈ P, x ≤ 32767) (x : Option Nat) : OkG (sgOf d P x) := by
  refine ⟨by simp [sgOf], fun v hv => ?_⟩
  unfold sgOf at hv
  rcases List.mem_cons.1 hv with rfl | hv
  · exact pa_le hP2 x
  · obtain ⟨b, _, rfl⟩ := List.mem_map.1 hv
    exact pa_le hP2 _
theorem NRow.put {w : World} {g : Nat} {l : List Nat} (h : NRow w g l) (i v : Nat) : NRow (w.setCell ⟨g, i, none⟩ (.int .i64 (v : Int))) g (l.set i v) := by
  unfold NRow
  rw [set_heap w _ _ _ i _ h]
  unfold ncs
  rw [List.setIfInBounds_toArray, List.map_set]
theorem info3 : (Try.prog.info? 3).map (fun i => (i.zero, i.size, i.bytes)) = some (some (.int .i64 0), 1, 8) := by kernel_rfl
theorem ncs_made (n : Nat) : madeCells #[.int .i64 0] n = ncs (List.replicate n 0) := by
  apply Array.toList_inj.1
  rw [toList_madeCells_one]
  simp [ncs]
theorem make39 (n : Nat) (hn : n ≤ 1000000) (W : World) : (Instr.makeSlice 39 (.int .i64 (n : Int)) (.int .i64 (n : Int))).run Try.prog W = .ok (.slice (some ⟨W.heap.size, 0, none⟩) n n) (W.alloc (.cells (ncs (List.replicate n 0)) 3)) := by
  rw [← ncs_made]
  exact run_make_row' (P := Try.prog) 39 3 (.int .i64 0) 8 Try.underlying39 info3 rfl .i64 .i64 n (by omega) (by omega) W
set_option maxHeartbeats 4000000 in
set_option maxRecDepth 100000 in
theorem partAgain_any (d : df.Dfa) (hr : df.right d = true) (cs : Array Value) (o ao : Option Addr) (cap acap : Nat) (P : List Nat) (hP : P.length = d.next.length + 1) (hP2 : ∀ x ∈ P, x ≤ 32767) (gp pc : Nat) (hpc : P.length ≤ pc) (hpc2 : pc ≤ 1000000) (w : World) (hD : df.DAt (df.In w) w d cs o cap ao acap) (hN : NRow w gp P) :
    Calls Try.prog 80 #[.agg cs, .slice (some ⟨gp, 0, none⟩) P.length pc] w fun e w' => ∃ (g : Nat) (F : List Nat) (n : Nat), e = .returned (.tuple #[.slice (some ⟨g, 0, none⟩) F.length F.length, .int .i64 (n : Int)]) ∧ Seen (dm d) P F n ∧ NRow w' g F ∧ w.heap.size ≤ g ∧ Below w.heap.size w w' := by
  have hok := df.ok_of d hr
  have hmm := @run_makeMap Try.prog
  have hmost := hok.most
  have hw8 := hD.size
  have hlen : P.length ≤ 1000000 := by omega
  have HPN : Hid (P.length = d.next.length + 1) := hP
  clear hP
  have hmk := make39 P.length hlen
  obtain ⟨wB, hwB⟩ : ∃ wB, wB = ((w.alloc (.cells cs 26)).alloc (.cells (ncs (List.replicate P.length 0)) 3)).alloc (.map #[] 0) := ⟨_, rfl⟩
  have BB : Below w.heap.size w wB := by rw [hwB]; exact (((Below.refl _ _).alloc (Nat.le_refl _) _).alloc (by simp) _).alloc (by simp; omega) _
  have hsB : wB.heap.size = w.heap.size + 1 + 1 + 1 := by rw [hwB]; simp
  have xA : df.DBox wB w.heap.size cs := by
    rw [hwB]; exact (Below.heap_alloc _ _ _ (by simp; omega)).trans ((Below.heap_alloc _ _ _ (by simp)).trans (df.dbox_new w cs))
  have xF : NRow wB (w.heap.size + 1) (List.replicate P.length 0) := by
    rw [hwB]
    refine (Below.heap_alloc _ _ _ (by simp)).trans ?_
    have := heap_alloc_new (w.alloc (.cells cs 26)) (.cells (ncs (List.replicate P.length 0)) 3)
    rw [World.size_alloc] at this
    exact this
  have xM : Ng wB (w.heap.size + 1 + 1) [] := by
    rw [hwB]
    have h0 := World.ownsMap_made (P := Try.prog) ((w.alloc (.cells cs 26)).alloc (.cells (ncs (List.replicate P.length 0)) 3)) 161 (plainElem (H := Unit) Try.prog 3)
    simp only [World.size_alloc] at h0
    exact ⟨_, h0, mapN_nil _ _⟩
  go_enter Try.func80, Try.ntmps80
  go_wp2_with (fail)
  rw [← hwB]
  clear hwB hmk hmm
  have HSB : Hid (wB.heap.size = w.heap.size + 1 + 1 + 1) := hsB
  have HNB : Hid (∀ W, Below (w.heap.size + 1) wB W → NRow W gp P ∧ df.DAt (df.In W) W d cs o cap ao acap ∧ df.DBox W w.heap.size cs ∧ Below w.heap.size w W ∧ w.heap.size + 1 + 1 + 1 ≤ W.heap.size) := fun W b =>
    have hsz : w.heap.size + 1 + 1 + 1 ≤ W.heap.size := by have := b.size; omega
    ⟨(b.block _ (by have := hN.lt; omega)).trans ((BB.block _ hN.lt).trans hN), hD.carry (fun k hk => (b.block k (by unfold df.In at hk; omega)).trans (BB.block k hk)) (fun k hk => by unfold df.In at hk ⊢; omega), (b.block _ (by omega)).trans xA, BB.trans ⟨b.os, b.tape, b.output, b.size, fun k hk => b.block k (by omega)⟩, hsz⟩
  have H88 : Hid (∀ i, i < d.next.length + 1 → ∀ W, NRow W gp P → df.DAt (df.In W) W d cs o cap ao acap → Calls Try.prog 88 #[.agg cs, .slice (some ⟨gp, 0, none⟩) P.length pc, .int .i64 ((i : Int) - 1)] W fun e w' => e = .returned (.agg (gcs (sgOf (dm d) P (itm i)))) ∧ Below W.heap.size W w') := fun i hi W h1 h2 => by
    have := look_any d hr cs o ao cap acap P HPN.out hP2 (itm i) (itm_mem d i hi) gp pc hpc W h2 h1
    rwa [st_itm] at this
  have HOKG : Hid (∀ x, OkG (sgOf (dm d) P x)) := okG (dm d) P hP2
  have hst0 := som_start (dm d) P (List.replicate P.length 0) (by rw [List.length_replicate, HPN.out]; rfl)
  have hw8' := hw8
  clear hD hN xA hok hP2
  go_loopw [8] (fun y wr => ∃ (i : Nat) (F : List Nat) (l : List Sg), y = .int .i64 ((i : Int) - 1) ∧ i ≤ d.next.length + 1 ∧ Som (dm d) P F l i ∧ NRow wr (w.heap.size + 1) F ∧ Ng wr (w.heap.size + 1 + 1) l ∧ Below (w.heap.size + 1) wB wr) (fun y _ => d.next.length + 1 - (intOf y + 1).toNat)
  case atStart => exact ⟨0, _, [], rfl, by omega, hst0, xF, xM, Below.refl _ _⟩
  case round =>
    obtain ⟨i, F, l, rfl, hi, hS, hF, hM, hB⟩ := hrel
    obtain ⟨hN2, hD2, hX2, hBw, hsz⟩ := HNB.out wr hB
    have kx := hX2.nx hD2
    have hfl : F.length = P.length := by rw [hS.len, HPN.out]; rfl
    have hll := hS.few
    by_cases hlt : i < d.next.length + 1
    · have hw : IntKind.i64.wrap ((1 : Int) + ((i : Int) - 1)) = (i : Int) := by
        rw [show (1 : Int) + ((i : Int) - 1) = (i : Int) by omega]
        exact IntWalk.i64_in _ (by omega)
      have hip : i < P.length := by have := HPN.out; omega
      have c88 := H88.out i hlt wr hN2 hD2
      obtain ⟨S, hSS⟩ : ∃ S, S = sgOf (dm d) P (itm i) := ⟨_, rfl⟩
      rw [← hSS] at c88
      have hOK : OkG S := by rw [hSS]; exact HOKG.out _
      have HNX : Hid (∀ w1, Below wr.heap.size wr w1 → Calls Try.prog 87 #[.map (some (w.heap.size + 1 + 1)), .agg (gcs S)] w1 (NgOut (w.heap.size + 1 + 1) l S w1)) := fun w1 b1 => numberg_any (hM.keep (b1.block _ (by omega))) S hOK (by omega)
      have HFIN : Hid (∀ w1 w2 (k : Nat) (l' : List Sg), Below wr.heap.size wr w1 → l'[k]? = some S → (l' = l ∨ (S ∉ l ∧ l' = l ++ [S])) → Ng w2 (w.heap.size + 1 + 1) l' → w1.grownBy w2 (some (w.heap.size + 1 + 1)) → w2.frozen? ⟨w.heap.size + 1, i, none⟩ = false ∧ (∃ u, w2.cell? ⟨w.heap.size + 1, i, none⟩ = some u) ∧ Som (dm d) P (F.set i k) l' (i + 1) ∧ NRow (w2.setCell ⟨w.heap.size + 1, i, none⟩ (.int .i64 (k : Int))) (w.heap.size + 1) (F.set i k) ∧ Ng (w2.setCell ⟨w.heap.size + 1, i, none⟩ (.int .i64 (k : Int))) (w.heap.size + 1 + 1) l' ∧ Below (w.heap.size + 1) wB (w2.setCell ⟨w.heap.size + 1, i, none⟩ (.int .i64 (k : Int)))) := fun w1 w2 k l' b1 hk hl hg gr => by
        have hF2 : NRow w2 (w.heap.size + 1) F := (gr.block _ (by have := b1.size; omega) (by simp)).trans ((b1.block _ (by omega)).trans hF)
        have hil : i < F.length := by omega
        refine ⟨Lib.frozen_of_heap hF2 i, ⟨_, hF2.cell (List.getElem?_eq_getElem hil)⟩, hS.step (by exact hlt) (by rw [← hSS]; exact hk) (by rw [← hSS]; exact hl), hF2.put i k, hg.keep (Below.heap_setCell _ _ _ _ (by simp)), ?_⟩
        exact ((hB.trans ⟨b1.os, b1.tape, b1.output, b1.size, fun q hq => b1.block q (by omega)⟩).trans ⟨gr.os, gr.tape, gr.output, gr.size, fun q hq => gr.block q (by have := b1.size; omega) (by simp; omega)⟩).setCell (p := ⟨w.heap.size + 1, i, none⟩) (by simp) _
      clear hM hS hF hSS hN2 hB
      generalize gcs S = G at *
      go_wp2_with (first | (refine wpList_load_row rfl 26 (.tmp 2) rfl w.heap.size rfl 26 cs (0, 0) _ hX2 Try.underlying26 rfl (df.info26 cs hw8) ?_) | (go_at_call 88; (refine c88.mono ?_); rintro e w1 ⟨rfl, b1⟩) | (go_at_call 87; (refine (HNX.out w1 b1).mono ?_); rintro e w2 ⟨k, l', rfl, hk, hl, hg, gr⟩; obtain ⟨hfz, ⟨u, hu⟩, q1, q2, q3, q4⟩ := HFIN.out w1 w2 k l' b1 hk hl hg gr; have Q1 := (show Hid _ from q1); have Q2 := (show Hid _ from q2); have Q3 := (show Hid _ from q3); have Q4 := (show Hid _ from q4); clear q1 q2 q3 q4 hk hl hg gr))
      go_roundw
      case rel => exact ⟨i + 1, _, l', by congr 1; omega, by omega, Q1.out, Q2.out, Q3.out, Q4.out⟩
      case measure => simp [intOf]; omega
    · obtain rfl : i = d.next.length + 1 := by omega
      have hln : (Builtin.len_ #[156] 3 #[.map (some (w.heap.size + 1 + 1))]).run Try.prog wr = .ok (.int .i64 (l.length : Int)) wr := by
        obtain ⟨D, h1, h2⟩ := hM
        rw [h1.len Try.underlying156 3, h2.sz]
      have HSE : Hid (Seen (dm d) P F l.length) := hS.seen
      have HFF : Hid (NRow wr (w.heap.size + 1) F) := hF
      clear hS hF hM
      rw [← hfl]
      go_wp2_with (fail)
      go_ret2
      exact ⟨w.heap.size + 1, F, l.length, by first | rfl | (rw [hfl]; rfl), HSE.out, HFF.out, by omega, hBw⟩
end Go.Proofs.Ytkdkibnjfgcppaa.mi
