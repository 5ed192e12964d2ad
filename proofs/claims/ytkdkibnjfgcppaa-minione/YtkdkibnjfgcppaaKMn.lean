/-
  Contracts over this program: the beginning of the walk (newWalk).
-/
import Derived.Test.YtkdkibnjfgcppaaKMm
import Derived.Test.YtkdkibnjfgcppaaKDj
namespace Go.Proofs.Ytkdkibnjfgcppaa.mi
open Go.ChangeShapes Go.WideShapes Go.ChangeAt Go.RowKit Go.Shelf Go.Maps
set_option linter.unusedVariables false

section
variable {o : Oper} {a : Act} {w : World}
theorem x_load26 {x : Operand} {g : Nat} {cs : Array Value} (hs : cs.size = 258) (h : o.op = .load 26 x) (hx : a.eval x = .pointer (some ⟨g, 0, none⟩)) (hb : df.DBox w g cs) : (execOp a.eval o).run Try.prog w = .ok (.value (.agg cs)) w := by
  unfold execOp
  simp only [h, hx, Instr.loadAt, Instr.sureAddr, Sem.run_bind, Sem.run_pure, Result.andThen_ok, run_loadVar_row w g 26 26 cs (0, 0) _ hb Try.underlying26 rfl (df.info26 cs hs)]
theorem x_build39 {x : Operand} {r : Int} (h : o.op = .buildSlice 39 1 #[(0, x)]) (hx : a.eval x = .int .i64 r) : (execOp a.eval o).run Try.prog w = .ok (.value (.slice (some ⟨w.heap.size, 0, none⟩) 1 1)) (w.alloc (.cells #[.int .i64 r] 3)) := by
  have e : (Instr.buildSlice 39 1 #[(0, Value.int .i64 r)]).run Try.prog w = .ok (.slice (some ⟨w.heap.size, 0, none⟩) 1 1) (w.alloc (.cells #[.int .i64 r] 3)) := by kernel_rfl
  unfold execOp
  rw [h]
  simp [hx, e, Result.andThen]
theorem x_build84 {x y z : Operand} {cs : Array Value} {p s : Value} {cells : Array Value} (h : o.op = .build 84 #[(0, x), (1, y), (3, z)]) (hx : a.eval x = .agg cs) (hy : a.eval y = p) (hz : a.eval z = s) (hb : Try.prog.built 84 [(0, .agg cs), (1, p), (3, s)] = some cells) : (execOp a.eval o).run Try.prog w = .ok (.value (.agg cells)) w := by
  have e := run_build (P := Try.prog) w 84 #[(0, .agg cs), (1, p), (3, s)] cells hb
  unfold execOp
  rw [h]
  simp [hx, hy, hz, e, Result.andThen]
theorem x_box84 {x : Operand} {cells : Array Value} (h : o.op = .box 84 x) (hx : a.eval x = .agg cells) : (execOp a.eval o).run Try.prog w = .ok (.value (.pointer (some ⟨w.heap.size, 0, none⟩))) (w.alloc (.cells cells 84)) := by
  have e : (Instr.box 84 (.agg cells)).run Try.prog w = .ok (.pointer (some ⟨w.heap.size, 0, none⟩)) (w.alloc (.cells cells 84)) := by kernel_rfl
  unfold execOp
  rw [h]
  simp [hx, e, Result.andThen]
end
/-- where the walk begins -/
structure New (d : df.Dfa) (cs : Array Value) (B : Nat) (w : World) (gw gp gn : Nat) (F : List Nat) (nums : List Int) (sv : Value) : Prop where
  box : WBox w gw cs (.slice (some ⟨gp, 0, none⟩) F.length F.length) (.slice (some ⟨gn, 0, none⟩) F.length F.length) sv (.slice none 0 0)
  lab : Lab (dm d) (pa F)
  len : F.length = d.next.length + 1
  parts : NRow w gp F
  nrow : ZRow w gn nums
  num : Num (dm d) (pa F) [(dm d).lang (some 0)] nums
  st : df.Owns w (B + 1) sv [0]
  one : ∃ g, sv = .slice (some ⟨g, 0, none⟩) 1 1 ∧ g ≠ gw ∧ g ≠ gp ∧ g ≠ gn ∧ B < g
  ap : gw ≠ gp ∧ gw ≠ gn ∧ gp ≠ gn ∧ B < gw ∧ B < gp ∧ B < gn
set_option maxHeartbeats 1000000 in
set_option maxRecDepth 100000 in
theorem newWalk_any (d : df.Dfa) (hr : df.right d = true) (cs : Array Value) (o ao : Option Addr) (cap acap : Nat) (w : World) (hD : df.DAt (df.In w) w d cs o cap ao acap) :
    Calls Try.prog 38 #[.agg cs] w fun e w' => ∃ gw gp gn F nums sv, e = .returned (.pointer (some ⟨gw, 0, none⟩)) ∧ New d cs w.heap.size w' gw gp gn F nums sv ∧ Below w.heap.size w w' := by
  have hok := df.ok_of d hr
  have hmost := hok.most
  have hone := hok.one
  have hw8 := hD.size
  obtain ⟨wA, hwA⟩ : ∃ wA, wA = w.alloc (.cells cs 26) := ⟨_, rfl⟩
  have B0 : Below w.heap.size w wA := by rw [hwA]; exact below_alloc w _
  have hsA : wA.heap.size = w.heap.size + 1 := by rw [hwA]; simp
  have xA : df.DBox wA w.heap.size cs := by rw [hwA]; exact df.dbox_new w cs
  have H60 : Hid (∀ W, Below wA.heap.size wA W → Calls Try.prog 60 #[.agg cs] W fun e w' => ∃ (g : Nat) (F : List Nat), e = .returned (.slice (some ⟨g, 0, none⟩) F.length F.length) ∧ Lab (dm d) (pa F) ∧ F.length = d.next.length + 1 ∧ NRow w' g F ∧ W.heap.size ≤ g ∧ Below W.heap.size W w') := fun W b =>
    partsOf_any d hr cs o ao cap acap W ((hD.later B0).later b)
  have kR : Below wA.heap.size wA wA := Below.refl _ _
  have HSA : Hid (wA.heap.size = w.heap.size + 1) := hsA
  clear hD hok
  go_enter Try.func38, Try.ntmps38
  go_wp2_with (fail)
  rw [← hwA]
  clear hwA hsA
  rename_i Q2 K2 hK2
  have hkey : ∀ (wT : World) (gp gs : Nat) (F : List Nat) (cells : Array Value), Below wA.heap.size wA wT → Lab (dm d) (pa F) → F.length = d.next.length + 1 → NRow wT gp F → wT.heap[gs]? = some (.cells #[.int .i64 0] 3 (0, 0)) → wA.heap.size ≤ gp → wA.heap.size ≤ gs → gp ≠ gs → WCells cells cs (.slice (some ⟨gp, 0, none⟩) F.length F.length) (.slice none 0 0) (.slice (some ⟨gs, 0, none⟩) 1 1) (.slice none 0 0) →
      Exit.then K2 Q2 .normal { tmps := #[.agg cs, .pointer (some ⟨w.heap.size, 0, none⟩), .pointer none, .pointer (some ⟨wT.heap.size, 0, none⟩), undef, .agg cs, .agg cs, .slice (some ⟨gp, 0, none⟩) F.length F.length, .slice (some ⟨gs, 0, none⟩) 1 1, .agg cells, .pointer (some ⟨wT.heap.size, 0, none⟩), undef, undef, undef, undef, undef, undef, undef, undef, undef, undef, undef, undef, undef, undef, undef, undef, undef, undef, undef, undef, undef, undef, undef, undef], defers := [] } (wT.alloc (.cells cells 84)) := by
    intro wT gp gs F cells bT hlab hlen hNR hST hgp hgs hne hWC
    have hgpl := hNR.lt
    have hgsl : gs < wT.heap.size := (Array.getElem?_eq_some_iff.1 hST).1
    have hfl : F.length ≤ 1000000 := by omega
    have hfl1 : 1 ≤ F.length := by omega
    have HLEN : Hid (F.length = d.next.length + 1) := hlen
    have HLAB : Hid (Lab (dm d) (pa F)) := hlab
    obtain ⟨w1, hw1⟩ : ∃ w1, w1 = (wT.alloc (.cells cells 84)).alloc (.cells #[.int .i64 (-1)] 3) := ⟨_, rfl⟩
    have b1 : Below wT.heap.size wT w1 := by rw [hw1]; exact ((Below.refl _ _).alloc (Nat.le_refl _) _).alloc (by simp) _
    have hs1 : w1.heap.size = wT.heap.size + 1 + 1 := by rw [hw1]; simp
    have xW : WBox w1 wT.heap.size cs (.slice (some ⟨gp, 0, none⟩) F.length F.length) (.slice none 0 0) (.slice (some ⟨gs, 0, none⟩) 1 1) (.slice none 0 0) := by
      refine ⟨cells, ?_, hWC⟩
      rw [hw1]; exact (Below.heap_alloc _ _ _ (by simp)).trans (heap_alloc_new wT _)
    have x1 : w1.cell? ⟨wT.heap.size + 1, 0, none⟩ = some (.int .i64 (-1)) := by
      have h0 : w1.heap[wT.heap.size + 1]? = some (.cells #[.int .i64 (-1)] 3 (0, 0)) := by
        rw [hw1]; have := heap_alloc_new (wT.alloc (.cells cells 84)) (.cells #[.int .i64 (-1)] 3); rw [World.size_alloc] at this; exact this
      rw [Lib.cell_of_heap h0]; rfl
    have c61 := repeat_any (-1) F.length hfl1 hfl (wT.heap.size + 1) w1 x1 (by omega)
    have cp := xW.cp
    rw [hw1] at cp
    have HS1 : Hid (w1.heap.size = wT.heap.size + 1 + 1) := hs1
    have h62 : ∀ W, NRow W gp F → Calls Try.prog 62 #[.slice (some ⟨gp, 0, none⟩) F.length F.length, .int .i64 0] W (fun e w' => e = .returned (.int .i64 (pa F (some 0) : Int)) ∧ w' = W) := fun W hW => part_call (d := d) hlen (Nat.le_refl _) hfl (some 0) (mem_items.2 fun s e => by cases e; exact hone) hW
    have hpl : pa F (some 0) < F.length := by rw [hlen]; exact hlab.lt _ (mem_items.2 fun s e => by cases e; exact hone)
    have HNS : Hid (Num (dm d) (pa F) [(dm d).lang (some 0)] (if pa F (some 0) = 0 then List.replicate F.length (-1) else (List.replicate F.length (-1)).set (pa F (some 0)) 0)) := by
      have := num_start hlab (show 0 < (dm d).n from hone)
      rw [show (dm d).n + 1 = F.length from hlen.symm] at this
      exact this
    clear hlen hlab hWC
    go_wp2_with (fail)
    go_at_call 61
    rw [← hw1]
    refine c61.mono ?_
    rintro e w2 ⟨rfl, hz2, b2⟩
    rw [hs1] at hz2
    have xW2 := xW.keep (b2.block _ xW.lt)
    have fz2 := xW2.fz 259
    have cn2 := xW2.cn
    obtain ⟨w3, hw3⟩ : ∃ w3, w3 = w2.setCell ⟨wT.heap.size, 259, none⟩ (.slice (some ⟨wT.heap.size + 1 + 1, 0, none⟩) F.length F.length) := ⟨_, rfl⟩
    have xW3 := xW2.setN (.slice (some ⟨wT.heap.size + 1 + 1, 0, none⟩) F.length F.length)
    rw [← hw3] at xW3
    have hb2 : Below wT.heap.size wT w2 := chain b1 b2
    have hb3 : Below wT.heap.size wT w3 := by rw [hw3]; exact hb2.setCell (p := ⟨wT.heap.size, 259, none⟩) (by simp) _
    have hN3 : NRow w3 gp F := hNR.keep (hb3.block _ hgpl)
    have hz3 : ZRow w3 (wT.heap.size + 1 + 1) (List.replicate F.length (-1)) := by rw [hw3]; exact (Below.heap_setCell _ _ _ _ (by simp; omega)).trans hz2
    have c62 := h62 w3 hN3
    have hS3 : w3.heap[gs]? = some (.cells #[.int .i64 0] 3 (0, 0)) := (hb3.block _ hgsl).trans hST
    have HB3 : Hid (Below w.heap.size w w3) := B0.trans ⟨(bT.os ▸ (chain bT hb3).os), (chain bT hb3).tape, (chain bT hb3).output, (chain bT hb3).size, fun k hk => (chain bT hb3).block k (by have := HSA.out; omega)⟩
    have hsw3 : wT.heap.size + 1 + 1 < w3.heap.size := hz3.lt
    have HOWN : Hid (∀ W, W.heap[gs]? = some (.cells #[.int .i64 0] 3 (0, 0)) → df.Owns W (w.heap.size + 1) (.slice (some ⟨gs, 0, none⟩) 1 1) [0]) := fun W hW => ⟨rfl, .inr ⟨gs, 1, #[.int .i64 0], rfl, by have := HSA.out; omega, hW, Nat.le_refl _, by unfold maxLen; omega, rfl, rfl⟩⟩
    have HFIN : Hid (∀ (W : World) (nums : List Int), WBox W wT.heap.size cs (.slice (some ⟨gp, 0, none⟩) F.length F.length) (.slice (some ⟨wT.heap.size + 1 + 1, 0, none⟩) F.length F.length) (.slice (some ⟨gs, 0, none⟩) 1 1) (.slice none 0 0) → NRow W gp F → ZRow W (wT.heap.size + 1 + 1) nums → Num (dm d) (pa F) [(dm d).lang (some 0)] nums → W.heap[gs]? = some (.cells #[.int .i64 0] 3 (0, 0)) → New d cs w.heap.size W wT.heap.size gp (wT.heap.size + 1 + 1) F nums (.slice (some ⟨gs, 0, none⟩) 1 1)) := fun W nums h1 h2 h3 h4 h5 =>
      ⟨h1, HLAB.out, HLEN.out, h2, h3, h4, HOWN.out W h5, ⟨gs, rfl, by omega, fun e => hne e.symm, by omega, by have := HSA.out; omega⟩, by omega, by omega, by omega, by have := HSA.out; have := bT.size; omega, by have := HSA.out; omega, by have := HSA.out; have := bT.size; omega⟩
    have cp3 := xW3.cp
    have cn3 := xW3.cn
    rw [hw3] at cp3 cn3
    have cp3' := xW3.cp
    have cn3' := xW3.cn
    clear hz2 b2 xW2 xW cp hb2 h62 c61 hST hNR
    generalize hpx : pa F (some 0) = px at *
    have HPX : Hid (pa F (some 0) = px) := hpx
    clear hpx
    by_cases hz : px = 0
    · rw [if_pos hz] at HNS
      have z0 : ((px : Int) != 0) = false := by simp [hz]
      go_wp2_with (fail)
      go_at_call 62
      rw [← hw3]
      clear hw3 cp3 cn3
      refine c62.mono ?_
      rintro e w4 ⟨rfl, h⟩
      obtain rfl := h.symm
      go_wp2_with (fail)
      go_ret
      exact ⟨_, _, _, _, _, _, rfl, HFIN.out w3 _ xW3 hN3 hz3 HNS.out hS3, HB3.out⟩
    · rw [if_neg hz] at HNS
      have z0 : ((px : Int) != 0) = true := by simp [hz]
      have hcz := hz3.cell (i := px) (x := -1) (by rw [List.getElem?_replicate, if_pos hpl])
      have fz3 := Lib.frozen_of_heap hz3 px
      go_wp2_with (fail)
      go_at_call 62
      rw [← hw3]
      clear hw3 cp3 cn3
      refine c62.mono ?_
      rintro e w4 ⟨rfl, h⟩
      obtain rfl := h.symm
      go_wp2_with (fail)
      go_ret
      refine ⟨_, _, _, _, _, _, rfl, HFIN.out _ _ (xW3.keep (Below.heap_setCell _ _ _ _ (by simp; omega))) (hN3.keep (Below.heap_setCell _ _ _ _ (by simp; omega))) (hz3.put px 0) HNS.out ((Below.heap_setCell _ _ _ _ (by simp; omega)).trans hS3), ?_⟩
      exact HB3.out.setCell (p := ⟨wT.heap.size + 1 + 1, px, none⟩) (by have := HSA.out; have := bT.size; simp; omega) _
  refine wp_region_held (S := fun W => Below wA.heap.size wA W) (by kernel_rfl) ?_
  refine rg.take_op (i := 0) 5 rfl rfl (rg.yields_run rfl (v := .agg cs) (fun W h => x_load26 hw8 rfl rfl (xA.later h))) (by kernel_rfl) (by kernel_rfl) (by kernel_rfl) (fun _ _ _ h => h) kR.drew ?_
  refine rg.take_op (i := 1) 6 rfl rfl (rg.yields_run rfl (v := .agg cs) (fun W h => x_load26 hw8 rfl rfl (xA.later h))) (by kernel_rfl) (by kernel_rfl) (by kernel_rfl) (fun _ _ _ h => h) kR.drew ?_
  simp only [Act.put, List.setIfInBounds_toArray, List.set_cons_zero, List.set_cons_succ]
  refine rg.two (i := 2) (j := 3) (by kernel_rfl) ?_ ?_
  · refine rg.op_call 2 7 (f := 60) (args := #[.agg cs]) rfl rfl rfl (by kernel_rfl) ?_
    refine (H60.out wA.drew kR.drew).mono ?_
    rintro e w1 ⟨gp, F, rfl, hl, hlen, hN1, hg, c1⟩
    have b1 : Below wA.heap.size wA w1 := (kR.drew).trans c1
    refine ⟨_, rfl, b1, ?_⟩
    simp only [Act.put, List.setIfInBounds_toArray, List.set_cons_zero, List.set_cons_succ]
    obtain ⟨gs, hgs⟩ : ∃ gs, gs = w1.heap.size := ⟨_, rfl⟩
    obtain ⟨wT, hwT⟩ : ∃ wT, wT = w1.alloc (.cells #[.int .i64 0] 3) := ⟨_, rfl⟩
    have bT : Below wA.heap.size wA wT := by rw [hwT]; exact b1.alloc b1.size _
    have hN : NRow wT gp F := by rw [hwT]; exact (Below.heap_alloc _ _ _ hN1.lt).trans hN1
    have hST : wT.heap[gs]? = some (.cells #[.int .i64 0] 3 (0, 0)) := by rw [hwT, hgs]; exact heap_alloc_new w1 _
    have hg1 : wA.heap.size ≤ gp := hg
    have hg2 : wA.heap.size ≤ gs := by rw [hgs]; exact b1.size
    have hne : gp ≠ gs := by have := hN1.lt; omega
    refine rg.one (i := 3) (by kernel_rfl) (rg.op_val 3 8 (v := .slice (some ⟨gs, 0, none⟩) 1 1) (w' := wT) rfl rfl rfl (by rw [hwT, hgs]; exact x_build39 rfl rfl) ⟨bT, ?_⟩)
    simp only [Act.put, List.setIfInBounds_toArray, List.set_cons_zero, List.set_cons_succ]
    obtain ⟨cells, hbt, hWC⟩ := built84 cs hw8 (.slice (some ⟨gp, 0, none⟩) F.length F.length) (.slice (some ⟨gs, 0, none⟩) 1 1) rfl rfl
    refine rg.take_op (i := 4) 9 rfl rfl (rg.yields_run rfl (v := .agg cells) (fun W h => x_build84 rfl rfl rfl rfl hbt)) (by kernel_rfl) (by kernel_rfl) (by kernel_rfl) (fun _ _ _ h => h) bT ?_
    simp only [Act.put, List.setIfInBounds_toArray, List.set_cons_zero, List.set_cons_succ]
    refine rg.one (i := 5) (by kernel_rfl) (rg.op_val 5 10 (v := .pointer (some ⟨wT.heap.size, 0, none⟩)) (w' := wT.alloc (.cells cells 84)) rfl rfl rfl (x_box84 rfl rfl) ⟨bT.alloc bT.size _, ?_⟩)
    simp only [Act.put, List.setIfInBounds_toArray, List.set_cons_zero, List.set_cons_succ]
    refine rg.take_op (i := 6) 3 rfl rfl (rg.yields_run rfl (v := .pointer (some ⟨wT.heap.size, 0, none⟩)) (fun W h => by kernel_rfl)) (by kernel_rfl) (by kernel_rfl) (by kernel_rfl) (fun _ _ _ h => h) (bT.alloc bT.size _) ?_
    simp only [Act.put, List.setIfInBounds_toArray, List.set_cons_zero, List.set_cons_succ]
    refine rg.done_op (by kernel_rfl) ?_
    exact hkey wT gp gs F cells bT hl hlen hN hST hg1 hg2 hne hWC
  · obtain ⟨gs, hgs⟩ : ∃ gs, gs = wA.heap.size := ⟨_, rfl⟩
    obtain ⟨w1, hw1⟩ : ∃ w1, w1 = wA.drew.alloc (.cells #[.int .i64 0] 3) := ⟨_, rfl⟩
    have b1 : Below wA.heap.size wA w1 := by rw [hw1]; exact kR.drew.alloc (Nat.le_refl _) _
    have hS1 : w1.heap[gs]? = some (.cells #[.int .i64 0] 3 (0, 0)) := by rw [hw1, hgs]; exact heap_alloc_new wA.drew _
    refine rg.op_val 3 8 (v := .slice (some ⟨gs, 0, none⟩) 1 1) (w' := w1) rfl rfl rfl (by rw [hw1, hgs]; exact x_build39 (w := wA.drew) rfl rfl) ⟨b1, ?_⟩
    simp only [Act.put, List.setIfInBounds_toArray, List.set_cons_zero, List.set_cons_succ]
    refine rg.one (i := 2) (by kernel_rfl) (rg.op_call 2 7 (f := 60) (args := #[.agg cs]) rfl rfl rfl (by kernel_rfl) ?_)
    refine (H60.out w1 b1).mono ?_
    rintro e wT ⟨gp, F, rfl, hl, hlen, hN, hg, c1⟩
    have bT : Below wA.heap.size wA wT := chain b1 c1
    have hgl : gs < w1.heap.size := (Array.getElem?_eq_some_iff.1 hS1).1
    have hST : wT.heap[gs]? = some (.cells #[.int .i64 0] 3 (0, 0)) := (c1.block _ hgl).trans hS1
    have hg1 : wA.heap.size ≤ gp := Nat.le_trans b1.size hg
    have hg2 : wA.heap.size ≤ gs := by rw [hgs]; exact Nat.le_refl _
    have hne : gp ≠ gs := by omega
    refine ⟨_, rfl, bT, ?_⟩
    simp only [Act.put, List.setIfInBounds_toArray, List.set_cons_zero, List.set_cons_succ]
    obtain ⟨cells, hbt, hWC⟩ := built84 cs hw8 (.slice (some ⟨gp, 0, none⟩) F.length F.length) (.slice (some ⟨gs, 0, none⟩) 1 1) rfl rfl
    refine rg.take_op (i := 4) 9 rfl rfl (rg.yields_run rfl (v := .agg cells) (fun W h => x_build84 rfl rfl rfl rfl hbt)) (by kernel_rfl) (by kernel_rfl) (by kernel_rfl) (fun _ _ _ h => h) bT ?_
    simp only [Act.put, List.setIfInBounds_toArray, List.set_cons_zero, List.set_cons_succ]
    refine rg.one (i := 5) (by kernel_rfl) (rg.op_val 5 10 (v := .pointer (some ⟨wT.heap.size, 0, none⟩)) (w' := wT.alloc (.cells cells 84)) rfl rfl rfl (x_box84 rfl rfl) ⟨bT.alloc bT.size _, ?_⟩)
    simp only [Act.put, List.setIfInBounds_toArray, List.set_cons_zero, List.set_cons_succ]
    refine rg.take_op (i := 6) 3 rfl rfl (rg.yields_run rfl (v := .pointer (some ⟨wT.heap.size, 0, none⟩)) (fun W h => by kernel_rfl)) (by kernel_rfl) (by kernel_rfl) (by kernel_rfl) (fun _ _ _ h => h) (bT.alloc bT.size _) ?_
    simp only [Act.put, List.setIfInBounds_toArray, List.set_cons_zero, List.set_cons_succ]
    refine rg.done_op (by kernel_rfl) ?_
    exact hkey wT gp gs F cells bT hl hlen hN hST hg1 hg2 hne hWC
end Go.Proofs.Ytkdkibnjfgcppaa.mi
