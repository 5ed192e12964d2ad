/-
  Contracts over this program: trans.Then.
-/
import Derived.Test.YtafcekognhkmgaaKm
namespace Go.Proofs.Ytafcekognhkmgaa.mk
open Go.ChangeShapes Go.WideShapes Go.ChangeAt Go.RowKit Go.Shelf Go.Maps
open tr
set_option linter.unusedVariables false

theorem load_if {P : Program} {ops : Array Oper} {rest : List Oper} {o : Oper} {a : Act} {w : World} {Q : Exit → Act → World → Prop} (hw : Region.wanted o (yielded ops a.tmps) = true) (ty : TypeId) (x : Operand) (ho : o.op = .load ty x)
    (g : Nat) (hx : a.eval x = .pointer (some ⟨g, 0, none⟩)) (t : TypeId) (cs : Array Value) (fr : Nat × Nat) (d : TypeDesc) (hg : w.heap[g]? = some (.cells cs t fr))
    (hu : P.underlying ty = some d) (hd : (match d with | .struct _ | .array _ _ => true | _ => false) = true) (hi : (P.info? ty).map (·.size) = some cs.size)
    (h : wpList P ops Q rest (a.put o.dst (.agg cs)) w) : wpList P ops Q (o :: rest) a w :=
  wpList_step fun K hK => by rw [if_pos hw]; exact wp_load_row ty x ho g hx t cs fr d hg hu hd hi (hK _ _ h)
theorem box_at (w : World) (m : Mc) (p : Mp) {o : Obj} : Box ((w.alloc (.cells (mv m p) 26)).alloc o) w.heap.size m p := (box_new w m p).later (below_alloc _ _)
set_option maxHeartbeats 4000000 in
set_option maxRecDepth 100000 in
theorem then_bad {a b : Mc} {pa pb : Mp} {w : World} (hMa : MAt (In w) w a pa) (hMb : MAt (In w) w b pb) (x : Bool) (hx : right a = x) (hbad : x = false ∨ right b = false) :
    Calls Try.prog 18 #[.agg (mv a pa), .agg (mv b pb)] w fun e w' => e = .returned (.tuple #[.agg nil4, .int .i64 120]) ∧ Below w.heap.size w w' := by
  obtain ⟨w3, HW3⟩ : ∃ w3, Hid (w3 = ((w.alloc (.cells (mv a pa) 26)).alloc (.cells (mv b pb) 26)).alloc (.cells nil4 26)) := ⟨_, rfl⟩
  have z1 : (w.alloc (.cells (mv a pa) 26)).heap.size = w.heap.size + 1 := by simp
  have z2 : ((w.alloc (.cells (mv a pa) 26)).alloc (.cells (mv b pb) 26)).heap.size = w.heap.size + 2 := by simp
  have B3 : Below w.heap.size w w3 := by rw [HW3.out]; exact chain (chain (below_alloc w _) (below_alloc _ _)) (below_alloc _ _)
  have bA : Box w3 w.heap.size a pa := by rw [HW3.out]; exact (box_at w a pa).later (below_alloc _ _)
  have bB : Box w3 (w.heap.size + 1) b pb := by
    have := (box_at (w.alloc (.cells (mv a pa) 26)) b pb (o := .cells nil4 26))
    rw [z1] at this
    rw [HW3.out]
    exact this
  have h26 : w3.heap[w.heap.size + 2]? = some (.cells nil4 26 (0, 0)) := by
    have := World.alloc_heap_new ((w.alloc (.cells (mv a pa) 26)).alloc (.cells (mv b pb) 26)) (.cells nil4 26)
    rw [z2] at this
    rw [HW3.out]
    exact this
  have c9 := right_any a x hx.symm pa w3 (hMa.later B3)
  have HB : Hid (∀ W, Below w3.heap.size w3 W → Box W (w.heap.size + 1) b pb ∧ W.heap[w.heap.size + 2]? = some (.cells nil4 26 (0, 0)) ∧ MAt (In W) W b pb) := fun W hb => ⟨bB.later hb, (hb.block _ (Array.getElem?_eq_some_iff.1 h26).1).trans h26, hMb.later (chain B3 hb)⟩
  rw [HW3.out] at c9 bA
  clear hMa hMb z1 z2 bB h26
  cases x with
  | false =>
    go_enter Try.func18, Try.ntmps18
    go_wp2_with (first | (refine wpList_load_row rfl 26 (.tmp 2) rfl w.heap.size rfl 26 (mv a pa) (0, 0) _ bA Try.underlying26 rfl info26 ?_) | (go_at_call 9; refine c9.mono ?_; rintro e w4 ⟨rfl, b4⟩; rw [← HW3.out] at b4; have h26 := (HB.out w4 b4).2.1; clear c9) | (refine wpList_store_row (by rfl) 26 (.tmp 4) (.tmp 15) (by rfl) (w.heap.size + 2) nil4 (by rfl) (by rfl) 26 nil4 h26 info26 rfl (by simp [Value.oneCell']) ?_))
    exact ret26 rfl (w.heap.size + 2) _ _ _ _ 120 rfl (setRow_heap _ _ _ _ _ _ h26) rfl rfl ⟨rfl, below_setRow (chain B3 b4) (by omega) _⟩
  | true =>
    have hb : right b = false := by
      rcases hbad with h | h
      · cases h
      · exact h
    have HR : Hid (right b = false) := hb
    clear hb hbad
    go_enter Try.func18, Try.ntmps18
    go_wp2_with (first | (refine wpList_load_row rfl 26 (.tmp 2) rfl w.heap.size rfl 26 (mv a pa) (0, 0) _ bA Try.underlying26 rfl info26 ?_) | (go_at_call 9; refine c9.mono ?_; rintro e w4 ⟨rfl, b4⟩; rw [← HW3.out] at b4; have bB4 := (HB.out w4 b4).1; have d9 := right_any b false HR.out.symm pb w4 (HB.out w4 b4).2.2; clear c9) | (refine load_if (by kernel_rfl) 26 (.tmp 3) rfl (w.heap.size + 1) rfl 26 (mv b pb) (0, 0) _ bB4 Try.underlying26 rfl info26 ?_) | (go_at_call 9; refine d9.mono ?_; rintro e w5 ⟨rfl, b5⟩; have h26 := (HB.out w5 (chain b4 b5)).2.1; clear d9) | (refine wpList_store_row (by rfl) 26 (.tmp 4) (.tmp 15) (by rfl) (w.heap.size + 2) nil4 (by rfl) (by rfl) 26 nil4 h26 info26 rfl (by simp [Value.oneCell']) ?_))
    exact ret26 rfl (w.heap.size + 2) _ _ _ _ 120 rfl (setRow_heap _ _ _ _ _ _ h26) rfl rfl ⟨rfl, below_setRow (chain (chain B3 b4) b5) (by omega) _⟩
set_option maxHeartbeats 4000000 in
set_option maxRecDepth 100000 in
theorem then_good {a b : Mc} (hA : Right a) (hB : Right b) {pa pb : Mp} {w : World} (hMa : MAt (In w) w a pa) (hMb : MAt (In w) w b pb) :
    Calls Try.prog 18 #[.agg (mv a pa), .agg (mv b pb)] w (MOut a b w) := by
  obtain ⟨w3, HW3⟩ : ∃ w3, Hid (w3 = ((w.alloc (.cells (mv a pa) 26)).alloc (.cells (mv b pb) 26)).alloc (.cells nil4 26)) := ⟨_, rfl⟩
  have z1 : (w.alloc (.cells (mv a pa) 26)).heap.size = w.heap.size + 1 := by simp
  have z2 : ((w.alloc (.cells (mv a pa) 26)).alloc (.cells (mv b pb) 26)).heap.size = w.heap.size + 2 := by simp
  have B3 : Below w.heap.size w w3 := by rw [HW3.out]; exact chain (chain (below_alloc w _) (below_alloc _ _)) (below_alloc _ _)
  have bA : Box w3 w.heap.size a pa := by rw [HW3.out]; exact (box_at w a pa).later (below_alloc _ _)
  have bB : Box w3 (w.heap.size + 1) b pb := by
    have := (box_at (w.alloc (.cells (mv a pa) 26)) b pb (o := .cells nil4 26))
    rw [z1] at this
    rw [HW3.out]
    exact this
  have h26 : w3.heap[w.heap.size + 2]? = some (.cells nil4 26 (0, 0)) := by
    have := World.alloc_heap_new ((w.alloc (.cells (mv a pa) 26)).alloc (.cells (mv b pb) 26)) (.cells nil4 26)
    rw [z2] at this
    rw [HW3.out]
    exact this
  have c9 := right_any a true (right_iff.2 hA).symm pa w3 (hMa.later B3)
  have HB : Hid (∀ W, Below w3.heap.size w3 W → Box W w.heap.size a pa ∧ Box W (w.heap.size + 1) b pb ∧ W.heap[w.heap.size + 2]? = some (.cells nil4 26 (0, 0)) ∧ MAt (In W) W a pa ∧ MAt (In W) W b pb) := fun W hb => ⟨bA.later hb, bB.later hb, (hb.block _ (Array.getElem?_eq_some_iff.1 h26).1).trans h26, hMa.later (chain B3 hb), hMb.later (chain B3 hb)⟩
  have HD9 : Hid (∀ W, MAt (In W) W b pb → Calls Try.prog 9 #[.agg (mv b pb)] W fun e w' => e = .returned (.bool true) ∧ Below W.heap.size W w') := fun W h => right_any b true (right_iff.2 hB).symm pb W h
  have HA' : Hid (Right a) := hA
  have HB' : Hid (Right b) := hB
  have bA0 := bA
  rw [HW3.out] at c9 bA0
  clear hMa hMb z1 z2 bB h26 bA
  go_enter Try.func18, Try.ntmps18
  go_wp2_with (first | (refine wpList_load_row rfl 26 (.tmp 2) rfl w.heap.size rfl 26 (mv a pa) (0, 0) _ bA0 Try.underlying26 rfl info26 ?_) | (go_at_call 9; refine c9.mono ?_; rintro e w4 ⟨rfl, b4⟩; rw [← HW3.out] at b4; have bB4 := (HB.out w4 b4).2.1; have d9 := HD9.out w4 (HB.out w4 b4).2.2.2.2; clear c9 bA0) | (refine load_if (by kernel_rfl) 26 (.tmp 3) rfl (w.heap.size + 1) rfl 26 (mv b pb) (0, 0) _ bB4 Try.underlying26 rfl info26 ?_) | (go_at_call 9; refine d9.mono ?_; rintro e w5 ⟨rfl, b5⟩; have bA5 := (HB.out w5 (chain b4 b5)).1; have bB5 := (HB.out w5 (chain b4 b5)).2.1; clear d9 bB4) | (refine wpList_load_row rfl 26 (.tmp 2) rfl w.heap.size rfl 26 (mv a pa) (0, 0) _ bA5 Try.underlying26 rfl info26 ?_) | (refine wpList_load_row rfl 26 (.tmp 3) rfl (w.heap.size + 1) rfl 26 (mv b pb) (0, 0) _ bB5 Try.underlying26 rfl info26 ?_))
  have B5 : Below w3.heap.size w3 w5 := chain b4 b5
  obtain ⟨w6, HW6⟩ : ∃ w6, Hid (w6 = w5.alloc (.cells (mv a pa ++ mv b pb) 73)) := ⟨_, rfl⟩
  have B6 : Below w5.heap.size w5 w6 := by rw [HW6.out]; exact below_alloc _ _
  have hC : Cn w6.heap.size w6 w5.heap.size a pa b pb := by
    obtain ⟨_, _, _, m1, m2⟩ := HB.out w5 B5
    have h7 : w6.heap[w5.heap.size]? = some (.cells (mv a pa ++ mv b pb) 73 (0, 0)) := by rw [HW6.out]; exact heap_alloc_new w5 _
    exact ⟨h7, m1.later B6, m2.later B6, (Array.getElem?_eq_some_iff.1 h7).1⟩
  have c41 := machine_any hA hB hC
  have HL : Hid (w.heap.size + 2 < w6.heap.size) := by
    have := (Array.getElem?_eq_some_iff.1 (HB.out w6 (chain B5 B6)).2.2.1).1
    exact this
  have hww : w5.alloc (.cells #[.slice pa.no a.next.length pa.nc, .slice pa.po a.put.length pa.pc, .slice pa.eo a.fin.length pa.ec, .slice pa.xo a.txt.length pa.xc, .slice pb.no b.next.length pb.nc, .slice pb.po b.put.length pb.pc, .slice pb.eo b.fin.length pb.ec, .slice pb.xo b.txt.length pb.xc] 73) = w6 := by rw [HW6.out]; rfl
  rw [hww]
  have HBW : Hid (Below w.heap.size w w6) := chain (chain B3 B5) B6
  have H26 : Hid (∀ W, Below w6.heap.size w6 W → W.heap[w.heap.size + 2]? = some (.cells nil4 26 (0, 0))) := fun W hb => (HB.out W (chain (chain B5 B6) hb)).2.2.1
  clear hC hww HW6 HW3 HB HD9 bA5 bB5 b4 b5 B3 B5 B6
  generalize w5.heap.size = cb at *
  refine c41.mono ?_
  intro e w7 hM7
  clear c41
  rcases hM7 with ⟨d, p, rfl, hmat, hpl, h1, h2, h3, b7⟩ | ⟨d, i, rfl, hpl, hle, hfull, b7⟩
  · have h26 := H26.out w7 b7
    have HEND : Hid (MOut a b w (.returned (.tuple #[.agg (mv (mcOf d) p), .int .i64 0])) (w7.setRow (w.heap.size + 2) (mv (mcOf d) p))) := by
      refine .inl ⟨d, p, rfl, hmat.carry (fun g hg => setRow_other _ _ _ _ (by have := HL.out; omega)) (fun g hg => ⟨Nat.le_trans HBW.out.size hg.1, by simpa using hg.2⟩), hpl, h1, h2, h3, ?_⟩
      exact below_setRow (chain HBW.out b7) (by omega) _
    clear hmat hpl h1 h2 h3 b7 H26 HBW HL
    go_wp2_with (refine wpList_store_row (by rfl) 26 (.tmp 4) (.tmp 24) (by rfl) (w.heap.size + 2) (mv (mcOf d) p) (by rfl) (by rfl) 26 nil4 h26 info26 rfl (by simp [Value.oneCell', mv]) ?_)
    exact ret26 rfl (w.heap.size + 2) _ _ _ _ 0 rfl (setRow_heap _ _ _ _ _ _ h26) rfl rfl HEND.out
  · have h26 := H26.out w7 b7
    have HEND : Hid (MOut a b w (.returned (.tuple #[.agg nil4, .int .i64 80])) (w7.setRow (w.heap.size + 2) nil4)) := .inr ⟨d, i, rfl, hpl, hle, hfull, below_setRow (chain HBW.out b7) (by omega) _⟩
    clear hpl hle hfull b7 H26 HBW HL
    go_wp2_with (refine wpList_store_row (by rfl) 26 (.tmp 4) (.tmp 24) (by rfl) (w.heap.size + 2) nil4 (by rfl) (by rfl) 26 nil4 h26 info26 rfl (by simp [Value.oneCell']) ?_)
    exact ret26 rfl (w.heap.size + 2) _ _ _ _ 80 rfl (setRow_heap _ _ _ _ _ _ h26) rfl rfl HEND.out
end Go.Proofs.Ytafcekognhkmgaa.mk
