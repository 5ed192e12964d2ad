/-
  Contracts over this program: ir.stepOf; whether a splitter, a merger, a framer may be.
-/
import Derived.Test.YtmmlibehihknbaaKRc
import Derived.Great.BuildSlice
namespace Go.Proofs.Ytmmlibehihknbaa.ir
open Go.ChangeShapes Go.WideShapes Go.ChangeAt Go.RowKit
open mg (Row In iv IntsV chain below_alloc Mg Mgs)
open df (Dfa DAt)
set_option linter.unusedVariables false
set_option maxRecDepth 100000

theorem info36 : (Try.prog.info? 36).map (·.size) = some 258 := by kernel_rfl
theorem info33 : (Try.prog.info? 33).map (·.size) = some 256 := by kernel_rfl
theorem info32 : (Try.prog.info? 32).map (·.size) = some 4 := by kernel_rfl
theorem wp_build68 {oo : Oper} {a : Act} {w : World} {K : Act → World → Prop} {Q : Exit → Act → World → Prop} (x y : Operand) (ho : oo.op = .build 76 #[(0, x), (1, y)]) (v u : Value) (hx : a.eval x = v) (hy : a.eval y = u) (cells : Array Value) (hb : Try.prog.built 76 [(0, v), (1, u)] = some cells)
    (h : K (a.put oo.dst (.agg cells)) w) : oo.wp Try.prog a w K Q := by
  have e := run_build (P := Try.prog) w 76 #[(0, v), (1, u)] cells hb
  unfold Oper.wp execOp
  rw [ho]
  simp only [List.map_toArray, List.map_cons, List.map_nil, hx, hy, Sem.run_bind, e, Result.andThen_ok]
  exact h
theorem wpList_build68 {ops : Array Oper} {rest : List Oper} {oo : Oper} {a : Act} {w : World} {Q : Exit → Act → World → Prop} (hgd : oo.guard = none) (x y : Operand) (ho : oo.op = .build 76 #[(0, x), (1, y)]) (v u : Value) (hx : a.eval x = v) (hy : a.eval y = u) (cells : Array Value) (hb : Try.prog.built 76 [(0, v), (1, u)] = some cells)
    (h : wpList Try.prog ops Q rest (a.put oo.dst (.agg cells)) w) : wpList Try.prog ops Q (oo :: rest) a w :=
  wpList_plain hgd fun _ hK => wp_build68 x y ho v u hx hy cells hb (hK _ _ h)
theorem sv0 (g : Sg) (p : Sp) : (svL g p).toArray[0]? = some (.int .i64 g.kind) := rfl
set_option maxHeartbeats 1000000 in
theorem step2 (g : Sg) (p : Sp) (hk : g.kind = 2) (w : World) (h : SgAt w g p) : Calls Try.prog 17 #[.agg (svL g p).toArray] w fun e w' => e = .returned (.iface 76 (.agg (p.cs.toList ++ mapL g.mp).toArray)) ∧ Below w.heap.size w w' := by
  have hb := built76 p.cs.toList (by rw [Array.length_toList]; exact h.d.size) (mapL g.mp) (mapL_len _)
  have hx : SBox (w.alloc (.cells (svL g p).toArray 39)) w.heap.size g p := World.alloc_heap_new w _
  have hl : SgAt (w.alloc (.cells (svL g p).toArray 39)) g p := h.later (below_alloc w _)
  have r1 := hx.rcs hl
  have r2 := hx.rmp hl
  have h0 := sv0 g p
  rw [hk] at h0
  have i1 : (Try.prog.info? 36).map (·.size) = some p.cs.toList.length := by rw [Array.length_toList, h.d.size]; exact info36
  have i2 : (Try.prog.info? 33).map (·.size) = some (mapL g.mp).length := by rw [mapL_len]; exact info33
  have hB := below_alloc w (.cells (svL g p).toArray 39)
  clear hx hl
  generalize (svL g p).toArray = C at *
  generalize mapL g.mp = M at *
  generalize p.cs.toList = K at *
  clear h
  go_enter Try.func17, Try.ntmps17
  go_wp2_with (first | (refine wpList_load_mid rfl 36 (.tmp 13) rfl w.heap.size 5 rfl K _ r1 Try.underlying36 rfl i1 ?_) | (refine wpList_load_mid rfl 33 (.tmp 15) rfl w.heap.size 263 rfl M _ r2 Try.underlying33 rfl i2 ?_) | (refine wpList_build68 rfl (.tmp 14) (.tmp 16) rfl (.agg K.toArray) (.agg M.toArray) rfl rfl (K ++ M).toArray hb ?_) | (refine wp_build68 (.tmp 14) (.tmp 16) rfl (.agg K.toArray) (.agg M.toArray) rfl rfl (K ++ M).toArray hb ?_))
  go_ret
  exact ⟨rfl, hB⟩
set_option maxHeartbeats 1000000 in
theorem step3 (g : Sg) (p : Sp) (hk : g.kind = 3) (w : World) (h : SgAt w g p) : Calls Try.prog 17 #[.agg (svL g p).toArray] w fun e w' => e = .returned (.iface 78 (.agg #[p.vm, p.vd])) ∧ Below w.heap.size w w' := by
  have hx : SBox (w.alloc (.cells (svL g p).toArray 39)) w.heap.size g p := World.alloc_heap_new w _
  have hl : SgAt (w.alloc (.cells (svL g p).toArray 39)) g p := h.later (below_alloc w _)
  obtain ⟨q1, q2, q3, q4⟩ := hx.last hl
  have h0 := sv0 g p
  rw [hk] at h0
  have hB := below_alloc w (.cells (svL g p).toArray 39)
  obtain ⟨o, cap, e1, _⟩ := h.ms.form
  obtain ⟨o2, cap2, e2, _⟩ := h.dr
  rw [e1] at q1 ⊢
  rw [e2] at q2 ⊢
  have l1 : (svL g p).toArray[519]? = some (.slice o g.ms.length cap) := by rw [← q1, cell_of_row _ _ 519 _ _ _ hx]
  have l2 : (svL g p).toArray[520]? = some (.slice o2 g.dr.length cap2) := by rw [← q2, cell_of_row _ _ 520 _ _ _ hx]
  clear hx hl q1 q2 q3 q4
  generalize (svL g p).toArray = C at *
  clear h e1 e2
  go_enter Try.func17, Try.ntmps17
  go_wp2_with (fail)
  go_ret
  exact ⟨rfl, hB⟩
set_option maxHeartbeats 1000000 in
theorem step4 (g : Sg) (p : Sp) (hk : g.kind = 4) (w : World) (h : SgAt w g p) : Calls Try.prog 17 #[.agg (svL g p).toArray] w fun e w' => e = .returned (.iface 80 (.agg #[p.vb, p.va])) ∧ Below w.heap.size w w' := by
  have hx : SBox (w.alloc (.cells (svL g p).toArray 39)) w.heap.size g p := World.alloc_heap_new w _
  have hl : SgAt (w.alloc (.cells (svL g p).toArray 39)) g p := h.later (below_alloc w _)
  obtain ⟨q1, q2, q3, q4⟩ := hx.last hl
  have h0 := sv0 g p
  rw [hk] at h0
  have hB := below_alloc w (.cells (svL g p).toArray 39)
  obtain ⟨o, cap, e1, _⟩ := h.bf
  obtain ⟨o2, cap2, e2, _⟩ := h.af
  rw [e1] at q3 ⊢
  rw [e2] at q4 ⊢
  have l1 : (svL g p).toArray[521]? = some (.slice o g.bf.length cap) := by rw [← q3, cell_of_row _ _ 521 _ _ _ hx]
  have l2 : (svL g p).toArray[522]? = some (.slice o2 g.af.length cap2) := by rw [← q4, cell_of_row _ _ 522 _ _ _ hx]
  clear hx hl q1 q2 q3 q4
  generalize (svL g p).toArray = C at *
  clear h e1 e2
  go_enter Try.func17, Try.ntmps17
  go_wp2_with (fail)
  go_ret
  exact ⟨rfl, hB⟩
theorem info36c (cs : Array Value) (h : cs.size = 258) : (Try.prog.info? 36).map (·.size) = some cs.toList.length := by rw [Array.length_toList, h]; exact info36
set_option maxHeartbeats 1000000 in
theorem may2 (g : Sg) (p : Sp) (r : Bool) (hr : r = df.right g.d) (w : World) (h : SgAt w g p) : Calls Try.prog 68 #[.agg (p.cs.toList ++ mapL g.mp).toArray] w fun e w' => e = .returned (.bool r) ∧ Below w.heap.size w w' := by
  obtain ⟨C, hC⟩ : ∃ C, C = (p.cs.toList ++ mapL g.mp).toArray := ⟨_, rfl⟩
  have hB := below_alloc w (.cells (p.cs.toList ++ mapL g.mp).toArray 76)
  have r1 : (w.alloc (.cells (p.cs.toList ++ mapL g.mp).toArray 76)).rangeAt w.heap.size 0 p.cs.toList := range_mid (w := w.alloc (.cells (p.cs.toList ++ mapL g.mp).toArray 76)) (b := w.heap.size) (t := 76) (fr := (0, 0)) [] p.cs.toList (mapL g.mp) (World.alloc_heap_new w _)
  have c56 := df.right_any g.d r hr
  have i1 := info36c p.cs h.d.size
  have hd := h.d.later hB
  rw [← hC] at hB r1 hd ⊢
  have HB := (show Hid _ from hB)
  have e1 : (Value.agg p.cs) = .agg p.cs.toList.toArray := by simp
  unfold df.RtIs at c56
  have c := c56 _ _ _ _ _ _ hd
  rw [e1] at c
  generalize p.cs.toList = K at *
  clear h hd c56 hC hr
  go_enter Try.func68, Try.ntmps68
  go_wp2_with (first | (refine wpList_load_mid rfl 36 (.tmp 3) rfl w.heap.size 0 rfl K _ r1 Try.underlying36 rfl i1 ?_))
  go_at_call 70
  refine c.mono ?_
  rintro e w1 ⟨rfl, b1⟩
  clear c r1
  go_wp2_with (fail)
  go_ret
  exact ⟨rfl, chain HB.out b1⟩
set_option maxHeartbeats 1000000 in
theorem may3 (g : Sg) (p : Sp) (w : World) (h : SgAt w g p) : Calls Try.prog 84 #[.agg #[p.vm, p.vd]] w fun e w' => e = .returned (.bool (decide (hp.newE g.ms g.dr = 0))) ∧ Below w.heap.size w w' := by
  have hB := below_alloc w (.cells #[p.vm, p.vd] 78)
  have c := hp.new_any g.ms g.dr p.vm p.vd _ (h.ms.later hB) (h.dr.later hB)
  obtain ⟨x, hx⟩ : ∃ x, x = hp.newE g.ms g.dr := ⟨_, rfl⟩
  unfold hp.NewOut at c
  rw [← hx] at c ⊢
  have HB := (show Hid _ from hB)
  obtain ⟨o, cap, e1, _⟩ := h.ms.form
  obtain ⟨o2, cap2, e2, _⟩ := h.dr
  rw [e1, e2] at c HB ⊢
  clear h hx hB e1 e2
  by_cases h0 : x = 0
  · subst h0
    rw [decide_eq_true rfl]
    go_enter Try.func84, Try.ntmps84
    go_wp2_with (fail)
    go_at_call 85
    refine c.mono ?_
    rintro e w1 ⟨v, rfl, b1, _⟩
    clear c
    go_wp2_with (fail)
    go_ret
    exact ⟨rfl, chain HB.out b1⟩
  · rw [decide_eq_false h0]
    have hne : (((x : Nat) : Int) == 0) = false := beq_eq_false_iff_ne.2 (by omega)
    go_enter Try.func84, Try.ntmps84
    go_wp2_with (fail)
    go_at_call 85
    refine c.mono ?_
    rintro e w1 ⟨v, rfl, b1, _⟩
    clear c
    go_wp2_with (fail)
    go_ret
    exact ⟨rfl, chain HB.out b1⟩
set_option maxHeartbeats 1000000 in
theorem may4 (g : Sg) (p : Sp) (w : World) (h : SgAt w g p) : Calls Try.prog 125 #[.agg #[p.vb, p.va]] w fun e w' => e = .returned (.bool (areIds g.bf && areIds g.af)) ∧ Below w.heap.size w w' := by
  have hB := below_alloc w (.cells #[p.vb, p.va] 80)
  obtain ⟨x, hx⟩ : ∃ x, x = areIds g.bf := ⟨_, rfl⟩
  obtain ⟨y, hy⟩ : ∃ y, y = areIds g.af := ⟨_, rfl⟩
  have c := areIds_any g.bf x hx p.vb _ (h.bf.later hB)
  have H2 := (show Hid (∀ W, Below w.heap.size w W → Calls Try.prog 127 #[p.va] W fun e w' => e = .returned (.bool y) ∧ Below W.heap.size W w') from fun W b => areIds_any g.af y hy p.va W (h.af.later b))
  rw [← hx, ← hy]
  have HB := (show Hid _ from hB)
  obtain ⟨o, cap, e1, _⟩ := h.bf
  obtain ⟨o2, cap2, e2, _⟩ := h.af
  rw [e1, e2] at HB ⊢
  rw [e1] at c
  rw [e2] at H2
  rw [e2] at c
  have hX : (w.alloc (.cells #[.slice o g.bf.length cap, .slice o2 g.af.length cap2] 80)).heap[w.heap.size]? = some (.cells #[.slice o g.bf.length cap, .slice o2 g.af.length cap2] 80 (0, 0)) := World.alloc_heap_new w _
  have HX := (show Hid _ from hX)
  clear h hx hy hB e1 e2 hX
  cases x
  · go_enter Try.func125, Try.ntmps125
    go_wp2_with (fail)
    go_at_call 127
    refine c.mono ?_
    rintro e w1 ⟨rfl, b1⟩
    clear c
    go_wp2_with (fail)
    go_ret
    exact ⟨rfl, chain HB.out b1⟩
  · go_enter Try.func125, Try.ntmps125
    go_wp2_with (fail)
    go_at_call 127
    refine c.mono ?_
    rintro e w1 ⟨rfl, b1⟩
    have hX1 := (b1.block _ (Array.getElem?_eq_some_iff.1 HX.out).1).trans HX.out
    have q1 : w1.cell? ⟨w.heap.size, 1, none⟩ = some (.slice o2 g.af.length cap2) := by rw [Lib.cell_of_heap hX1]; rfl
    have c2 := H2.out w1 (chain HB.out b1)
    clear c hX1
    go_wp2_with (fail)
    go_at_call 127
    refine c2.mono ?_
    rintro e w2 ⟨rfl, b2⟩
    clear c2
    go_wp2_with (fail)
    go_ret
    exact ⟨rfl, chain (chain HB.out b1) b2⟩
end Go.Proofs.Ytmmlibehihknbaa.ir
