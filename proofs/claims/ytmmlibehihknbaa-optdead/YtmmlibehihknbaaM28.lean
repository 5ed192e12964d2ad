/-
  Texts put together: Plain and memory: a stage, how it lies in memory; contracts over this program: ir.stepOf, and whether a stage may be. Contracts over this program: ir.stepOf; whether a splitter, a merger, a framer may be.
-/
import Derived.Test.YtmmlibehihknbaaM17
import Derived.Test.YtmmlibehihknbaaKPPd
import Derived.Test.YtmmlibehihknbaaM04
import Derived.Deep.MidRow
import Derived.Great.BuildSlice
namespace Go.Proofs.Ytmmlibehihknbaa.ir
open Go.ChangeShapes Go.WideShapes Go.ChangeAt Go.RowKit
open mg (Row In iv IntsV chain below_alloc Mg Mgs)
open df (Dfa DAt)
set_option linter.unusedVariables false
set_option maxRecDepth 100000

structure Sg where
  kind : Int
  mc : List Value
  d : Dfa
  mp : Nat → Nat
  ms : List Mg
  dr : List Int
  bf : List Int
  af : List Int
/-- where a stage's parts lie -/
structure Sp where
  cs : Array Value
  o : Option Addr
  cap : Nat
  ao : Option Addr
  acap : Nat
  vm : Value
  vd : Value
  vb : Value
  va : Value
def mapL (mp : Nat → Nat) : List Value := (List.range 256).map fun b => Value.int .u8 (mp b : Nat)
theorem mapL_len (mp : Nat → Nat) : (mapL mp).length = 256 := by simp [mapL]
theorem mapL_at (mp : Nat → Nat) (b : Nat) (h : b < 256) : (mapL mp)[b]? = some (.int .u8 (mp b : Nat)) := by simp [mapL, h]
def svL (g : Sg) (p : Sp) : List Value := .int .i64 g.kind :: (g.mc ++ (p.cs.toList ++ (mapL g.mp ++ [p.vm, p.vd, p.vb, p.va])))
structure SgAt (w : World) (g : Sg) (p : Sp) : Prop where
  mc : g.mc.length = 4
  one : ∀ v ∈ g.mc, v.oneCell' = true
  d : DAt (df.In w) w g.d p.cs p.o p.cap p.ao p.acap
  mp : ∀ b, g.mp b < 256
  ms : Mgs w p.vm g.ms
  dr : IntsV w p.vd g.dr
  bf : IntsV w p.vb g.bf
  af : IntsV w p.va g.af
theorem SgAt.later {w w' : World} {g : Sg} {p : Sp} (h : SgAt w g p) (b : Below w.heap.size w w') : SgAt w' g p := ⟨h.mc, h.one, h.d.later b, h.mp, h.ms.later b, h.dr.later b, h.bf.later b, h.af.later b⟩
theorem SgAt.len {w : World} {g : Sg} {p : Sp} (h : SgAt w g p) : (svL g p).length = 523 := by
  have h1 := h.d.size
  simp [svL, h.mc, mapL_len, h1]
theorem ints_one {w : World} {v : Value} {l : List Int} (h : IntsV w v l) : v.oneCell' = true := by
  obtain ⟨o, c, rfl, _⟩ := h
  rfl
theorem mgs_one {w : World} {v : Value} {l : List Mg} (h : Mgs w v l) : v.oneCell' = true := by
  obtain ⟨o, c, rfl, _⟩ := h.form
  rfl
theorem d_one {P : Nat → Prop} {w : World} {d : Dfa} {cs : Array Value} {o ao : Option Addr} {cap acap : Nat} (h : DAt P w d cs o cap ao acap) : ∀ v ∈ cs.toList, v.oneCell' = true := by
  intro v hv
  obtain ⟨i, hi, e⟩ := List.mem_iff_getElem.1 hv
  have hs := h.size
  have hi2 : i < cs.size := by simpa using hi
  have hv2 : cs[i]? = some v := by rw [Array.getElem?_eq_getElem hi2]; simpa using e
  by_cases h1 : i < 256
  · have := h.cl i h1
    rw [hv2] at this
    rw [Option.some.inj this]; rfl
  · by_cases h2 : i = 256
    · subst h2
      have := h.nx
      rw [hv2] at this
      rw [Option.some.inj this]; rfl
    · have h3 : i = 257 := by omega
      subst h3
      have := h.ac
      rw [hv2] at this
      rw [Option.some.inj this]; rfl
theorem SgAt.ones {w : World} {g : Sg} {p : Sp} (h : SgAt w g p) : ∀ v ∈ svL g p, v.oneCell' = true := by
  intro v hv
  unfold svL at hv
  rcases List.mem_cons.1 hv with rfl | hv
  · rfl
  rcases List.mem_append.1 hv with hv | hv
  · exact h.one v hv
  rcases List.mem_append.1 hv with hv | hv
  · exact d_one h.d v hv
  rcases List.mem_append.1 hv with hv | hv
  · obtain ⟨b, _, rfl⟩ := List.mem_map.1 hv
    rfl
  · simp at hv
    rcases hv with rfl | rfl | rfl | rfl
    · exact mgs_one h.ms
    · exact ints_one h.dr
    · exact ints_one h.bf
    · exact ints_one h.af
theorem range_mid {w : World} {b : Nat} {t : TypeId} {fr : Nat × Nat} (L M R : List Value) (h : w.heap[b]? = some (.cells (L ++ (M ++ R)).toArray t fr)) : w.rangeAt b L.length M := by
  intro j v hj
  rw [cell_of_row w b (L.length + j) _ t fr h]
  have hlt := (List.getElem?_eq_some_iff.1 hj).1
  simp only [List.getElem?_toArray]
  rw [List.getElem?_append_right (by omega), Nat.add_sub_cancel_left, List.getElem?_append_left hlt]
  exact hj
/-- a stage in a block of its own -/
def SBox (w : World) (b : Nat) (g : Sg) (p : Sp) : Prop := w.heap[b]? = some (.cells (svL g p).toArray 39 (0, 0))
theorem SBox.lt {w : World} {b : Nat} {g : Sg} {p : Sp} (h : SBox w b g p) : b < w.heap.size := (Array.getElem?_eq_some_iff.1 h).1
theorem SBox.later {w w' : World} {b : Nat} {g : Sg} {p : Sp} (h : SBox w b g p) (k : Below w.heap.size w w') : SBox w' b g p := (k.block b h.lt).trans h
section
variable {w : World} {b : Nat} {g : Sg} {p : Sp}
theorem SBox.kind (h : SBox w b g p) : w.cell? ⟨b, 0, none⟩ = some (.int .i64 g.kind) := by rw [cell_of_row w b 0 _ _ _ h]; rfl
theorem SBox.rmc (h : SBox w b g p) (k : SgAt w g p) : w.rangeAt b 1 g.mc := range_mid [.int .i64 g.kind] g.mc _ h
theorem SBox.rcs (h : SBox w b g p) (k : SgAt w g p) : w.rangeAt b 5 p.cs.toList := by
  have := range_mid (w := w) (b := b) (t := 39) (fr := (0, 0)) (.int .i64 g.kind :: g.mc) p.cs.toList (mapL g.mp ++ [p.vm, p.vd, p.vb, p.va]) h
  rw [List.length_cons, k.mc] at this
  exact this
theorem SBox.rmp (h : SBox w b g p) (k : SgAt w g p) : w.rangeAt b 263 (mapL g.mp) := by
  have := range_mid (w := w) (b := b) (t := 39) (fr := (0, 0)) (.int .i64 g.kind :: (g.mc ++ p.cs.toList)) (mapL g.mp) [p.vm, p.vd, p.vb, p.va] (by rw [h]; simp [svL])
  have e := k.d.size
  rw [List.length_cons, List.length_append, k.mc, Array.length_toList, e] at this
  exact this
theorem SBox.last (h : SBox w b g p) (k : SgAt w g p) : w.cell? ⟨b, 519, none⟩ = some p.vm ∧ w.cell? ⟨b, 520, none⟩ = some p.vd ∧ w.cell? ⟨b, 521, none⟩ = some p.vb ∧ w.cell? ⟨b, 522, none⟩ = some p.va := by
  have := range_mid (w := w) (b := b) (t := 39) (fr := (0, 0)) (.int .i64 g.kind :: (g.mc ++ (p.cs.toList ++ mapL g.mp))) [p.vm, p.vd, p.vb, p.va] [] (by rw [h]; simp [svL])
  have e := k.d.size
  rw [List.length_cons, List.length_append, List.length_append, k.mc, Array.length_toList, e, mapL_len] at this
  exact ⟨this 0 _ rfl, this 1 _ rfl, this 2 _ rfl, this 3 _ rfl⟩
end
theorem fold_at (b : Nat) : ∀ (l : List Value) (k : Nat) (Z : Array Value) (i : Nat), ((l.zipIdx k).foldl (fun (acc : Array Value) (p : Value × Nat) => acc.setIfInBounds (b + p.2) p.1) Z)[i]? = if b + k ≤ i ∧ i < b + k + l.length ∧ i < Z.size then l[i - (b + k)]? else Z[i]?
  | [], k, Z, i => by
    rw [if_neg (by simp; omega)]
    rfl
  | c :: l, k, Z, i => by
    rw [List.zipIdx_cons, List.foldl_cons, fold_at b l (k + 1) _ i, Array.size_setIfInBounds]
    by_cases h1 : b + (k + 1) ≤ i ∧ i < b + (k + 1) + l.length ∧ i < Z.size
    · rw [if_pos h1, if_pos (by simp; omega), show i - (b + k) = (i - (b + (k + 1))) + 1 by omega, List.getElem?_cons_succ]
    · rw [if_neg h1, Array.getElem?_setIfInBounds]
      by_cases h2 : b + k = i
      · subst h2
        by_cases h3 : b + k < Z.size
        · rw [if_pos rfl, if_pos h3, if_pos (by simp; omega), Nat.sub_self]; rfl
        · rw [if_pos rfl, if_neg h3, if_neg (by simp; omega), Array.getElem?_eq_none (by omega)]
      · rw [if_neg h2]
        by_cases h3 : b + k ≤ i ∧ i < b + k + (c :: l).length ∧ i < Z.size
        · exfalso; simp at h3; omega
        · rw [if_neg h3]
/-- the zero of a splitter -/
def z68 : Array Value := (List.replicate 256 (Value.int .u8 0) ++ ([Value.slice none 0 0, .slice none 0 0] ++ List.replicate 256 (Value.int .u8 0))).toArray
theorem z68_size : z68.size = 514 := by unfold z68; simp
theorem built_fill68 (parts : List (Nat × Value)) : Try.prog.built 76 parts = Instr.fill (#[(0, 258), (258, 256)][·]?) z68 parts := by kernel_rfl
theorem fold_size (b : Nat) : ∀ (l : List Value) (k : Nat) (Z : Array Value), ((l.zipIdx k).foldl (fun (acc : Array Value) (p : Value × Nat) => acc.setIfInBounds (b + p.2) p.1) Z).size = Z.size
  | [], k, Z => rfl
  | c :: l, k, Z => by rw [List.zipIdx_cons, List.foldl_cons, fold_size b l (k + 1), Array.size_setIfInBounds]
theorem built76 (cs : List Value) (hcs : cs.length = 258) (mp : List Value) (hmp : mp.length = 256) : Try.prog.built 76 [(0, .agg cs.toArray), (1, .agg mp.toArray)] = some (cs ++ mp).toArray := by
  rw [built_fill68]
  have hz := z68_size
  obtain ⟨Y, hY⟩ : ∃ Y, Y = (cs.zipIdx 0).foldl (fun (acc : Array Value) (p : Value × Nat) => acc.setIfInBounds (0 + p.2) p.1) z68 := ⟨_, rfl⟩
  obtain ⟨X, hX⟩ : ∃ X, X = (mp.zipIdx 0).foldl (fun (acc : Array Value) (p : Value × Nat) => acc.setIfInBounds (258 + p.2) p.1) Y := ⟨_, rfl⟩
  have hYs : Y.size = 514 := by rw [hY, fold_size]; exact hz
  have hXs : X.size = 514 := by rw [hX, fold_size]; exact hYs
  have e1 : Instr.fill (#[(0, 258), (258, 256)][·]?) z68 [(0, .agg cs.toArray), (1, .agg mp.toArray)] = some X := by
    have hY2 : Array.foldl (fun (cs : Array Value) (x : Value × Nat) => cs.setIfInBounds x.snd x.fst) z68 cs.toArray.zipIdx 0 258 = Y := by
      rw [hY]
      simp [hcs]
    have hX2 : Array.foldl (fun (cs : Array Value) (x : Value × Nat) => cs.setIfInBounds (258 + x.snd) x.fst) Y mp.toArray.zipIdx 0 256 = X := by
      rw [hX]
      simp [hmp]
    simp [Instr.fill, Value.cells, hcs, hmp, hz, hY2, hYs, hX2]
  rw [e1]
  congr 1
  apply Array.ext_getElem?
  intro i
  rw [hX, fold_at, hYs, hY, fold_at, hz]
  simp only [List.getElem?_toArray]
  by_cases h1 : i < 258
  · rw [if_neg (by omega), if_pos (by omega), List.getElem?_append_left (by omega)]
    rfl
  · rw [List.getElem?_append_right (by omega), hcs]
    by_cases h2 : i < 514
    · rw [if_pos (by omega)]
    · rw [if_neg (by omega), if_neg (by omega), List.getElem?_eq_none (by omega), Array.getElem?_eq_none (by omega)]
end Go.Proofs.Ytmmlibehihknbaa.ir

namespace Go.Proofs.Ytmmlibehihknbaa.ir
open Go.ChangeShapes Go.WideShapes Go.ChangeAt Go.RowKit
open mg (Row In iv IntsV chain below_alloc Mg Mgs)
open df (Dfa DAt)
set_option linter.unusedVariables false
set_option maxRecDepth 100000

theorem info36 : (Try.prog.info? 36).map (·.size) = some 258 := by kernel_rfl
theorem info33 : (Try.prog.info? 33).map (·.size) = some 256 := by kernel_rfl
theorem info32 : (Try.prog.info? 32).map (·.size) = some 4 := by kernel_rfl
theorem wp_build68 {oo : Oper} {a : Act} {w : World} {K : Act → World → Prop} {Q : Exit → Act → World → Prop} (x y : Operand) (ho : oo.op = .build 76 #[(0, x), (1, y)]) (v u : Value) (hx : a.eval x = v) (hy : a.eval y = u) (cells : Array Value) (hb : Try.prog.built 76 [(0, v), (1, u)] = some cells)
    (h : K (a.put oo.dst (.agg cells)) w) : oo.wp Try.prog a w K Q := by
  have e := run_build (P := Try.prog) w 76 #[(0, v), (1, u)] cells hb
  unfold Oper.wp execOp
  rw [ho]
  simp only [List.map_toArray, List.map_cons, List.map_nil, hx, hy, Sem.run_bind, e, Result.andThen_ok]
  exact h
theorem wpList_build68 {ops : Array Oper} {rest : List Oper} {oo : Oper} {a : Act} {w : World} {Q : Exit → Act → World → Prop} (hgd : oo.guard = none) (x y : Operand) (ho : oo.op = .build 76 #[(0, x), (1, y)]) (v u : Value) (hx : a.eval x = v) (hy : a.eval y = u) (cells : Array Value) (hb : Try.prog.built 76 [(0, v), (1, u)] = some cells)
    (h : wpList Try.prog ops Q rest (a.put oo.dst (.agg cells)) w) : wpList Try.prog ops Q (oo :: rest) a w :=
  wpList_plain hgd fun _ hK => wp_build68 x y ho v u hx hy cells hb (hK _ _ h)
theorem sv0 (g : Sg) (p : Sp) : (svL g p).toArray[0]? = some (.int .i64 g.kind) := rfl
set_option maxHeartbeats 1000000 in
theorem step2 (g : Sg) (p : Sp) (hk : g.kind = 2) (w : World) (h : SgAt w g p) : Calls Try.prog 17 #[.agg (svL g p).toArray] w fun e w' => e = .returned (.iface 76 (.agg (p.cs.toList ++ mapL g.mp).toArray)) ∧ Below w.heap.size w w' := by
  have hb := built76 p.cs.toList (by rw [Array.length_toList]; exact h.d.size) (mapL g.mp) (mapL_len _)
  have hx : SBox (w.alloc (.cells (svL g p).toArray 39)) w.heap.size g p := World.alloc_heap_new w _
  have hl : SgAt (w.alloc (.cells (svL g p).toArray 39)) g p := h.later (below_alloc w _)
  have r1 := hx.rcs hl
  have r2 := hx.rmp hl
  have h0 := sv0 g p
  rw [hk] at h0
  have i1 : (Try.prog.info? 36).map (·.size) = some p.cs.toList.length := by rw [Array.length_toList, h.d.size]; exact info36
  have i2 : (Try.prog.info? 33).map (·.size) = some (mapL g.mp).length := by rw [mapL_len]; exact info33
  have hB := below_alloc w (.cells (svL g p).toArray 39)
  clear hx hl
  generalize (svL g p).toArray = C at *
  generalize mapL g.mp = M at *
  generalize p.cs.toList = K at *
  clear h
  go_enter Try.func17, Try.ntmps17
  go_wp2_with (first | (refine wpList_load_mid rfl 36 (.tmp 13) rfl w.heap.size 5 rfl K _ r1 Try.underlying36 rfl i1 ?_) | (refine wpList_load_mid rfl 33 (.tmp 15) rfl w.heap.size 263 rfl M _ r2 Try.underlying33 rfl i2 ?_) | (refine wpList_build68 rfl (.tmp 14) (.tmp 16) rfl (.agg K.toArray) (.agg M.toArray) rfl rfl (K ++ M).toArray hb ?_) | (refine wp_build68 (.tmp 14) (.tmp 16) rfl (.agg K.toArray) (.agg M.toArray) rfl rfl (K ++ M).toArray hb ?_))
  go_ret
  exact ⟨rfl, hB⟩
set_option maxHeartbeats 1000000 in
theorem step3 (g : Sg) (p : Sp) (hk : g.kind = 3) (w : World) (h : SgAt w g p) : Calls Try.prog 17 #[.agg (svL g p).toArray] w fun e w' => e = .returned (.iface 78 (.agg #[p.vm, p.vd])) ∧ Below w.heap.size w w' := by
  have hx : SBox (w.alloc (.cells (svL g p).toArray 39)) w.heap.size g p := World.alloc_heap_new w _
  have hl : SgAt (w.alloc (.cells (svL g p).toArray 39)) g p := h.later (below_alloc w _)
  obtain ⟨q1, q2, q3, q4⟩ := hx.last hl
  have h0 := sv0 g p
  rw [hk] at h0
  have hB := below_alloc w (.cells (svL g p).toArray 39)
  obtain ⟨o, cap, e1, _⟩ := h.ms.form
  obtain ⟨o2, cap2, e2, _⟩ := h.dr
  rw [e1] at q1 ⊢
  rw [e2] at q2 ⊢
  have l1 : (svL g p).toArray[519]? = some (.slice o g.ms.length cap) := by rw [← q1, cell_of_row _ _ 519 _ _ _ hx]
  have l2 : (svL g p).toArray[520]? = some (.slice o2 g.dr.length cap2) := by rw [← q2, cell_of_row _ _ 520 _ _ _ hx]
  clear hx hl q1 q2 q3 q4
  generalize (svL g p).toArray = C at *
  clear h e1 e2
  go_enter Try.func17, Try.ntmps17
  go_wp2_with (fail)
  go_ret
  exact ⟨rfl, hB⟩
set_option maxHeartbeats 1000000 in
theorem step4 (g : Sg) (p : Sp) (hk : g.kind = 4) (w : World) (h : SgAt w g p) : Calls Try.prog 17 #[.agg (svL g p).toArray] w fun e w' => e = .returned (.iface 80 (.agg #[p.vb, p.va])) ∧ Below w.heap.size w w' := by
  have hx : SBox (w.alloc (.cells (svL g p).toArray 39)) w.heap.size g p := World.alloc_heap_new w _
  have hl : SgAt (w.alloc (.cells (svL g p).toArray 39)) g p := h.later (below_alloc w _)
  obtain ⟨q1, q2, q3, q4⟩ := hx.last hl
  have h0 := sv0 g p
  rw [hk] at h0
  have hB := below_alloc w (.cells (svL g p).toArray 39)
  obtain ⟨o, cap, e1, _⟩ := h.bf
  obtain ⟨o2, cap2, e2, _⟩ := h.af
  rw [e1] at q3 ⊢
  rw [e2] at q4 ⊢
  have l1 : (svL g p).toArray[521]? = some (.slice o g.bf.length cap) := by rw [← q3, cell_of_row _ _ 521 _ _ _ hx]
  have l2 : (svL g p).toArray[522]? = some (.slice o2 g.af.length cap2) := by rw [← q4, cell_of_row _ _ 522 _ _ _ hx]
  clear hx hl q1 q2 q3 q4
  generalize (svL g p).toArray = C at *
  clear h e1 e2
  go_enter Try.func17, Try.ntmps17
  go_wp2_with (fail)
  go_ret
  exact ⟨rfl, hB⟩
theorem info36c (cs : Array Value) (h : cs.size = 258) : (Try.prog.info? 36).map (·.size) = some cs.toList.length := by rw [Array.length_toList, h]; exact info36
set_option maxHeartbeats 1000000 in
theorem may2 (g : Sg) (p : Sp) (r : Bool) (hr : r = df.right g.d) (w : World) (h : SgAt w g p) : Calls Try.prog 68 #[.agg (p.cs.toList ++ mapL g.mp).toArray] w fun e w' => e = .returned (.bool r) ∧ Below w.heap.size w w' := by
  obtain ⟨C, hC⟩ : ∃ C, C = (p.cs.toList ++ mapL g.mp).toArray := ⟨_, rfl⟩
  have hB := below_alloc w (.cells (p.cs.toList ++ mapL g.mp).toArray 76)
  have r1 : (w.alloc (.cells (p.cs.toList ++ mapL g.mp).toArray 76)).rangeAt w.heap.size 0 p.cs.toList := range_mid (w := w.alloc (.cells (p.cs.toList ++ mapL g.mp).toArray 76)) (b := w.heap.size) (t := 76) (fr := (0, 0)) [] p.cs.toList (mapL g.mp) (World.alloc_heap_new w _)
  have c56 := df.right_any g.d r hr
  have i1 := info36c p.cs h.d.size
  have hd := h.d.later hB
  rw [← hC] at hB r1 hd ⊢
  have HB := (show Hid _ from hB)
  have e1 : (Value.agg p.cs) = .agg p.cs.toList.toArray := by simp
  unfold df.RtIs at c56
  have c := c56 _ _ _ _ _ _ hd
  rw [e1] at c
  generalize p.cs.toList = K at *
  clear h hd c56 hC hr
  go_enter Try.func68, Try.ntmps68
  go_wp2_with (first | (refine wpList_load_mid rfl 36 (.tmp 3) rfl w.heap.size 0 rfl K _ r1 Try.underlying36 rfl i1 ?_))
  go_at_call 70
  refine c.mono ?_
  rintro e w1 ⟨rfl, b1⟩
  clear c r1
  go_wp2_with (fail)
  go_ret
  exact ⟨rfl, chain HB.out b1⟩
set_option maxHeartbeats 1000000 in
theorem may3 (g : Sg) (p : Sp) (w : World) (h : SgAt w g p) : Calls Try.prog 84 #[.agg #[p.vm, p.vd]] w fun e w' => e = .returned (.bool (decide (hp.newE g.ms g.dr = 0))) ∧ Below w.heap.size w w' := by
  have hB := below_alloc w (.cells #[p.vm, p.vd] 78)
  have c := hp.new_any g.ms g.dr p.vm p.vd _ (h.ms.later hB) (h.dr.later hB)
  obtain ⟨x, hx⟩ : ∃ x, x = hp.newE g.ms g.dr := ⟨_, rfl⟩
  unfold hp.NewOut at c
  rw [← hx] at c ⊢
  have HB := (show Hid _ from hB)
  obtain ⟨o, cap, e1, _⟩ := h.ms.form
  obtain ⟨o2, cap2, e2, _⟩ := h.dr
  rw [e1, e2] at c HB ⊢
  clear h hx hB e1 e2
  by_cases h0 : x = 0
  · subst h0
    rw [decide_eq_true rfl]
    go_enter Try.func84, Try.ntmps84
    go_wp2_with (fail)
    go_at_call 85
    refine c.mono ?_
    rintro e w1 ⟨v, rfl, b1, _⟩
    clear c
    go_wp2_with (fail)
    go_ret
    exact ⟨rfl, chain HB.out b1⟩
  · rw [decide_eq_false h0]
    have hne : (((x : Nat) : Int) == 0) = false := beq_eq_false_iff_ne.2 (by omega)
    go_enter Try.func84, Try.ntmps84
    go_wp2_with (fail)
    go_at_call 85
    refine c.mono ?_
    rintro e w1 ⟨v, rfl, b1, _⟩
    clear c
    go_wp2_with (fail)
    go_ret
    exact ⟨rfl, chain HB.out b1⟩
set_option maxHeartbeats 1000000 in
theorem may4 (g : Sg) (p : Sp) (w : World) (h : SgAt w g p) : Calls Try.prog 125 #[.agg #[p.vb, p.va]] w fun e w' => e = .returned (.bool (areIds g.bf && areIds g.af)) ∧ Below w.heap.size w w' := by
  have hB := below_alloc w (.cells #[p.vb, p.va] 80)
  obtain ⟨x, hx⟩ : ∃ x, x = areIds g.bf := ⟨_, rfl⟩
  obtain ⟨y, hy⟩ : ∃ y, y = areIds g.af := ⟨_, rfl⟩
  have c := areIds_any g.bf x hx p.vb _ (h.bf.later hB)
  have H2 := (show Hid (∀ W, Below w.heap.size w W → Calls Try.prog 127 #[p.va] W fun e w' => e = .returned (.bool y) ∧ Below W.heap.size W w') from fun W b => areIds_any g.af y hy p.va W (h.af.later b))
  rw [← hx, ← hy]
  have HB := (show Hid _ from hB)
  obtain ⟨o, cap, e1, _⟩ := h.bf
  obtain ⟨o2, cap2, e2, _⟩ := h.af
  rw [e1, e2] at HB ⊢
  rw [e1] at c
  rw [e2] at H2
  rw [e2] at c
  have hX : (w.alloc (.cells #[.slice o g.bf.length cap, .slice o2 g.af.length cap2] 80)).heap[w.heap.size]? = some (.cells #[.slice o g.bf.length cap, .slice o2 g.af.length cap2] 80 (0, 0)) := World.alloc_heap_new w _
  have HX := (show Hid _ from hX)
  clear h hx hy hB e1 e2 hX
  cases x
  · go_enter Try.func125, Try.ntmps125
    go_wp2_with (fail)
    go_at_call 127
    refine c.mono ?_
    rintro e w1 ⟨rfl, b1⟩
    clear c
    go_wp2_with (fail)
    go_ret
    exact ⟨rfl, chain HB.out b1⟩
  · go_enter Try.func125, Try.ntmps125
    go_wp2_with (fail)
    go_at_call 127
    refine c.mono ?_
    rintro e w1 ⟨rfl, b1⟩
    have hX1 := (b1.block _ (Array.getElem?_eq_some_iff.1 HX.out).1).trans HX.out
    have q1 : w1.cell? ⟨w.heap.size, 1, none⟩ = some (.slice o2 g.af.length cap2) := by rw [Lib.cell_of_heap hX1]; rfl
    have c2 := H2.out w1 (chain HB.out b1)
    clear c hX1
    go_wp2_with (fail)
    go_at_call 127
    refine c2.mono ?_
    rintro e w2 ⟨rfl, b2⟩
    clear c2
    go_wp2_with (fail)
    go_ret
    exact ⟨rfl, chain (chain HB.out b1) b2⟩
end Go.Proofs.Ytmmlibehihknbaa.ir
