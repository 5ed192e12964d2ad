/-
  Contracts over this program: a crowd is made (nfa.newCrowd), a state is added (crowd.add), it is left (crowd.leave).
-/
import Derived.Test.YthknhbmibmndoaaNd
import Derived.OwnWalk
namespace Go.Proofs.Ythknhbmibmndoaa.nf
open Go.RowKit Go.Shelf
set_option linter.unusedVariables false
open df (Kp Owns)

/-- how far a world is moved -/
structure Moved (X : Nat → Prop) (B : Nat) (W W' : World) : Prop where
  kp : Kp X W W'
  be : Below B W W'
  ot : KeepsOthers W W'
section
variable {X : Nat → Prop} {B : Nat} {W W' W'' : World}
theorem Moved.refl (X : Nat → Prop) (B : Nat) (W : World) : Moved X B W W := ⟨⟨Nat.le_refl _, fun _ _ => rfl⟩, Below.refl _ _, KeepsOthers.refl _⟩
theorem Moved.trans (h : Moved X B W W') (k : Moved X B W' W'') : Moved X B W W'' := ⟨h.kp.trans k.kp, h.be.trans k.be, h.ot.trans k.ot⟩
theorem Moved.set (h : Moved X B W W') {g : Nat} (hX : ∀ b, X b → b ≠ g) (hB : B ≤ g) (i : Nat) (v : Value) : Moved X B W (W'.setCell ⟨g, i, none⟩ v) :=
  h.trans ⟨⟨by simp, fun b hb => Below.heap_setCell _ _ _ b (hX b hb)⟩, (Below.refl B W').setCell (p := ⟨g, i, none⟩) hB v, KeepsOthers.setCell _ _ _⟩
theorem Moved.alloc (h : Moved X B W W') (hX : ∀ b, X b → b < W'.heap.size) (hB : B ≤ W'.heap.size) (o : Obj) : Moved X B W (W'.alloc o) :=
  h.trans ⟨⟨by simp, fun b hb => Below.heap_alloc _ _ b (hX b hb)⟩, (Below.refl B W').alloc hB o, KeepsOthers.alloc _ _⟩
theorem Moved.grown (h : Moved X B W W') {v : Value} {l : List Int} (ho : Owns W' B v l) (hg : W'.grownBy W'' v.ownBlock) (hX : ∀ b, X b → b < W'.heap.size ∧ some b ≠ v.ownBlock) (hB : B ≤ W'.heap.size) : Moved X B W W'' :=
  h.trans ⟨⟨hg.size, fun b hb => hg.block b (hX b hb).1 (hX b hb).2⟩, (Below.refl B W').grown hg hB (df.own_ge ho), KeepsOthers.of_grownBy hg fun j o ej hj => by
    rcases ho.2 with ⟨rfl, _⟩ | ⟨g, cap, cur, rfl, _, hgb, _⟩
    · simp [Value.ownBlock] at ej
    · obtain rfl : g = j := by simpa [Value.ownBlock] using ej
      rw [hgb] at hj; cases hj; rfl⟩
theorem Moved.below (h : Below W.heap.size W W') (hX : ∀ b, X b → b < W.heap.size) (hB : B ≤ W.heap.size) (ho : KeepsOthers W W') : Moved X B W W' := ⟨⟨h.size, fun b hb => h.block b (hX b hb)⟩, h.mono hB, ho⟩
end

theorem tmp_cell (W : World) (v : Value) (g : Nat) (h : g = W.heap.size) : (W.alloc (.cells #[v] 3)).cell? ⟨g, 0, none⟩ = some v := by subst h; rw [Lib.cell_of_heap (World.alloc_heap_new W _)]; rfl
set_option maxHeartbeats 1000000 in
theorem add_old {X : Nat → Prop} {W : World} {B c sb n : Nat} {m : List Bool} {va vw : Value} {l q : List Int} (h : Crowd X W B c sb n m va vw l q) (s : Nat) (hs : s < n) (hm : m[s]? = some true) :
    Calls Try.prog 31 #[.pointer (some ⟨c, 0, none⟩), .int .i64 (s : Int)] W fun e W' => (∃ v, e = .returned v) ∧ W' = W := by
  have hml := h.ml
  have k0 := h.c0
  have k1 := h.seen.cell s (by omega)
  have e1 : m[s]'(by omega) = true := by rw [List.getElem?_eq_getElem (by omega)] at hm; simpa using hm
  rw [e1] at k1
  clear h hm e1
  go_enter Try.func31, Try.ntmps31
  go_wp2_with (fail)
  go_end0
  exact ⟨⟨_, rfl⟩, rfl⟩
set_option maxHeartbeats 2000000 in
set_option maxRecDepth 100000 in
theorem add_new {X : Nat → Prop} {W : World} {B c sb n : Nat} {m : List Bool} {va vw : Value} {l q : List Int} (h : Crowd X W B c sb n m va vw l q) (s : Nat) (hs : s < n) (hm : m[s]? = some false) (hl : l.length ≤ 1000000) (hq : q.length ≤ 1000000) :
    Calls Try.prog 31 #[.pointer (some ⟨c, 0, none⟩), .int .i64 (s : Int)] W fun e W' => (∃ v, e = .returned v) ∧ ∃ va' vw', Crowd X W' B c sb n (m.set s true) va' vw' (l ++ [(s : Int)]) (q ++ [(s : Int)]) ∧ Moved X B W W' := by
  have hml := h.ml
  have k0 := h.c0
  have k1 := h.seen.cell s (by omega)
  have k2 := h.seen.fz s
  have e1 : m[s]'(by omega) = false := by rw [List.getElem?_eq_getElem (by omega)] at hm; simpa using hm
  rw [e1] at k1
  have h1 := h.mark s true
  have j1 := h1.c1
  have M1 : Moved X B W (W.setCell ⟨sb, s, none⟩ (.bool true)) := (Moved.refl X B W).set (fun b hb => (h.ap b hb).2.2.1) h.bs s _
  have hBs := h1.size
  have hX1 : ∀ b, X b → b < (W.setCell ⟨sb, s, none⟩ (.bool true)).heap.size ∧ b ≠ c ∧ b ≠ sb ∧ some b ≠ va.ownBlock ∧ some b ≠ vw.ownBlock := h1.ap
  have A1 := h1.alloc (.cells #[.int .i64 (s : Int)] 3)
  have HA1 := (show Hid (Crowd X ((W.setCell ⟨sb, s, none⟩ (.bool true)).alloc (.cells #[.int .i64 (s : Int)] 3)) B c sb n (m.set s true) va vw l q) from A1)
  have HM1 := (show Hid (Moved X B W ((W.setCell ⟨sb, s, none⟩ (.bool true)).alloc (.cells #[.int .i64 (s : Int)] 3))) from M1.alloc (fun b hb => (h1.ap b hb).1) hBs _)
  obtain ⟨ga, ca, hva⟩ := df.own_slice h.all
  obtain ⟨gq, cq, hvw⟩ := df.own_slice h.wait
  subst hva hvw
  clear h hm e1 A1 M1 hX1 h1
  go_enter Try.func31, Try.ntmps31
  go_wp2_with (first | (at_builtin; refine wpList_append_at rfl (.tmp 22) (.tmp 24) rfl B _ l (s : Int) W.heap.size rfl rfl HA1.out.all (tmp_cell (W.setCell ⟨sb, s, none⟩ (.bool true)) _ _ (by simp)) hl HA1.out.size ?_; intro g' cap' w2 hown2 hgr2 hw2; have HC3 := (show Hid _ from HA1.out.putA hown2 hgr2 hw2); have HM3 := (show Hid _ from (HM1.out.grown HA1.out.all hgr2 (fun b hb => ⟨(HA1.out.ap b hb).1, (HA1.out.ap b hb).2.2.2.1⟩) HA1.out.size).set (g := c) (fun b hb => (HA1.out.ap b hb).2.1) HA1.out.bc 1 (.slice (some ⟨g', 0, none⟩) (l.length + 1) cap')); have bc : w2.heap[c]? = some (.cells #[.slice (some ⟨sb, 0, none⟩) n n, .slice ga l.length ca, .slice gq q.length cq] 54 (0, 0)) := (hgr2.block c HA1.out.lt HA1.out.nac).trans HA1.out.blk; have z1 : w2.cell? ⟨c, 1, none⟩ = some (.slice ga l.length ca) := (by rw [Lib.cell_of_heap bc]; rfl); have z2 : w2.frozen? ⟨c, 1, none⟩ = false := Lib.frozen_of_heap bc 1; have z3 := HC3.out.c2; have HC4 := (show Hid _ from HC3.out.alloc (.cells #[.int .i64 (s : Int)] 3)); have HM4 := (show Hid _ from HM3.out.alloc (fun b hb => (HC3.out.ap b hb).1) HC3.out.size (.cells #[.int .i64 (s : Int)] 3))) | (at_builtin; refine wpList_append_at rfl (.tmp 32) (.tmp 34) rfl B _ q (s : Int) w2.heap.size rfl rfl HC4.out.wait (tmp_cell (w2.setCell ⟨c, 1, none⟩ (.slice (some ⟨g', 0, none⟩) (l.length + 1) cap')) _ _ (by simp)) hq HC4.out.size ?_; intro g4 cap4 w4 hown4 hgr4 hw4; have HC5 := (show Hid _ from HC4.out.putW hown4 hgr4 hw4); have HM5 := (show Hid _ from (HM4.out.grown HC4.out.wait hgr4 (fun b hb => ⟨(HC4.out.ap b hb).1, (HC4.out.ap b hb).2.2.2.2⟩) HC4.out.size).set (g := c) (fun b hb => (HC4.out.ap b hb).2.1) HC4.out.bc 2 (.slice (some ⟨g4, 0, none⟩) (q.length + 1) cap4)); have bc4 : w4.heap[c]? = _ := (hgr4.block c HC4.out.lt HC4.out.nwc).trans HC4.out.blk; have y1 : w4.cell? ⟨c, 2, none⟩ = some (.slice gq q.length cq) := (by rw [Lib.cell_of_heap bc4]; rfl); have y2 : w4.frozen? ⟨c, 2, none⟩ = false := Lib.frozen_of_heap bc4 2))
  go_end0
  exact ⟨⟨_, rfl⟩, _, _, HC5.out, HM5.out⟩
end Go.Proofs.Ythknhbmibmndoaa.nf
