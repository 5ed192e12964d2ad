/-
  Texts put together: Plain and memory: a block of cells told by a function; which bytes a machine may put. Contracts over this program: opt.puts.
-/
import Derived.Test.YtmmlibehihknbaaM29
import Derived.Deep.WholeRow
import Derived.Laws.Tables
import Derived.Laws.ResultCell
namespace Go.Proofs.Ytmmlibehihknbaa.op
open Go.ChangeShapes Go.WideShapes Go.ChangeAt Go.RowKit
open tr (Mc Mp mv MAt Right pt en tx)
set_option linter.unusedVariables false
set_option maxRecDepth 100000

def fc (n : Nat) (f : Nat → Value) : Array Value := ((List.range n).map f).toArray
theorem fc_size (n : Nat) (f : Nat → Value) : (fc n f).size = n := by simp [fc]
theorem fc_get {n : Nat} (f : Nat → Value) {i : Nat} (h : i < n) : (fc n f)[i]? = some (f i) := by simp [fc, h]
theorem fc_congr {n : Nat} {f g : Nat → Value} (h : ∀ i, i < n → f i = g i) : fc n f = fc n g := by
  unfold fc
  congr 1
  exact List.map_congr_left fun i hi => h i (List.mem_range.1 hi)
theorem fc_set {n : Nat} (f : Nat → Value) (i : Nat) (v : Value) : (fc n f).setIfInBounds i v = fc n (fun j => if j = i then v else f j) := by
  apply Array.ext_getElem?
  intro j
  rw [Array.getElem?_setIfInBounds]
  by_cases hj : j < n
  · rw [fc_get _ hj, fc_size]
    by_cases e : i = j
    · subst e
      rw [if_pos rfl, if_pos hj, fc_get _ hj, if_pos rfl]
    · rw [if_neg e, fc_get _ hj, if_neg (fun h => e h.symm)]
  · rw [Array.getElem?_eq_none (by rw [fc_size]; omega), Array.getElem?_eq_none (by rw [fc_size]; omega), fc_size]
    split
    · rw [if_neg (by omega)]
    · rfl
theorem fc_one {n : Nat} {f : Nat → Value} (h : ∀ i, (f i).oneCell' = true) : (fc n f).all (·.oneCell') = true := by
  rw [Array.all_eq_true_iff_forall_mem]
  intro x hx
  simp [fc] at hx
  obtain ⟨i, _, rfl⟩ := hx
  exact h i
def fb (p : Nat → Bool) : Nat → Value := fun i => .bool (p i)
/-- a block of its own, its cells told by a function -/
def FRow (w : World) (g t n : Nat) (f : Nat → Value) : Prop := w.heap[g]? = some (.cells (fc n f) t (0, 0))
section
variable {w w' : World} {g t n : Nat} {f : Nat → Value}
theorem FRow.lt (h : FRow w g t n f) : g < w.heap.size := (Array.getElem?_eq_some_iff.1 h).1
theorem FRow.later (h : FRow w g t n f) (b : Below w.heap.size w w') : FRow w' g t n f := (b.block g h.lt).trans h
theorem FRow.cell (h : FRow w g t n f) {i : Nat} (hi : i < n) : w.cell? ⟨g, i, none⟩ = some (f i) := by rw [Lib.cell_of_heap h]; exact fc_get f hi
theorem FRow.fz (h : FRow w g t n f) (i : Nat) : w.frozen? ⟨g, i, none⟩ = false := Lib.frozen_of_heap h i
theorem FRow.put (h : FRow w g t n f) (i : Nat) (v : Value) : FRow (w.setCell ⟨g, i, none⟩ v) g t n (fun j => if j = i then v else f j) := by
  unfold FRow
  rw [ir.set_heap w g _ t i v h, fc_set]
theorem FRow.other (h : FRow w g t n f) {k : Nat} (hne : g ≠ k) (i : Nat) (v : Value) : FRow (w.setCell ⟨k, i, none⟩ v) g t n f := (Below.heap_setCell _ _ _ g hne).trans h
theorem FRow.congr (h : FRow w g t n f) {f' : Nat → Value} (e : ∀ i, i < n → f i = f' i) : FRow w g t n f' := by
  unfold FRow at h ⊢
  rw [h, fc_congr e]
end
def no256 : Array Value := fc 256 (fb fun _ => false)
theorem zero88 : ∀ w, (zeroValue 88).run Try.prog w = .ok (.agg no256) w := (zero_of_info (P := Try.prog) (t := 88) (v := .agg no256) (n := 256) (by kernel_rfl)).1
theorem info88 : (Try.prog.info? 88).map (·.size) = some 256 := by kernel_rfl
theorem info88f (f : Nat → Value) : (Try.prog.info? 88).map (·.size) = some (fc 256 f).size := by rw [fc_size]; exact info88
theorem info4 : (Try.prog.info? 4).map (fun i => (i.zero, i.size, i.bytes)) = some (some (.bool false), 1, 1) := by kernel_rfl
theorem made_bools (n : Nat) : madeCells #[.bool false] n = fc n (fb fun _ => false) := by
  apply Array.toList_inj.1
  rw [toList_madeCells_one]
  simp only [fc]
  exact (List.eq_replicate_iff.2 ⟨by simp, fun b hb => by simp [fb] at hb; exact hb.2.symm⟩).symm
theorem make34 (n : Nat) (hn : n ≤ 1000000) (W : World) : (Instr.makeSlice 34 (.int .i64 (n : Int)) (.int .i64 (n : Int))).run Try.prog W = .ok (.slice (some ⟨W.heap.size, 0, none⟩) n n) (W.alloc (.cells (fc n (fb fun _ => false)) 4)) := by
  rw [← made_bools]
  exact run_make_row' (P := Try.prog) 34 4 (.bool false) 1 Try.underlying34 info4 rfl .i64 .i64 n (by omega) (by omega) W
theorem ret88 {fn : Func} {p : Tmp} (h : fn.results = #[.cell p 88]) {a : Act} {W : World} {R : Ending → World → Prop} (g : Nat) (f : Nat → Value) (hp : a.tmps.getD p undef = .pointer (some ⟨g, 0, none⟩)) (hA : FRow W g 88 256 f) (hd : a.defers = [])
    (hR : R (.returned (.agg (fc 256 f))) W) : bodyPost Try.prog fn R .ret a W :=
  bodyPost_ret (results_cell_row h _ _ g 88 _ (0, 0) _ hp hA Try.underlying88 rfl (info88f f)) hd hR

/-! which bytes a machine may put -/
def odd (m : Mc) (s b : Nat) : Bool := decide (pt m s b % 2 = 1)
def mayAt (m : Mc) (i c b : Nat) : Bool := (List.range i).any (fun s => odd m s b) || (decide (b < c) && odd m i b)
def txAll (m : Mc) (i t : Nat) : Bool := (List.range i).any fun s => decide (en m s = t) || (List.range 256).any fun x => decide (pt m s x / 2 = t)
def txAt (m : Mc) (i c t : Nat) : Bool := txAll m i t || (List.range c).any fun x => decide (pt m i x / 2 = t)
theorem any_succ (n : Nat) (p : Nat → Bool) : (List.range (n + 1)).any p = ((List.range n).any p || p n) := by rw [List.range_succ, List.any_append]; simp
theorem may_step (m : Mc) (i c : Nat) (b : Nat) : mayAt m i (c + 1) b = if b = c then mayAt m i c c || odd m i c else mayAt m i c b := by
  unfold mayAt
  by_cases e : b = c
  · subst e
    rw [if_pos rfl, decide_eq_true (by omega), decide_eq_false (by omega)]
    simp
  · rw [if_neg e]
    congr 2
    rw [Bool.eq_iff_iff]
    simp
    omega
theorem may_row (m : Mc) (i b : Nat) (hb : b < 256) : mayAt m i 256 b = mayAt m (i + 1) 0 b := by
  unfold mayAt
  rw [any_succ, decide_eq_true hb]
  simp
theorem may_0 (m : Mc) (b : Nat) : mayAt m 0 0 b = false := by simp [mayAt]
theorem tx_step (m : Mc) (i c t : Nat) : txAt m i (c + 1) t = if t = pt m i c / 2 then true else txAt m i c t := by
  unfold txAt
  rw [any_succ]
  by_cases e : t = pt m i c / 2
  · rw [if_pos e, e]; simp
  · rw [if_neg e, decide_eq_false (fun h => e h.symm)]; simp
theorem tx_row (m : Mc) (i t : Nat) : txAt m (i + 1) 0 t = if t = en m i then true else txAt m i 256 t := by
  unfold txAt
  have h : txAll m (i + 1) t = (txAll m i t || (decide (en m i = t) || (List.range 256).any fun x => decide (pt m i x / 2 = t))) := any_succ _ _
  rw [h]
  by_cases e : t = en m i
  · rw [if_pos e, e]; simp
  · rw [if_neg e, decide_eq_false (fun h => e h.symm)]; simp
theorem tx_0 (m : Mc) (t : Nat) : txAt m 0 0 t = false := by simp [txAt, txAll]
def hasB (s : ByteArray) (j b : Nat) : Bool := (List.range j).any fun q => decide (df.byteAt s q = b)
/-- behind so many texts, and so many bytes of the next one -/
def put2 (m : Mc) (i j b : Nat) : Bool := mayAt m m.next.length 0 b || (List.range i).any (fun t => txAt m m.next.length 0 t && hasB (tx m t) (tx m t).size b) || (txAt m m.next.length 0 i && hasB (tx m i) j b)
def putsB (m : Mc) (b : Nat) : Bool := put2 m m.txt.length 0 b
theorem put2_0 (m : Mc) (b : Nat) : put2 m 0 0 b = mayAt m m.next.length 0 b := by simp [put2, hasB]
theorem put2_next (m : Mc) (i b : Nat) : put2 m i (tx m i).size b = put2 m (i + 1) 0 b := by
  unfold put2
  rw [any_succ]
  simp [hasB, Bool.or_assoc]
theorem put2_none (m : Mc) (i b : Nat) (h : txAt m m.next.length 0 i = false) : put2 m i 0 b = put2 m (i + 1) 0 b := by
  unfold put2
  rw [any_succ, h]
  simp [hasB]
theorem put2_step (m : Mc) (i j b : Nat) (h : txAt m m.next.length 0 i = true) : put2 m i (j + 1) b = if b = df.byteAt (tx m i) j then true else put2 m i j b := by
  unfold put2
  rw [h]
  have e : hasB (tx m i) (j + 1) b = (hasB (tx m i) j b || decide (df.byteAt (tx m i) j = b)) := any_succ _ _
  rw [e]
  by_cases e : b = df.byteAt (tx m i) j
  · rw [if_pos e, e]; simp
  · rw [if_neg e, decide_eq_false (fun h => e h.symm)]; simp
end Go.Proofs.Ytmmlibehihknbaa.op

namespace Go.Proofs.Ytmmlibehihknbaa.op
open Go.ChangeShapes Go.WideShapes Go.ChangeAt Go.RowKit
open tr (Mc Mp mv MAt Right pt en tx Lo)
set_option linter.unusedVariables false
set_option maxRecDepth 100000

theorem row_at {B : Nat} {w : World} {m : Mc} {p : Mp} (hM : MAt (Lo B) w m p) (hR : Right m) {s : Nat} (hs : s < m.next.length) : ∃ pb poff rb roff rc, p.po = some ⟨pb, poff, none⟩ ∧ pb < B ∧ w.cell? ⟨pb, poff + s, none⟩ = some (.slice (some ⟨rb, roff, none⟩) 256 rc) ∧ 256 ≤ rc ∧ rc ≤ 9223372036854775807 ∧ rb < B ∧ ∀ b, b < 256 → w.cell? ⟨rb, roff + b, none⟩ = some (.int .i64 (pt m s b : Int)) := by
  obtain ⟨pb, poff, rb, roff, rc, e, h1, h2, h3, h4, h5, h6⟩ := hM.put_at hR hs (b := 0) (by omega)
  refine ⟨pb, poff, rb, roff, rc, e, h1, h2, h5, h6, h3, fun b hb => ?_⟩
  obtain ⟨pb', poff', rb', roff', rc', e', h1', h2', h3', h4', h5', h6'⟩ := hM.put_at hR hs hb
  rw [e] at e'
  simp at e'
  obtain ⟨rfl, rfl⟩ := e'
  rw [h2] at h2'
  simp at h2'
  obtain ⟨⟨rfl, rfl⟩, rfl⟩ := h2'
  exact h4'
theorem below_row {n g : Nat} {w W : World} (h : Below n w W) (hg : n ≤ g) (hn : n ≤ w.heap.size) (cs : Array Value) : Below n w (W.setRow g cs) := ⟨h.os, h.tape, h.output, by simpa using h.size, fun k hk => (setRow_other _ _ _ _ (by omega)).trans (h.block k hk)⟩
structure Pw (w : World) (C : Array Value) (gb gr gm gt nt : Nat) (P T : Nat → Bool) (wr : World) : Prop where
  be : Below w.heap.size w wr
  bx : wr.heap[gb]? = some (.cells C 32 (0, 0))
  rs : FRow wr gr 88 256 (fb fun _ => false)
  my : FRow wr gm 88 256 (fb P)
  txs : FRow wr gt 4 nt (fb T)
  n : gb ≠ gm ∧ gb ≠ gt ∧ gr ≠ gm ∧ gr ≠ gt ∧ gm ≠ gt
  lo : w.heap.size ≤ gm ∧ w.heap.size ≤ gt
section
variable {w : World} {C : Array Value} {gb gr gm gt nt : Nat} {P T : Nat → Bool} {wr : World}
theorem Pw.putT (h : Pw w C gb gr gm gt nt P T wr) (k : Nat) : Pw w C gb gr gm gt nt P (fun t => if t = k then true else T t) (wr.setCell ⟨gt, k, none⟩ (.bool true)) :=
  ⟨h.be.setCell (p := ⟨gt, k, none⟩) h.lo.2 _, (Below.heap_setCell _ _ _ gb h.n.2.1).trans h.bx, h.rs.other h.n.2.2.2.1 k _, h.my.other h.n.2.2.2.2 k _, (h.txs.put k _).congr fun i _ => by by_cases e : i = k <;> simp [fb, e], h.n, h.lo⟩
theorem Pw.putM (h : Pw w C gb gr gm gt nt P T wr) (c : Nat) (v : Bool) : Pw w C gb gr gm gt nt (fun b => if b = c then v else P b) T (wr.setCell ⟨gm, c, none⟩ (.bool v)) :=
  ⟨h.be.setCell (p := ⟨gm, c, none⟩) h.lo.1 _, (Below.heap_setCell _ _ _ gb h.n.1).trans h.bx, h.rs.other h.n.2.2.1 c _, (h.my.put c _).congr fun i _ => by by_cases e : i = c <;> simp [fb, e], h.txs.other (Ne.symm h.n.2.2.2.2) c _, h.n, h.lo⟩
theorem Pw.congr (h : Pw w C gb gr gm gt nt P T wr) {P' T' : Nat → Bool} (e1 : ∀ b, b < 256 → P b = P' b) (e2 : ∀ t, T t = T' t) : Pw w C gb gr gm gt nt P' T' wr :=
  ⟨h.be, h.bx, h.rs, h.my.congr fun i hi => by unfold fb; rw [e1 i hi], h.txs.congr fun i hi => by unfold fb; rw [e2 i], h.n, h.lo⟩
theorem Pw.c {m : Mc} {q : Mp} (h : Pw w (mv m q) gb gr gm gt nt P T wr) : wr.cell? ⟨gb, 1, none⟩ = some (.slice q.po m.put.length q.pc) ∧ wr.cell? ⟨gb, 2, none⟩ = some (.slice q.eo m.fin.length q.ec) ∧ wr.cell? ⟨gb, 3, none⟩ = some (.slice q.xo m.txt.length q.xc) := by
  refine ⟨?_, ?_, ?_⟩ <;> (rw [Lib.cell_of_heap h.bx]; rfl)
end
theorem pw_start (w : World) (m : Mc) (q : Mp) (nt : Nat) : Pw w (mv m q) w.heap.size (w.heap.size + 1) (w.heap.size + 1 + 1) (w.heap.size + 1 + 1 + 1) nt (mayAt m 0 0) (txAt m 0 0) ((((w.alloc (.cells (mv m q) 32)).alloc (.cells no256 88)).alloc (.cells no256 88)).alloc (.cells (fc nt (fb fun _ => false)) 4)) := by
  obtain ⟨w1, h1⟩ : ∃ w1, w1 = w.alloc (.cells (mv m q) 32) := ⟨_, rfl⟩
  obtain ⟨w2, h2⟩ : ∃ w2, w2 = w1.alloc (.cells no256 88) := ⟨_, rfl⟩
  obtain ⟨w3, h3⟩ : ∃ w3, w3 = w2.alloc (.cells no256 88) := ⟨_, rfl⟩
  obtain ⟨w4, h4⟩ : ∃ w4, w4 = w3.alloc (.cells (fc nt (fb fun _ => false)) 4) := ⟨_, rfl⟩
  have s1 : w1.heap.size = w.heap.size + 1 := by rw [h1]; simp
  have s2 : w2.heap.size = w.heap.size + 2 := by rw [h2]; simp [s1]
  have s3 : w3.heap.size = w.heap.size + 3 := by rw [h3]; simp [s2]
  have a1 : w1.heap[w.heap.size]? = some (.cells (mv m q) 32 (0, 0)) := by rw [h1]; exact heap_alloc_new w _
  have a2 : w2.heap[w.heap.size + 1]? = some (.cells no256 88 (0, 0)) := by rw [h2, ← s1]; exact heap_alloc_new w1 _
  have a3 : w3.heap[w.heap.size + 1 + 1]? = some (.cells no256 88 (0, 0)) := by rw [h3, ← s2]; exact heap_alloc_new w2 _
  have a4 : w4.heap[w.heap.size + 1 + 1 + 1]? = some (.cells (fc nt (fb fun _ => false)) 4 (0, 0)) := by rw [h4, ← s3]; exact heap_alloc_new w3 _
  have b1 : Below w.heap.size w w1 := by rw [h1]; exact mg.below_alloc w _
  have b2 : Below w1.heap.size w1 w2 := by rw [h2]; exact mg.below_alloc w1 _
  have b3 : Below w2.heap.size w2 w3 := by rw [h3]; exact mg.below_alloc w2 _
  have b4 : Below w3.heap.size w3 w4 := by rw [h4]; exact mg.below_alloc w3 _
  have b23 := mg.chain b2 b3
  have b34 := mg.chain b3 b4
  have b24 := mg.chain b2 b34
  rw [← h1, ← h2, ← h3, ← h4]
  refine ⟨mg.chain b1 b24, (b24.block _ (by omega)).trans a1, (b34.block _ (by omega)).trans a2, ?_, ?_, by omega, by omega⟩
  · refine FRow.congr ((b4.block _ (by omega)).trans a3 : FRow w4 _ 88 256 (fb fun _ => false)) fun b _ => ?_
    unfold fb
    rw [may_0]
  · refine FRow.congr (a4 : FRow w4 _ 4 nt (fb fun _ => false)) fun b _ => ?_
    unfold fb
    rw [tx_0]
set_option maxHeartbeats 8000000 in
theorem puts_any (m : Mc) (hR : Right m) (q : Mp) (w : World) (hM0 : MAt (tr.In w) w m q) : Calls Try.prog 39 #[.agg (mv m q)] w fun e w' => e = .returned (.agg (fc 256 (fb (putsB m)))) ∧ Below w.heap.size w w' := by
  have HM := (show Hid (∀ W, Below w.heap.size w W → MAt (Lo w.heap.size) W m q) from fun W b => hM0.carry (fun k hk => b.block k hk) (fun k hk => hk))
  have hnt := hR.few
  have hnp := hR.puts
  have HR := (show Hid (Right m) from hR)
  have t0 := hM0.rpt.fit
  have t1 := hM0.rpt.top
  have t2 := hM0.ren.fit
  have t3 := hM0.ren.top
  have t4 := hM0.rtx.fit
  have t5 := hM0.rtx.top
  have hnf := hR.fins
  have HP0 := (show Hid _ from pw_start w m q m.txt.length)
  obtain ⟨k1, k2, k3⟩ := HP0.out.c
  have k3a : ∀ o o', (((w.alloc (.cells (mv m q) 32)).alloc o).alloc o').cell? ⟨w.heap.size, 3, none⟩ = some (.slice q.xo m.txt.length q.xc) := fun o o' => by
    have b := (mg.below_alloc (w.alloc (.cells (mv m q) 32)) o).trans ((mg.below_alloc ((w.alloc (.cells (mv m q) 32)).alloc o) o').mono (by simp))
    rw [b.cell (p := ⟨w.heap.size, 3, none⟩) (by simp), Lib.cell_of_heap (heap_alloc_new w _)]
    rfl
  obtain ⟨C, hC⟩ : ∃ C, C = mv m q := ⟨_, rfl⟩
  have HC := (show Hid (C = mv m q) from hC)
  obtain ⟨Z, hZ⟩ : ∃ Z, Z = no256 := ⟨_, rfl⟩
  have hzero : ∀ w, (zeroValue 88).run Try.prog w = .ok (.agg Z) w := by rw [hZ]; exact zero88
  have HZ := (show Hid (Z = no256) from hZ)
  have hmk := fun W => make34 m.txt.length (by omega) W
  have r3 := k3a (.cells Z 88) (.cells Z 88)
  rw [← hC] at k1 k2 k3 r3 HP0 ⊢
  rw [← hZ] at k1 k2 k3 HP0
  obtain ⟨N, hN⟩ : ∃ N, N = m.next.length := ⟨_, rfl⟩
  have HNN := (show Hid (N = m.next.length) from hN)
  rw [hnp, ← hN] at k1 t0
  rw [hnf, ← hN] at t2
  obtain ⟨po, hpo⟩ : ∃ po, po = q.po := ⟨_, rfl⟩
  obtain ⟨eo, heo⟩ : ∃ eo, eo = q.eo := ⟨_, rfl⟩
  obtain ⟨xo, hxo⟩ : ∃ xo, xo = q.xo := ⟨_, rfl⟩
  obtain ⟨nt, hnt'⟩ : ∃ nt, nt = m.txt.length := ⟨_, rfl⟩
  have HO := (show Hid (po = q.po ∧ eo = q.eo ∧ xo = q.xo ∧ nt = m.txt.length) from ⟨hpo, heo, hxo, hnt'⟩)
  have HCE := (show Hid (∀ (P T : Nat → Bool) gb gr gm gt nt' wr, Pw w C gb gr gm gt nt' P T wr → wr.cell? ⟨gb, 2, none⟩ = some (.slice eo N q.ec) ∧ wr.cell? ⟨gb, 3, none⟩ = some (.slice xo nt q.xc)) from fun P T gb gr gm gt nt' wr h => by
    rw [hC] at h
    have := h.c
    rw [heo, hxo, hnt', hN, ← hnf]
    exact ⟨this.2.1, this.2.2⟩)
  have l1 : C[1]? = some (.slice po N q.pc) := by rw [hC, hpo, hN, ← hnp]; rfl
  have l3 : C[3]? = some (.slice xo nt q.xc) := by rw [hC, hxo, hnt']; rfl
  rw [← hpo] at k1
  rw [← hxo, ← hnt'] at k3 r3
  rw [← hnt'] at HP0 hmk t4 hnt
  generalize q.pc = pc at *
  generalize q.xc = xc at *
  clear hM0 hR hC hZ k3a k2 hnp hnf hN hpo heo hxo hnt'
  go_enter Try.func39, Try.ntmps39
  go_wp2_with (fail)
  generalize ((((w.alloc (.cells C 32)).alloc (.cells Z 88)).alloc (.cells Z 88)).alloc (.cells (fc nt (fb fun _ => false)) 4)) = w0 at *
  clear r3 hmk hzero k1 k3 HZ l1 l3
  go_loopw [19] (fun y wr => ∃ i : Nat, y = .int .i64 (i : Int) ∧ i ≤ N ∧ Hid (Pw w C w.heap.size (w.heap.size + 1) (w.heap.size + 1 + 1) (w.heap.size + 1 + 1 + 1) nt (mayAt m i 0) (txAt m i 0) wr)) (fun y _ => N - (intOf y).toNat)
  case atStart => exact ⟨0, rfl, by omega, HP0⟩
  case round =>
    clear HP0
    obtain ⟨i, rfl, hi, HP⟩ := hrel
    by_cases hend : i < N
    · have hiN : i < m.next.length := by rw [← HNN.out]; exact hend
      obtain ⟨pb, poff, rb, roff, rc, e1, h1, h2, h5, h6, h3, _⟩ := row_at (HM.out wr HP.out.be) HR.out hiN
      have HRW := (show Hid (∀ W, Below w.heap.size w W → ∀ b, b < 256 → W.cell? ⟨rb, roff + b, none⟩ = some (.int .i64 (pt m i b : Int))) from fun W c b hb => by
        obtain ⟨pb', poff', rb', roff', rc', e1', h1', h2', h5', h6', h3', hall⟩ := row_at (HM.out W c) HR.out hiN
        rw [e1] at e1'
        simp at e1'
        obtain ⟨rfl, rfl⟩ := e1'
        have e3 : W.cell? ⟨pb, poff + i, none⟩ = wr.cell? ⟨pb, poff + i, none⟩ := by
          simp only [World.cell?, c.block pb h1, HP.out.be.block pb h1]
        rw [e3, h2] at h2'
        simp at h2'
        obtain ⟨⟨rfl, rfl⟩, rfl⟩ := h2'
        exact hall b hb)
      obtain rfl : po = some ⟨pb, poff, none⟩ := by rw [HO.out.1, e1]
      clear h1 h3 e1
      go_wp2_with (fail)
      go_loopw [26] (fun y wr => ∃ c : Nat, y = .int .i64 (c : Int) ∧ c ≤ 256 ∧ Hid (Pw w C w.heap.size (w.heap.size + 1) (w.heap.size + 1 + 1) (w.heap.size + 1 + 1 + 1) nt (mayAt m i c) (txAt m i c) wr)) (fun y _ => 256 - (intOf y).toNat)
      case atStart => exact ⟨0, rfl, by omega, HP⟩
      case round =>
        clear HP h2
        obtain ⟨c, rfl, hc, HP⟩ := hrel
        by_cases hc2 : c < 256
        · have q1 := HRW.out wr HP.out.be c hc2
          have hlt := HR.out.pt_lt hiN hc2
          have hq2 : pt m i c / 2 < nt := by rw [HO.out.2.2.2]; omega
          have hd := tr.div2 (pt m i c)
          have hmd := tr.mod2 (pt m i c)
          have q2 := HP.out.txs.cell hq2
          have q3 := HP.out.txs.fz (pt m i c / 2)
          have HPT := HP.out.putT (pt m i c / 2)
          have q4 := HPT.my.cell hc2
          have q5 := HPT.my.fz c
          have HNV := (show Hid (∀ v, v = (mayAt m i c c || odd m i c) → Pw w C w.heap.size (w.heap.size + 1) (w.heap.size + 1 + 1) (w.heap.size + 1 + 1 + 1) nt (mayAt m i (c + 1)) (txAt m i (c + 1)) ((wr.setCell ⟨w.heap.size + 1 + 1 + 1, pt m i c / 2, none⟩ (.bool true)).setCell ⟨w.heap.size + 1 + 1, c, none⟩ (.bool v))) from fun v hv => (HPT.putM c v).congr (fun b _ => by rw [may_step]; by_cases e : b = c <;> simp [e, hv]) (fun t => by rw [tx_step]))
          have hod : odd m i c = decide (pt m i c % 2 = 1) := rfl
          clear HPT HP hlt
          unfold fb at q2 q4
          generalize txAt m i c (pt m i c / 2) = tv at *
          cases hmv : mayAt m i c c
          · rw [hmv] at q4
            by_cases ho : pt m i c % 2 = 1
            · have HN := (show Hid _ from HNV.out true (by rw [hmv, hod, decide_eq_true ho]; rfl))
              rw [ho] at hmd
              clear HNV hod hmv ho
              generalize pt m i c = x at *
              generalize x / 2 = x2 at *
              go_wp2_with (fail)
              go_roundw
              case rel => exact ⟨c + 1, by go_num, by omega, HN⟩
              case measure => simp [intOf]; omega
            · have HN := (show Hid _ from HNV.out false (by rw [hmv, hod, decide_eq_false ho]; rfl))
              have h0 : pt m i c % 2 = 0 := by omega
              rw [h0] at hmd
              clear HNV hod hmv ho h0
              generalize pt m i c = x at *
              generalize x / 2 = x2 at *
              go_wp2_with (fail)
              go_roundw
              case rel => exact ⟨c + 1, by go_num, by omega, HN⟩
              case measure => simp [intOf]; omega
          · rw [hmv] at q4
            have HN := (show Hid _ from HNV.out true (by rw [hmv]; rfl))
            clear HNV hod hmv hmd
            generalize pt m i c = x at *
            generalize x / 2 = x2 at *
            go_wp2_with (fail)
            go_roundw
            case rel => exact ⟨c + 1, by go_num, by omega, HN⟩
            case measure => simp [intOf]; omega
        · have hce : c = 256 := by omega
          subst hce
          obtain ⟨kb, koff, e4, _, h4⟩ := (HM.out wr HP.out.be).fin_at HR.out hiN
          obtain rfl : eo = some ⟨kb, koff, none⟩ := by rw [HO.out.2.1, e4]
          have hel : en m i < nt := by rw [HO.out.2.2.2]; exact HR.out.en_lt hiN
          have q0 := (HCE.out _ _ _ _ _ _ _ _ HP.out).1
          have q2 := HP.out.txs.cell hel
          have q3 := HP.out.txs.fz (en m i)
          have HN := (show Hid (Pw w C w.heap.size (w.heap.size + 1) (w.heap.size + 1 + 1) (w.heap.size + 1 + 1 + 1) nt (mayAt m (i + 1) 0) (txAt m (i + 1) 0) (wr.setCell ⟨w.heap.size + 1 + 1 + 1, en m i, none⟩ (.bool true))) from (HP.out.putT (en m i)).congr (fun b hb => may_row m i b hb) (fun t => by rw [tx_row]))
          unfold fb at q2
          generalize txAt m i 256 (en m i) = tv at *
          clear HP e4
          generalize en m i = x at *
          go_wp2_with (fail)
          go_roundw
          case rel => exact ⟨i + 1, by go_num, by omega, HN⟩
          case measure => simp [intOf]; omega
    · have hie : i = N := by omega
      have HP1 := (show Hid (Pw w C w.heap.size (w.heap.size + 1) (w.heap.size + 1 + 1) (w.heap.size + 1 + 1 + 1) nt (put2 m 0 0) (txAt m m.next.length 0) wr) from HP.out.congr (fun b _ => by rw [put2_0, hie, HNN.out]) (fun t => by rw [hie, HNN.out]))
      have q0 := (HCE.out _ _ _ _ _ _ _ _ HP1.out).2
      clear HP
      go_wp2_with (fail)
      clear q0
      go_loopw [57] (fun y wr => ∃ i : Nat, y = .int .i64 (i : Int) ∧ i ≤ nt ∧ Hid (Pw w C w.heap.size (w.heap.size + 1) (w.heap.size + 1 + 1) (w.heap.size + 1 + 1 + 1) nt (put2 m i 0) (txAt m m.next.length 0) wr)) (fun y _ => nt - (intOf y).toNat)
      case atStart => exact ⟨0, rfl, by omega, HP1⟩
      case round =>
        clear HP1
        obtain ⟨i, rfl, hi, HP⟩ := hrel
        by_cases hin : i < nt
        · obtain ⟨kb, koff, e4, _, h4⟩ := (HM.out wr HP.out.be).tx_at (k := i) (by rw [← HO.out.2.2.2]; exact hin)
          obtain rfl : xo = some ⟨kb, koff, none⟩ := by rw [HO.out.2.2.1, e4]
          have htl := HR.out.tx_le i
          have HSN := (show Hid (∀ b, put2 m i (tx m i).size b = put2 m (i + 1) 0 b) from fun b => put2_next m i b)
          have HSZ := (show Hid (txAt m m.next.length 0 i = false → ∀ b, put2 m i 0 b = put2 m (i + 1) 0 b) from fun h b => put2_none m i b h)
          have HSS := (show Hid (txAt m m.next.length 0 i = true → ∀ j b, put2 m i (j + 1) b = if b = df.byteAt (tx m i) j then true else put2 m i j b) from fun h j b => put2_step m i j b h)
          generalize htx : tx m i = t at *
          clear e4
          cases htv : txAt m m.next.length 0 i
          · have HN := (show Hid (∀ wz, Pw w C w.heap.size (w.heap.size + 1) (w.heap.size + 1 + 1) (w.heap.size + 1 + 1 + 1) nt (put2 m i 0) (txAt m m.next.length 0) wz → Pw w C w.heap.size (w.heap.size + 1) (w.heap.size + 1 + 1) (w.heap.size + 1 + 1 + 1) nt (put2 m (i + 1) 0) (txAt m m.next.length 0) wz) from fun wz h => h.congr (fun b _ => HSZ.out htv b) fun t => rfl)
            have q2 := HP.out.txs.cell hin
            unfold fb at q2
            rw [htv] at q2
            have HPN := (show Hid _ from HN.out wr HP.out)
            clear HP HN HSN HSZ HSS htx htv
            go_wp2_with (fail)
            go_loopw [11] (fun y wz => y = .int .i64 0 ∧ wz = wr) (fun _ _ => 0)
            case atStart => exact ⟨rfl, rfl⟩
            case round =>
              obtain ⟨rfl, rfl⟩ := hrel
              by_cases hz : 0 < t.size
              · have f1 : decide ((0 : Int) < (t.size : Int)) = true := decide_eq_true (by omega)
                go_wp2_with (fail)
                go_roundw
                case rel => exact ⟨i + 1, by go_num, by omega, HPN⟩
                case measure => simp [intOf]; omega
              · have f1 : decide ((0 : Int) < (t.size : Int)) = false := decide_eq_false (by omega)
                go_wp2_with (fail)
                go_roundw
                case rel => exact ⟨i + 1, by go_num, by omega, HPN⟩
                case measure => simp [intOf]; omega
          · have HS2 := (show Hid (∀ j b, put2 m i (j + 1) b = if b = df.byteAt t j then true else put2 m i j b) from HSS.out htv)
            have htb := (show Hid (txAt m m.next.length 0 i = true) from htv)
            clear HSZ HSS htx htv
            go_wp2_with (fail)
            go_loopw [11] (fun y wr => ∃ j : Nat, y = .int .i64 (j : Int) ∧ j ≤ t.size ∧ Hid (Pw w C w.heap.size (w.heap.size + 1) (w.heap.size + 1 + 1) (w.heap.size + 1 + 1 + 1) nt (put2 m i j) (txAt m m.next.length 0) wr)) (fun y _ => t.size - (intOf y).toNat)
            case atStart => exact ⟨0, rfl, by omega, HP⟩
            case round =>
              clear HP h4
              obtain ⟨j, rfl, hj, HP⟩ := hrel
              by_cases hjn : j < t.size
              · have f1 : decide ((j : Int) < (t.size : Int)) = true := decide_eq_true (by omega)
                have hjj : (j : Int) < (t.size : Int) := by omega
                have q2 := HP.out.txs.cell hin
                unfold fb at q2
                rw [htb.out] at q2
                have h8 := t[j].toNat_lt
                have h8i : ((t[j].toNat : Nat) : Int) < 256 := by omega
                have q4 := HP.out.my.cell (i := t[j].toNat) h8
                have q5 := HP.out.my.fz t[j].toNat
                unfold fb at q4
                have HN := (show Hid (Pw w C w.heap.size (w.heap.size + 1) (w.heap.size + 1 + 1) (w.heap.size + 1 + 1 + 1) nt (put2 m i (j + 1)) (txAt m m.next.length 0) (wr.setCell ⟨w.heap.size + 1 + 1, t[j].toNat, none⟩ (.bool true))) from (HP.out.putM t[j].toNat true).congr (fun b _ => by rw [HS2.out, df.byte_eq t j hjn]) fun t => rfl)
                generalize put2 m i j t[j].toNat = pv at *
                clear HP
                go_wp2_with (fail)
                go_roundw
                case rel => exact ⟨j + 1, by go_num, by omega, HN⟩
                case measure => simp [intOf]; omega
              · have f1 : decide ((j : Int) < (t.size : Int)) = false := decide_eq_false (by omega)
                have HPN := (show Hid (Pw w C w.heap.size (w.heap.size + 1) (w.heap.size + 1 + 1) (w.heap.size + 1 + 1 + 1) nt (put2 m (i + 1) 0) (txAt m m.next.length 0) wr) from HP.out.congr (fun b _ => by rw [show j = t.size by omega]; exact HSN.out b) fun t => rfl)
                clear HP HSN HS2
                go_wp2_with (fail)
                go_roundw
                case rel => exact ⟨i + 1, by go_num, by omega, HPN⟩
                case measure => simp [intOf]; omega
        · have hie : i = nt := by omega
          have hmy := HP.out.my
          have hrs := HP.out.rs
          have HEQ := (show Hid (fc 256 (fb (put2 m i 0)) = fc 256 (fb (putsB m))) from by
            show _ = _
            unfold putsB
            rw [hie, HO.out.2.2.2])
          have HBW := (show Hid (Below w.heap.size w wr) from HP.out.be)
          have hi1 := info88f (fb (put2 m i 0))
          have hone : (fc 256 (fb (put2 m i 0))).all (·.oneCell') = true := fc_one fun _ => rfl
          have hold : (fc 256 (fb fun _ => false)).size = (fc 256 (fb (put2 m i 0))).size := by rw [fc_size, fc_size]
          have HR2 := (show Hid (FRow (wr.setRow (w.heap.size + 1) (fc 256 (fb (put2 m i 0)))) (w.heap.size + 1) 88 256 (fb (put2 m i 0))) from setRow_heap _ _ _ _ _ _ hrs)
          have HB2 := (show Hid (Below w.heap.size w (wr.setRow (w.heap.size + 1) (fc 256 (fb (put2 m i 0))))) from below_row HBW.out (by omega) (Nat.le_refl _) _)
          obtain ⟨W2, hW2⟩ : ∃ W2, wr.setRow (w.heap.size + 1) (fc 256 (fb (put2 m i 0))) = W2 := ⟨_, rfl⟩
          rw [hW2] at HR2 HB2
          unfold FRow at hmy hrs
          generalize hF : fb (put2 m i 0) = F at *
          clear HP
          go_wp2_with (first | (refine wpList_load_row rfl 88 (.tmp 3) rfl (w.heap.size + 1 + 1) rfl 88 (fc 256 F) (0, 0) _ hmy Try.underlying88 rfl hi1 ?_) | (refine wpList_store_row rfl 88 (.tmp 2) (.tmp 79) rfl (w.heap.size + 1) (fc 256 F) rfl rfl 88 _ hrs hi1 hold hone ?_; rw [hW2]))
          refine ret88 rfl (w.heap.size + 1) F rfl HR2.out rfl ?_
          exact ⟨by rw [HEQ.out], HB2.out⟩
end Go.Proofs.Ytmmlibehihknbaa.op
