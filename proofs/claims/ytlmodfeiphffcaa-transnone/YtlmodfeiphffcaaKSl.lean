/-
  Contracts over this program: a state is left (maker[string].leave): what it needs beside the loop.
-/
import Derived.Test.YtlmodfeiphffcaaKSi
namespace Go.Proofs.Ytlmodfeiphffcaa.ms
open Go.ChangeShapes Go.WideShapes Go.ChangeAt Go.RowKit Go.Shelf Go.Maps
open tr
open mk (Kv kcells svs rcs MapN mapN_nil map_keep own_ne own_cells law9 zero3 OkT kt key9 kt_inj look83 info9)
open wr (Gw BufG Rw)
open ru (Ru)
set_option linter.unusedVariables false
set_option linter.unusedSimpArgs false

/-- cells of a machine are kept -/
def K26 (W W' : World) : Prop := ∀ (g : Nat) (cs : Array Value) (fr : Nat × Nat), W.heap[g]? = some (.cells cs 26 fr) → W'.heap[g]? = some (.cells cs 26 fr)
theorem K26.trans {W W1 W2 : World} (h : K26 W W1) (k : K26 W1 W2) : K26 W W2 := fun g cs fr hg => k g cs fr (h g cs fr hg)
theorem K26.below {W W' : World} (h : Below W.heap.size W W') : K26 W W' := fun g cs fr hg => (h.block g (Array.getElem?_eq_some_iff.1 hg).1).trans hg
theorem K26.gw {fm B : Nat} {f : Bool} {v v' : Value} {xs : List UInt8} {W W' : World} (hG : Gw fm W v W' v') (hb : BufG f B v xs W) (hm : ∃ es c, W.heap[fm]? = some (.map es c)) : K26 W W' := fun g cs fr hg => (hG.block g (Array.getElem?_eq_some_iff.1 hg).1 (hb.type hg (by decide)) (fun e => by obtain ⟨es, c, hm⟩ := hm; rw [e, hm] at hg; cases hg)).trans hg
theorem K26.gr {B : Nat} {v v' : Value} {xs : List UInt8} {W W' : World} (hG : Gr W v W' v') (hb : Buf B v xs W) : K26 W W' := fun g cs fr hg => (hG.gr.block g (Array.getElem?_eq_some_iff.1 hg).1 (ow.type hb.1 hg (by decide))).trans hg
theorem K26.set {W W1 : World} (h : K26 W W1) {g : Nat} {cs : Array Value} {fr : Nat × Nat} (hg : W1.heap[g]? = some (.cells cs 3 fr)) (i : Nat) (u : Value) : K26 W (W1.setCell ⟨g, i, none⟩ u) := fun g' cs' fr' hg' => (Below.heap_setCell _ _ _ _ (cells_ne (h g' cs' fr' hg') hg (by decide))).trans (h g' cs' fr' hg')
theorem K26.push {B kb : Nat} {f0 f1 : Value} {q : Kv} {d : Kq} {W W' : World} (k : KI B kb f0 f1 q d W) {u : Value} {e n : Nat} {l : List Value} (ho : W.ownsRow B e 1 u n l) (he : e ≠ 26) (hh : ∀ g, g < W.heap.size → g ≠ kb → u.ownBlock ≠ some g → W'.heap[g]? = W.heap[g]?) : K26 W W' := fun g cs fr hg => (hh g (Array.getElem?_eq_some_iff.1 hg).1 ((k.cells hg).2.2 (by decide)) (fun e1 => ow.type ho hg he.symm e1.symm)).trans hg
theorem K26.text {B kb : Nat} {f0 f1 : Value} {q : Kv} {d : Kq} {W W' : World} (k : KI B kb f0 f1 q d W) (h10 : ∀ g, g < W.heap.size → g ≠ kb → g ≠ q.tm → q.v3.ownBlock ≠ some g → W'.heap[g]? = W.heap[g]?) : K26 W W' := fun g cs fr hg => by
  obtain ⟨p1, p2, p3⟩ := k.offT hg (by decide) (by decide)
  exact (h10 g (Array.getElem?_eq_some_iff.1 hg).1 p1 p2 p3).trans hg
theorem K26.state {B kb : Nat} {f0 f1 : Value} {q : Kv} {d : Kq} {W W' : World} (k : KI B kb f0 f1 q d W) (h10 : ∀ g, g < W.heap.size → g ≠ kb → g ≠ q.nm → q.sv.ownBlock ≠ some g → W'.heap[g]? = W.heap[g]?) : K26 W W' := fun g cs fr hg => by
  obtain ⟨p1, p2, p3⟩ := k.offS hg (by decide) (.inl (by decide))
  exact (h10 g (Array.getElem?_eq_some_iff.1 hg).1 p1 p2 p3).trans hg
def LvOut (B kb cb : Nat) (l : List Ru) (lv : Value) (sm fm : Nat) (q : Kv) (d : Kq) (s : ByteArray) (W : World) (e : Ending) (W' : World) : Prop :=
  ∃ (sv v0 v1 v2 v3 : Value) (lg gn gp k : Nat) (sts : List ByteArray) (txs : List ByteArray) (rn rp : List Int) (t : ByteArray), e = .returned (.tuple #[]) ∧ KI B kb (F0 cb) (F1 cb) { q with sv := sv, v0 := v0, v1 := v1, v2 := v2, v3 := v3, lg := lg } { sts := sts, txs := txs, r0 := d.r0 ++ [(gn, rn)], r1 := d.r1 ++ [(gp, rp)], fn := d.fn ++ [k] } W' ∧ Rows (CSt l) sts txs s 256 rn rp ∧ Adv (CSt l) (CEr l) s d.sts d.txs 257 sts txs ∧ txs[k]? = some t ∧ CEr l s t.data.toList ∧ Below B W W' ∧ Rw B cb l lv sm fm W' ∧ K26 W W'
section
variable {B kb cb : Nat} {l : List Ru} {lv : Value} {sm fm : Nat} {q0 : Kv} {d0 : Kq} {gn gp : Nat} {s : ByteArray} {i : Nat} {v : Value} {xs : List UInt8} {sv v3 : Value} {lg : Nat} {sts : List ByteArray} {txs : List ByteArray} {rn rp : List Int} {W W1 W' : World}
theorem LI.mid (h : LI B kb cb l lv sm fm q0 d0 gn gp s i v xs sv v3 lg sts txs rn rp W) (h1 : ∀ g, g < W.heap.size → g ≠ kb → g ≠ q0.nm → sv.ownBlock ≠ some g → W1.heap[g]? = W.heap[g]?) (z1 : W.heap.size ≤ W1.heap.size) : Buf B v xs W1 ∧ IRow W1 gn rn ∧ IRow W1 gp rp := by
  have off : ∀ {g : Nat} {cs : Array Value} {T : TypeId}, W.heap[g]? = some (.cells cs T (0, 0)) → T ≠ 103 → T ≠ 9 → W1.heap[g]? = W.heap[g]? := fun hg t1 t3 => by
    obtain ⟨o1, o2, o3⟩ := h.ki.offS hg t1 (.inl t3)
    exact h1 _ (Array.getElem?_eq_some_iff.1 hg).1 o1 o2 o3
  exact ⟨⟨own_keep h.bu.1 fun g eg => by
    obtain ⟨cs, hc⟩ := own_cells h.bu.1 eg
    exact off hc (by decide) (by decide), Nat.le_trans h.hb z1⟩, h.in0.keep (off h.in0 (by decide) (by decide)), h.in1.keep (off h.in1 (by decide) (by decide))⟩
theorem rows_kept {q : Kv} {d : Kq} {f0 f1 : Value} (k1 : KI B kb f0 f1 q d W1) (i0 : IRow W1 gn rn) (i1 : IRow W1 gp rp) (h2 : ∀ g, g < W1.heap.size → g ≠ kb → g ≠ q.tm → q.v3.ownBlock ≠ some g → W'.heap[g]? = W1.heap[g]?) : IRow W' gn rn ∧ IRow W' gp rp := by
  have off : ∀ {g : Nat} {cs : Array Value}, W1.heap[g]? = some (.cells cs 3 (0, 0)) → W'.heap[g]? = W1.heap[g]? := fun hg => by
    obtain ⟨p1, p2, p3⟩ := k1.offT hg (by decide) (by decide)
    exact h2 _ (Array.getElem?_eq_some_iff.1 hg).1 p1 p2 p3
  exact ⟨i0.keep (off i0), i1.keep (off i1)⟩
theorem carry {f0 f1 : Value} {q : Kv} {d : Kq} (k : KI B kb f0 f1 q d W) {u : Value} {e n : Nat} {l : List Value} (ho : W.ownsRow B e 1 u n l) (hh : ∀ g, g < W.heap.size → g ≠ kb → u.ownBlock ≠ some g → W'.heap[g]? = W.heap[g]?) {g : Nat} {cs : Array Value} {T : TypeId} (hg : W.heap[g]? = some (.cells cs T (0, 0))) (h1 : T ≠ 103) (h2 : T ≠ e) : W'.heap[g]? = W.heap[g]? :=
  hh g (Array.getElem?_eq_some_iff.1 hg).1 ((k.cells hg).2.2 h1) (fun e => ow.type ho hg h2 e.symm)
theorem carry_buf {f0 f1 : Value} {q : Kv} {d : Kq} (k : KI B kb f0 f1 q d W) {u : Value} {e n : Nat} {l : List Value} (ho : W.ownsRow B e 1 u n l) (hh : ∀ g, g < W.heap.size → g ≠ kb → u.ownBlock ≠ some g → W'.heap[g]? = W.heap[g]?) (hz : W.heap.size ≤ W'.heap.size) (he : e ≠ 5) {v : Value} {xs : List UInt8} (hb : Buf B v xs W) : Buf B v xs W' :=
  ⟨own_keep hb.1 fun g eg => by
    obtain ⟨cs, hc⟩ := own_cells hb.1 eg
    exact carry k ho hh hc (by decide) he.symm, Nat.le_trans hb.2 hz⟩
end
def SS (kb cb : Nat) (W : World) : Prop := W.cell? ⟨kb, 1, none⟩ = some (F1 cb)
section
variable {B kb cb : Nat} {q : Kv} {d : Kq} {w w' : World}
theorem SS.of (k : KI B kb (F0 cb) (F1 cb) q d w) : SS kb cb w := k.c1
theorem SS.box (hx : w.heap[kb]? = some (.cells (kcells (F0 cb) (F1 cb) q) 103 (0, 0))) : SS kb cb w := by
  show _ = _
  rw [Lib.cell_of_heap hx]; rfl
theorem SS.store (hx : w.heap[kb]? = some (.cells (kcells (F0 cb) (F1 cb) q) 103 (0, 0))) {u : Value} : SS kb cb (w.setCell ⟨kb, 8, none⟩ u) := by
  show _ = _
  rw [Lib.cell_of_heap (set_heap _ _ _ _ 8 _ hx)]; rfl
theorem text_below {f0 f1 : Value} (k : KI B kb f0 f1 q d w) (h1 : w'.os = w.os) (h2 : w'.tape = w.tape) (h3 : w'.output = w.output) (hz : w.heap.size ≤ w'.heap.size) (hh : ∀ g, g < w.heap.size → g ≠ kb → g ≠ q.tm → q.v3.ownBlock ≠ some g → w'.heap[g]? = w.heap[g]?) : Below B w w' :=
  ⟨h1, h2, h3, hz, fun g hg => hh g (Nat.lt_of_lt_of_le hg (Nat.le_trans k.bk (Nat.le_of_lt k.kl))) (fun e => by have := (k.fp (.inl e)).1; omega) (fun e => by have := (k.fp (.inr (.inr (.inl e)))).1; omega) (fun e => by have := (k.fp (.inr (.inr (.inr (.inr (.inr (.inr (.inr (.inl e))))))))).1; omega)⟩
end
section
variable {o : Oper} {a : Act} {w : World}
theorem x_load68 {x : Operand} {p : Addr} {v : Value} (h : o.op = .load 66 x) (hx : a.eval x = .pointer (some p)) (hc : w.cell? p = some v) : (execOp a.eval o).run Try.prog w = .ok (.value v) w := by
  unfold execOp; rw [h]; simp only [hx]; go_simp
theorem x_cut51 {x : Operand} {vg : Option Addr} {n vc : Nat} (h : o.op = .slice 51 x none (some (.const (.int .i64 0))) none) (hx : a.eval x = .slice vg n vc) : (execOp a.eval o).run Try.prog w = .ok (.value (.slice vg 0 vc)) w := by
  unfold execOp; rw [h]; simp only [hx]; go_simp
theorem x_build23 {x : Operand} {n : Int} (h : o.op = .buildSlice 23 1 #[(0, x)]) (hx : a.eval x = .int .i64 n) : (execOp a.eval o).run Try.prog w = .ok (.value (.slice (some ⟨w.heap.size, 0, none⟩) 1 1)) (w.alloc (.cells #[.int .i64 n] 3)) := by
  unfold execOp; rw [h]; simp [hx]; go_simp
theorem st_wp {x y : Operand} {p : Addr} {v0 : Value} {q : Option Addr} {n c : Nat} {R : Act → World → Prop} {Q : Exit → Act → World → Prop} (h : o.op = .store 23 x y) (hd : o.dst = none) (hx : a.eval x = .pointer (some p)) (hy : a.eval y = .slice q n c) (hc : w.cell? p = some v0) (hf : w.frozen? p = false) (hR : R a (w.setCell p (.slice q n c))) : Oper.wp Try.prog o a w R Q := by
  unfold Oper.wp execOp; rw [h]; simp only [hx, hy]; go_simp
  exact hR
end
section
variable {ops : Array Oper} {S : World → Prop} {op : Oper} {a : Act} {Q : Exit → Act → World → Prop} {fuel : Nat} {listed : Array Bool} {w : World} {R : Act → World → Prop}
theorem op_val (i k : Nat) {v : Value} {w' : World} (ho : ops[i]? = some op) (hd : op.dst = some k) (hw : Region.wanted op (yielded ops a.tmps) = true) (hx : (execOp a.eval op).run Try.prog w = .ok (.value v) w') (h : R (a.put (some k) v) w') : wpOp Try.prog ops Q i R a w := by
  unfold wpOp
  simp only [ho, hw, if_true]
  refine .inl ?_
  unfold Oper.wp
  rw [hx]
  simp only [Oper.upon]
  rw [hd]
  exact h
theorem op_call (i k : Nat) {f : FuncId} {args : Array Value} (ho : ops[i]? = some op) (hd : op.dst = some k) (hw : Region.wanted op (yielded ops a.tmps) = true) (hx : (execOp a.eval op).run Try.prog w = .ok (.enter f args) w)
    (hc : Calls Try.prog f args w fun e w' => ∃ v, e = .returned v ∧ R (a.put (some k) v) w') : wpOp Try.prog ops Q i R a w := by
  unfold wpOp
  simp only [ho, hw, if_true]
  refine .inl ?_
  unfold Oper.wp
  rw [hx]
  simp only [Oper.upon]
  refine hc.mono ?_
  rintro e w' ⟨v, rfl, h1⟩
  rw [hd]
  exact h1
theorem op_wp (i : Nat) (ho : ops[i]? = some op) (hw : Region.wanted op (yielded ops a.tmps) = true) (h : Oper.wp Try.prog op a w R Q) : wpOp Try.prog ops Q i R a w := by
  unfold wpOp
  simp only [ho, hw, if_true]
  exact .inl h
theorem one {i : Nat} (hr : Region.ready .any ops listed = [i]) (h : wpOp Try.prog ops Q i (fun a' w' => S w' ∧ wpAnyH Try.prog .any ops Q S fuel (listed.setIfInBounds i true) a' w') a w) : wpAnyH Try.prog .any ops Q S (fuel + 1) listed a w := by
  refine wpAnyH_all hr (by simp) (fun j hj => ?_)
  simp at hj
  subst hj
  exact h
theorem two {i j : Nat} (hr : Region.ready .any ops listed = [i, j]) (h : wpOp Try.prog ops Q i (fun a' w' => S w' ∧ wpAnyH Try.prog .any ops Q S fuel (listed.setIfInBounds i true) a' w') a w) (h' : wpOp Try.prog ops Q j (fun a' w' => S w' ∧ wpAnyH Try.prog .any ops Q S fuel (listed.setIfInBounds j true) a' w') a w) : wpAnyH Try.prog .any ops Q S (fuel + 1) listed a w := by
  refine wpAnyH_all hr (by simp) (fun l hl => ?_)
  simp at hl
  rcases hl with rfl | rfl
  · exact h
  · exact h'
end
def z256 : List Int := List.replicate 256 0
theorem z256_len : z256.length = 256 := List.length_replicate
theorem mk256 (W : World) : (Instr.makeSlice 23 (.int .i64 256) (.int .i64 256)).run Try.prog W = .ok (.slice (some ⟨W.heap.size, 0, none⟩) 256 256) (W.alloc (.cells (icells z256) 3)) := make23 256 (by omega) W
end Go.Proofs.Ytlmodfeiphffcaa.ms
