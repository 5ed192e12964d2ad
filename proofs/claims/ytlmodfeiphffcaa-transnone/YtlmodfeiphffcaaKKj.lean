/-
  Contracts over this program: a state is left (maker.leave).
-/
import Derived.Test.YtlmodfeiphffcaaM16
namespace Go.Proofs.Ytlmodfeiphffcaa.mk
open Go.ChangeShapes Go.WideShapes Go.ChangeAt Go.RowKit Go.Shelf Go.Maps
open tr
set_option linter.unusedVariables false
set_option linter.unusedSimpArgs false

def LvOut (B kb cb : Nat) (a b : Mc) (q : Kv) (d : Kq) (s : St) (W : World) (e : Ending) (W' : World) : Prop :=
  ∃ (sv v0 v1 v2 v3 : Value) (lg gn gp k : Nat) (sts : List St) (txs : List ByteArray) (rn rp : List Int) (t : ByteArray), e = .returned (.tuple #[]) ∧ KI B kb (F0 cb) (F1 cb) { q with sv := sv, v0 := v0, v1 := v1, v2 := v2, v3 := v3, lg := lg } { sts := sts, txs := txs, r0 := d.r0 ++ [(gn, rn)], r1 := d.r1 ++ [(gp, rp)], fn := d.fn ++ [k] } W' ∧ Rows (CSt a b) sts txs s 256 rn rp ∧ Adv (CSt a b) (CEr a b) s d.sts d.txs 257 sts txs ∧ txs[k]? = some t ∧ CEr a b s t.data.toList ∧ Below B W W'
section
variable {B kb cb : Nat} {a : Mc} {pa : Mp} {b : Mc} {pb : Mp} {q0 : Kv} {d0 : Kq} {g3 gn gp : Nat} {s : St} {i : Nat} {v : Value} {xs : List UInt8} {sv v3 : Value} {lg : Nat} {sts : List St} {txs : List ByteArray} {rn rp : List Int} {W W1 W' : World}
theorem LI.mid (h : LI B kb cb a pa b pb q0 d0 g3 gn gp s i v xs sv v3 lg sts txs rn rp W) (h1 : ∀ g, g < W.heap.size → g ≠ kb → g ≠ q0.nm → sv.ownBlock ≠ some g → W1.heap[g]? = W.heap[g]?) (z1 : W.heap.size ≤ W1.heap.size) : Buf B v xs W1 ∧ IRow W1 gn rn ∧ IRow W1 gp rp := by
  have off : ∀ {g : Nat} {cs : Array Value} {T : TypeId}, W.heap[g]? = some (.cells cs T (0, 0)) → T ≠ 113 → T ≠ 76 → W1.heap[g]? = W.heap[g]? := fun hg t1 t3 => by
    obtain ⟨o1, o2, o3⟩ := h.ki.offS hg t1 (.inl t3)
    exact h1 _ (Array.getElem?_eq_some_iff.1 hg).1 o1 o2 o3
  exact ⟨⟨own_keep h.bu.1 fun g eg => by
    obtain ⟨cs, hc⟩ := own_cells h.bu.1 eg
    exact off hc (by decide) (by decide), Nat.le_trans h.hb z1⟩, h.in0.keep (off h.in0 (by decide) (by decide)), h.in1.keep (off h.in1 (by decide) (by decide))⟩
theorem rows_kept {q : Kv} {d : Kq} {f0 f1 : Value} (k1 : KI B kb f0 f1 q d W1) (i0 : IRow W1 gn rn) (i1 : IRow W1 gp rp) (h2 : ∀ g, g < W1.heap.size → g ≠ kb → g ≠ q.tm → q.v3.ownBlock ≠ some g → W'.heap[g]? = W1.heap[g]?) : IRow W' gn rn ∧ IRow W' gp rp := by
  have off : ∀ {g : Nat} {cs : Array Value}, W1.heap[g]? = some (.cells cs 3 (0, 0)) → W'.heap[g]? = W1.heap[g]? := fun hg => by
    obtain ⟨p1, p2, p3⟩ := k1.offT hg (by decide) (by decide)
    exact h2 _ (Array.getElem?_eq_some_iff.1 hg).1 p1 p2 p3
  exact ⟨i0.keep (off i0), i1.keep (off i1)⟩
theorem carry {f0 f1 : Value} {q : Kv} {d : Kq} (k : KI B kb f0 f1 q d W) {u : Value} {e n : Nat} {l : List Value} (ho : W.ownsRow B e 1 u n l) (hh : ∀ g, g < W.heap.size → g ≠ kb → u.ownBlock ≠ some g → W'.heap[g]? = W.heap[g]?) {g : Nat} {cs : Array Value} {T : TypeId} (hg : W.heap[g]? = some (.cells cs T (0, 0))) (h1 : T ≠ 113) (h2 : T ≠ e) : W'.heap[g]? = W.heap[g]? :=
  hh g (Array.getElem?_eq_some_iff.1 hg).1 ((k.cells hg).2.2 h1) (fun e => ow.type ho hg h2 e.symm)
theorem carry_buf {f0 f1 : Value} {q : Kv} {d : Kq} (k : KI B kb f0 f1 q d W) {u : Value} {e n : Nat} {l : List Value} (ho : W.ownsRow B e 1 u n l) (hh : ∀ g, g < W.heap.size → g ≠ kb → u.ownBlock ≠ some g → W'.heap[g]? = W.heap[g]?) (hz : W.heap.size ≤ W'.heap.size) (he : e ≠ 5) {v : Value} {xs : List UInt8} (hb : Buf B v xs W) : Buf B v xs W' :=
  ⟨own_keep hb.1 fun g eg => by
    obtain ⟨cs, hc⟩ := own_cells hb.1 eg
    exact carry k ho hh hc (by decide) he.symm, Nat.le_trans hb.2 hz⟩
end
def SS (kb cb g3 : Nat) (s : St) (W : World) : Prop := W.cell? ⟨kb, 1, none⟩ = some (F1 cb) ∧ W.heap[g3]? = some (.cells #[.int .i64 (s.1 : Int), .int .i64 (s.2 : Int)] 76 (0, 0))
section
variable {B kb cb g3 : Nat} {s : St} {q : Kv} {d : Kq} {w w' : World}
theorem SS.buf (h : SS kb cb g3 s w) (k : KI B kb (F0 cb) (F1 cb) q d w) {u u' : Value} (hu : Buf B u [] w) (hG : Gr w u w' u') : SS kb cb g3 s w' :=
  ⟨(k.buf hu hG).c1, (hG.gr.block _ (Array.getElem?_eq_some_iff.1 h.2).1 (ow.type hu.1 h.2 (by decide))).trans h.2⟩
theorem SS.text {q' : Kv} {d' : Kq} (h : SS kb cb g3 s w) (k : KI B kb (F0 cb) (F1 cb) q d w) (k' : KI B kb (F0 cb) (F1 cb) q' d' w') (h10 : ∀ g, g < w.heap.size → g ≠ kb → g ≠ q.tm → q.v3.ownBlock ≠ some g → w'.heap[g]? = w.heap[g]?) : SS kb cb g3 s w' := by
  obtain ⟨p1, p2, p3⟩ := k.offT h.2 (by decide) (by decide)
  exact ⟨k'.c1, (h10 g3 (Array.getElem?_eq_some_iff.1 h.2).1 p1 p2 p3).trans h.2⟩
theorem SS.alloc (h : SS kb cb g3 s w) (k : KI B kb (F0 cb) (F1 cb) q d w) (o : Obj) : SS kb cb g3 s (w.alloc o) :=
  ⟨(k.later (below_alloc w o)).c1, ((below_alloc w o).block _ (Array.getElem?_eq_some_iff.1 h.2).1).trans h.2⟩
theorem SS.app (h : SS kb cb g3 s w) (k : KI B kb (F0 cb) (F1 cb) q d w) {u : Value} (hgr : (w.alloc (.cells #[u] 3)).grownBy w' q.v2.ownBlock) (hx : w'.heap[kb]? = some (.cells (kcells (F0 cb) (F1 cb) q) 113 (0, 0))) : SS kb cb g3 s w' := by
  have hl := (Array.getElem?_eq_some_iff.1 h.2).1
  refine ⟨by rw [Lib.cell_of_heap hx]; rfl, ?_⟩
  rw [hgr.block g3 (Nat.lt_of_lt_of_le hl (below_alloc w _).size) (fun e => ow.type k.o2 h.2 (by decide) e), (below_alloc w _).block g3 hl]
  exact h.2
theorem SS.store (h : SS kb cb g3 s w) (hx : w.heap[kb]? = some (.cells (kcells (F0 cb) (F1 cb) q) 113 (0, 0))) {u : Value} : SS kb cb g3 s (w.setCell ⟨kb, 8, none⟩ u) :=
  ⟨by rw [Lib.cell_of_heap (set_heap _ _ _ _ 8 _ hx)]; rfl, (Below.heap_setCell _ _ _ _ (show g3 ≠ kb from fun e => by
    subst e
    have := h.2
    rw [hx] at this
    injection this with this
    injection this with _ h _
    exact absurd h (by decide))).trans h.2⟩
theorem text_below {f0 f1 : Value} (k : KI B kb f0 f1 q d w) (h1 : w'.os = w.os) (h2 : w'.tape = w.tape) (h3 : w'.output = w.output) (hz : w.heap.size ≤ w'.heap.size) (hh : ∀ g, g < w.heap.size → g ≠ kb → g ≠ q.tm → q.v3.ownBlock ≠ some g → w'.heap[g]? = w.heap[g]?) : Below B w w' :=
  ⟨h1, h2, h3, hz, fun g hg => hh g (Nat.lt_of_lt_of_le hg (Nat.le_trans k.bk (Nat.le_of_lt k.kl))) (fun e => by have := (k.fp (.inl e)).1; omega) (fun e => by have := (k.fp (.inr (.inr (.inl e)))).1; omega) (fun e => by have := (k.fp (.inr (.inr (.inr (.inr (.inr (.inr (.inr (.inl e))))))))).1; omega)⟩
end
section
variable {o : Oper} {a : Act} {w : World}
theorem x_load78 {x : Operand} {p : Addr} {v : Value} (h : o.op = .load 78 x) (hx : a.eval x = .pointer (some p)) (hc : w.cell? p = some v) : (execOp a.eval o).run Try.prog w = .ok (.value v) w := by
  unfold execOp; rw [h]; simp only [hx]; go_simp
theorem x_load76 {x : Operand} {g : Nat} {u v : Value} (h : o.op = .load 76 x) (hx : a.eval x = .pointer (some ⟨g, 0, none⟩)) (hc : w.heap[g]? = some (.cells #[u, v] 76 (0, 0))) : (execOp a.eval o).run Try.prog w = .ok (.value (.agg #[u, v])) w := by
  have h0 : w.cell? ⟨g, 0, none⟩ = some u := by rw [Lib.cell_of_heap hc]; rfl
  have h1 : w.cell? ⟨g, 1, none⟩ = some v := by rw [Lib.cell_of_heap hc]; rfl
  unfold execOp; rw [h]; simp only [hx]; go_simp
theorem x_cut51 {x : Operand} {vg : Option Addr} {n vc : Nat} (h : o.op = .slice 51 x none (some (.const (.int .i64 0))) none) (hx : a.eval x = .slice vg n vc) : (execOp a.eval o).run Try.prog w = .ok (.value (.slice vg 0 vc)) w := by
  unfold execOp; rw [h]; simp only [hx]; go_simp
theorem x_build23 {x : Operand} {n : Int} (h : o.op = .buildSlice 23 1 #[(0, x)]) (hx : a.eval x = .int .i64 n) : (execOp a.eval o).run Try.prog w = .ok (.value (.slice (some ⟨w.heap.size, 0, none⟩) 1 1)) (w.alloc (.cells #[.int .i64 n] 3)) := by
  unfold execOp; rw [h]; simp [hx]; go_simp
theorem st_wp {x y : Operand} {p : Addr} {v0 : Value} {q : Option Addr} {n c : Nat} {R : Act → World → Prop} {Q : Exit → Act → World → Prop} (h : o.op = .store 23 x y) (hd : o.dst = none) (hx : a.eval x = .pointer (some p)) (hy : a.eval y = .slice q n c) (hc : w.cell? p = some v0) (hf : w.frozen? p = false) (hR : R a (w.setCell p (.slice q n c))) : Oper.wp Try.prog o a w R Q := by
  unfold Oper.wp execOp; rw [h]; simp only [hx, hy]; go_simp
  exact hR
end
section
variable {ops : Array Oper} {S : World → Prop} {op : Oper} {a : Act} {Q : Exit → Act → World → Prop} {fuel : Nat} {listed : Array Bool} {w : World} {R : Act → World → Prop}
theorem op_val (i k : Nat) {v : Value} {w' : World} (ho : ops[i]? = some op) (hd : op.dst = some k) (hw : Region.wanted op (yielded ops a.tmps) = true) (hx : (execOp a.eval op).run Try.prog w = .ok (.value v) w') (h : R (a.put (some k) v) w') : wpOp Try.prog ops Q i R a w := by
  unfold wpOp
  simp only [ho, hw, if_true]
  refine .inl ?_
  unfold Oper.wp
  rw [hx]
  simp only [Oper.upon]
  rw [hd]
  exact h
theorem op_call (i k : Nat) {f : FuncId} {args : Array Value} (ho : ops[i]? = some op) (hd : op.dst = some k) (hw : Region.wanted op (yielded ops a.tmps) = true) (hx : (execOp a.eval op).run Try.prog w = .ok (.enter f args) w)
    (hc : Calls Try.prog f args w fun e w' => ∃ v, e = .returned v ∧ R (a.put (some k) v) w') : wpOp Try.prog ops Q i R a w := by
  unfold wpOp
  simp only [ho, hw, if_true]
  refine .inl ?_
  unfold Oper.wp
  rw [hx]
  simp only [Oper.upon]
  refine hc.mono ?_
  rintro e w' ⟨v, rfl, h1⟩
  rw [hd]
  exact h1
theorem op_wp (i : Nat) (ho : ops[i]? = some op) (hw : Region.wanted op (yielded ops a.tmps) = true) (h : Oper.wp Try.prog op a w R Q) : wpOp Try.prog ops Q i R a w := by
  unfold wpOp
  simp only [ho, hw, if_true]
  exact .inl h
theorem one {i : Nat} (hr : Region.ready .any ops listed = [i]) (h : wpOp Try.prog ops Q i (fun a' w' => S w' ∧ wpAnyH Try.prog .any ops Q S fuel (listed.setIfInBounds i true) a' w') a w) : wpAnyH Try.prog .any ops Q S (fuel + 1) listed a w := by
  refine wpAnyH_all hr (by simp) (fun j hj => ?_)
  simp at hj
  subst hj
  exact h
theorem two {i j : Nat} (hr : Region.ready .any ops listed = [i, j]) (h : wpOp Try.prog ops Q i (fun a' w' => S w' ∧ wpAnyH Try.prog .any ops Q S fuel (listed.setIfInBounds i true) a' w') a w) (h' : wpOp Try.prog ops Q j (fun a' w' => S w' ∧ wpAnyH Try.prog .any ops Q S fuel (listed.setIfInBounds j true) a' w') a w) : wpAnyH Try.prog .any ops Q S (fuel + 1) listed a w := by
  refine wpAnyH_all hr (by simp) (fun l hl => ?_)
  simp at hl
  rcases hl with rfl | rfl
  · exact h
  · exact h'
end
def z256 : List Int := List.replicate 256 0
theorem z256_len : z256.length = 256 := List.length_replicate
theorem mk256 (W : World) : (Instr.makeSlice 23 (.int .i64 256) (.int .i64 256)).run Try.prog W = .ok (.slice (some ⟨W.heap.size, 0, none⟩) 256 256) (W.alloc (.cells (icells z256) 3)) := make23 256 (by omega) W
theorem zero76 : ∀ w, (zeroValue 76).run Try.prog w = .ok (.agg #[.int .i64 0, .int .i64 0]) w := fun w => by kernel_rfl
set_option maxHeartbeats 8000000 in
set_option maxRecDepth 100000 in
theorem leave_any {a b : Mc} (hA : Right a) (hB : Right b) {B kb cb : Nat} {pa pb : Mp} {q : Kv} {d : Kq} {W : World} (hC : Cn B W cb a pa b pb) (k : KI B kb (F0 cb) (F1 cb) q d W) (s : St) (hs1 : s.1 < a.next.length) (hs2 : s.2 < b.next.length) (hn : d.sts.length ≤ 400000) (ht : d.txs.length ≤ 400000) (hr : d.r0.length ≤ 400000 ∧ d.r1.length ≤ 400000 ∧ d.fn.length ≤ 400000) (hBW : B ≤ W.heap.size) :
    Calls Try.prog 59 #[.pointer (some ⟨kb, 0, none⟩), .agg #[.int .i64 (s.1 : Int), .int .i64 (s.2 : Int)]] W (LvOut B kb cb a b q d s W) := by
  obtain ⟨wA, HWA⟩ : ∃ wA, Hid (wA = W.alloc (.cells #[.int .i64 (s.1 : Int), .int .i64 (s.2 : Int)] 76)) := ⟨_, rfl⟩
  have B0 : Below W.heap.size W wA := by rw [HWA.out]; exact below_alloc W _
  have hA3 : wA.heap[W.heap.size]? = some (.cells #[.int .i64 (s.1 : Int), .int .i64 (s.2 : Int)] 76 (0, 0)) := by rw [HWA.out]; exact heap_alloc_new W _
  have hszA : wA.heap.size = W.heap.size + 1 := by rw [HWA.out]; simp
  have mk := mk256
  have hWl := (Array.getElem?_eq_some_iff.1 hA3).1
  obtain ⟨w0, HW0⟩ : ∃ w0, Hid (w0 = ((wA.alloc (.cells (icells z256) 3)).alloc (.cells (icells z256) 3)).drew) := ⟨_, rfl⟩
  have B1 : Below wA.heap.size wA w0 := by rw [HW0.out]; exact (chain (below_alloc wA _) (below_alloc _ _)).drew
  have HLI : Hid (∀ gn gp, (gn = W.heap.size + 1 ∧ gp = W.heap.size + 1 + 1 ∨ gn = W.heap.size + 1 + 1 ∧ gp = W.heap.size + 1) → LI B kb cb a pa b pb q d W.heap.size gn gp s 0 (.slice none 0 0) [] q.sv q.v3 q.lg d.sts d.txs z256 z256 w0) := fun gn gp hg => by
    have kA := k.later (chain B0 B1)
    have i1 : IRow w0 wA.heap.size z256 := by
      rw [HW0.out]
      exact (irow_new wA z256).keep (Below.heap_alloc _ _ _ (by rw [World.size_alloc]; omega))
    have i2 : IRow w0 (wA.heap.size + 1) z256 := by
      rw [HW0.out]
      have := irow_new (wA.alloc (.cells (icells z256) 3)) z256
      rw [World.size_alloc] at this
      exact this
    have fresh : ∀ g, W.heap.size ≤ g → q.v2.ownBlock ≠ some g ∧ ∀ x ∈ d.r0 ++ d.r1, x.1 ≠ g := fun g hg => ⟨fun e => by have := (k.fp (.inr (.inr (.inr (.inr (.inr (.inr (.inl e)))))))).2; omega, fun x hx e => by have := (k.fp (.inr (.inr (.inr (.inr (.inr (.inr (.inr (.inr ⟨x, hx, rfl⟩))))))))).2; omega⟩
    have hi : IRow w0 gn z256 ∧ IRow w0 gp z256 ∧ gn ≠ gp ∧ W.heap.size ≤ gn ∧ W.heap.size ≤ gp := by
      rw [hszA] at i1 i2
      rcases hg with ⟨rfl, rfl⟩ | ⟨rfl, rfl⟩
      · exact ⟨i1, i2, by omega, by omega, by omega⟩
      · exact ⟨i2, i1, by omega, by omega, by omega⟩
    exact ⟨hC.low ((chain B0 B1).mono hBW), kA, ⟨World.ownsRow_nil _ _ _ _, Nat.le_trans hBW (Nat.le_trans B0.size B1.size)⟩, (B1.block _ hWl).trans hA3, fun e => by have := (k.fp (.inr (.inr (.inr (.inl e))))).2; omega, hi.1, hi.2.1, hi.2.2.1, fresh gn hi.2.2.2.1, fresh gp hi.2.2.2.2, by omega, by omega, ⟨z256_len, z256_len, fun c hc => by omega⟩, Adv.refl⟩
  have HB0 := (show Hid (Below B W w0) from (chain B0 B1).mono hBW)
  have HST := (show Hid (∀ c v W', Cn B W' cb a pa b pb → Buf B v [] W' → Calls Try.prog 40 #[.pointer (some ⟨cb, 0, none⟩), v, .agg #[.int .i64 (s.1 : Int), .int .i64 (s.2 : Int)], .int .u8 ((c : UInt8).toNat : Int)] W' (StepOut B a b s.1 s.2 c v W')) from fun c v W' h1 h2 => cstep_any a b hA hB s.1 s.2 hs1 hs2 c B cb pa pb v W' h1 h2)
  have HEN := (show Hid (∀ v W', Cn B W' cb a pa b pb → Buf B v [] W' → Calls Try.prog 41 #[.pointer (some ⟨cb, 0, none⟩), v, .agg #[.int .i64 (s.1 : Int), .int .i64 (s.2 : Int)]] W' (EndOut B a b s.1 s.2 v W')) from fun v W' h1 h2 => cend_any a b hA hB s.1 s.2 hs1 hs2 B cb pa pb v W' h1 h2)
  have hz := zero76
  have hna := hA.most
  have hnb := hB.most
  have HNX := (show Hid (∀ c : UInt8, nx a s.1 c.toNat < a.next.length) from fun c => hA.nx_lt hs1 c.toNat_lt)
  clear hC k B0 B1 hA3
  go_enter Try.func59, Try.ntmps59
  go_wp2_with (fail)
  rw [← HWA.out]
  clear HWA
  go_region_law (fail)
  have HLa := (show Hid _ from HLI.out (W.heap.size + 1) (W.heap.size + 1 + 1) (.inl ⟨rfl, rfl⟩))
  clear HLI hszA
  generalize W.heap.size + 1 + 1 = gp at *
  generalize W.heap.size + 1 = gn at *
  rotate_left
  have HLa := (show Hid _ from HLI.out (W.heap.size + 1 + 1) (W.heap.size + 1) (.inr ⟨rfl, rfl⟩))
  clear HLI hszA
  generalize W.heap.size + 1 + 1 = gn at *
  generalize W.heap.size + 1 = gp at *
  rotate_left
  all_goals
    rw [← HW0.out]
    clear HW0 mk
    go_wp2_with (fail)
    go_loopw [6, 11] (fun o x wr => ∃ (i : Nat) (xs : List UInt8) (sv v3 : Value) (lg : Nat) (sts : List St) (txs : List ByteArray) (rn rp : List Int), x = .int .i64 i ∧ i ≤ 256 ∧ Hid (LI B kb cb a pa b pb q d W.heap.size gn gp s i o xs sv v3 lg sts txs rn rp wr) ∧ Hid (Below B W wr)) (fun _ x _ => 256 - (intOf x).toNat)
    case atStart => exact ⟨0, [], q.sv, q.v3, q.lg, d.sts, d.txs, z256, z256, rfl, by omega, HLa, HB0⟩
    case round =>
      obtain ⟨i, xs, sv, v3, lg, sts, txs, rn, rp, rfl, hi, HL, HBL⟩ := hrel
      clear HLa HB0
      have hsl : sts.length ≤ 500000 := by have := HL.out.adv.ll; omega
      have htl : txs.length ≤ 500000 := by have := HL.out.adv.ln; omega
      obtain ⟨vg, vc, hv, vb1, vb2⟩ := HL.out.bu.form
      subst hv
      by_cases hend : i < 256
      · have hu := u8_nat i hend
        have hci := of_nat i hend
        -- the fresh cell
        have hB8 := below_alloc wr (.cells #[.int .i64 0, .int .i64 0] 76)
        have HL8 := (show Hid _ from HL.out.later hB8)
        have h8 := heap_alloc_new wr (.cells #[.int .i64 0, .int .i64 0] 76)
        have hF8 := (show Hid (¬ Fp kb { q with sv := sv, v3 := v3, lg := lg } { d with sts := sts, txs := txs } wr.heap.size) from fun h => by have := (HL.out.ki.fp h).2; omega)
        have hB3 : B ≤ wr.heap.size := HL.out.hb
        have hg38 : W.heap.size ≠ wr.heap.size := by have := (Array.getElem?_eq_some_iff.1 HL.out.c3).1; omega
        have HV : Hid (∀ g, (Value.slice vg xs.length vc).ownBlock = some g → g ≠ wr.heap.size) := fun g eg => by have := (HL.out.bu.1.lt g eg).2; omega
        clear HL
        obtain ⟨w8, HW8⟩ : ∃ w8, Hid (w8 = wr.alloc (.cells #[.int .i64 0, .int .i64 0] 76)) := ⟨_, rfl⟩
        go_wp2_with (fail)
        rw [← HW8.out] at HL8 h8 hB8 ⊢
        have HB8 := (show Hid (Below B W w8) from HBL.out.trans (hB8.mono hB3))
        generalize hg8 : wr.heap.size = g8 at *
        clear HW8 hB8 hg8 HBL
        have c0 := HL8.out.ki.c0
        have a30 : w8.cell? ⟨W.heap.size, 0, none⟩ = some (.int .i64 (s.1 : Int)) := by rw [Lib.cell_of_heap HL8.out.c3]; rfl
        have a31 : w8.cell? ⟨W.heap.size, 1, none⟩ = some (.int .i64 (s.2 : Int)) := by rw [Lib.cell_of_heap HL8.out.c3]; rfl
        have HCUT : Hid (Buf B (.slice vg 0 vc) [] w8) := Buf.cut HL8.out.bu 0 (by omega)
        have c42 := HST.out (UInt8.ofNat i) (.slice vg 0 vc) w8.drew (HL8.out.cn.low (Below.refl _ _).drew) HCUT.out.drew
        rw [hci] at c42
        have l8 := (Array.getElem?_eq_some_iff.1 h8).1
        have HG8 := (show Hid (∀ w9 v', Gr w8 (.slice vg 0 vc) w9 v' → w9.heap[g8]? = some (.cells #[.int .i64 0, .int .i64 0] 76 (0, 0))) from fun w9 v' hG => (hG.gr.block g8 l8 (ow.type HCUT.out.1 h8 (by decide))).trans h8)
        have e8 := h8
        clear l8
        go_region_law (go_wp2_with (go_at_call 40; refine c42.mono ?_; rintro e w9 ⟨v', o, y', rfl, hb9, hG9, hy', hol, hgo⟩; have hG9 := hG9.undrew; have r9 := HG8.out w9 _ hG9; have s1 : w9.cell? ⟨g8, 0, none⟩ = some (.int .i64 0) := by { rw [Lib.cell_of_heap r9]; rfl }; have s2 : w9.cell? ⟨g8, 1, none⟩ = some (.int .i64 0) := by { rw [Lib.cell_of_heap r9]; rfl }; have s3 : w9.frozen? ⟨g8, 0, none⟩ = false := Lib.frozen_of_heap r9 0; have s4 : w9.frozen? ⟨g8, 1, none⟩ = false := Lib.frozen_of_heap r9 1))
        all_goals
          obtain ⟨vg9, vc9, hv9, v19, v29⟩ := hb9.form
          subst hv9
          have HCS : Hid (CSt a b s (UInt8.ofNat i) o (nx a s.1 i, y')) := ⟨by rw [hci], hy', hgo⟩
          have HL10 := (show Hid _ from ((HL8.out.step HCUT.out hG9 hb9).set8 r9 hB3 hF8.out hg38 0 (.int .i64 ((nx a s.1 i : Nat) : Int))).set8 (set_heap _ _ _ _ 0 _ r9) hB3 hF8.out hg38 1 (.int .i64 ((y' : Nat) : Int)))
          have r10 := two_set (u := .int .i64 ((nx a s.1 i : Nat) : Int)) (v := .int .i64 ((y' : Nat) : Int)) r9
          have HB10 := (show Hid (Below B W ((w9.setCell ⟨g8, 0, none⟩ (.int .i64 ((nx a s.1 i : Nat) : Int))).setCell ⟨g8, 1, none⟩ (.int .i64 ((y' : Nat) : Int)))) from ((HB8.out.trans (hG9.below HCUT.out)).setCell (p := ⟨g8, 0, none⟩) hB3 _).setCell (p := ⟨g8, 1, none⟩) hB3 _)
          have hnx := HNX.out (UInt8.ofNat i)
          rw [hci] at hnx
          have hok : OkS (nx a s.1 i, y') := ⟨by show nx a s.1 i ≤ _; omega, by show y' ≤ _; omega⟩
          clear HG8 c42 hG9 hb9 hgo HL8 HB8 HCUT s1 s2 s3 s4 r9 e8 h8 c0 a30 a31
          generalize (w9.setCell ⟨g8, 0, none⟩ (.int .i64 ((nx a s.1 i : Nat) : Int))).setCell ⟨g8, 1, none⟩ (.int .i64 ((y' : Nat) : Int)) = w10 at *
          have m0 : w10.cell? ⟨g8, 0, none⟩ = some (.int .i64 ((nx a s.1 i : Nat) : Int)) := by rw [Lib.cell_of_heap r10]; rfl
          have m1 : w10.cell? ⟨g8, 1, none⟩ = some (.int .i64 ((y' : Nat) : Int)) := by rw [Lib.cell_of_heap r10]; rfl
          have c60 := state_any HL10.out.ki (nx a s.1 i, y') hok (by show sts.length ≤ _; omega)
          generalize nx a s.1 i = xx at *
          go_wp2_with (fail)
          go_at_call 58
          refine c60.mono ?_
          rintro e w11 ⟨n, sv', sts', rfl, e1, e2, k1, z1, os1, tp1, ou1, h1, hw1⟩
          obtain ⟨bu11, i011, i111⟩ := HL10.out.mid h1 z1
          have c73 := put_any k1 bu11 (by omega) (by show txs.length ≤ _; omega) (UInt8.ofNat i)
          rw [hci] at c73
          have HE1 := (show Hid _ from e1)
          have HE2 := (show Hid _ from e2)
          have HK1 := (show Hid _ from k1)
          have HH1 := (show Hid _ from h1)
          have HW1 := (show Hid _ from hw1)
          have HI0 := (show Hid _ from i011)
          have HI1 := (show Hid _ from i111)
          have hnl : n < sts'.length := (List.getElem?_eq_some_iff.1 e1).1
          clear e1 e2 k1 h1 hw1 c60 bu11 i011 i111
          go_wp2_with (fail)
          go_at_call 71
          refine c73.mono ?_
          rintro e w12 ⟨k, odd, t, v3', lg', txs', rfl, e5, e3, e4, k2, z2, os2, tp2, ou2, h2, hw2⟩
          obtain ⟨i012, i112⟩ := rows_kept HK1.out HI0.out HI1.out h2
          have hB12 : Below B w10 w12 := ⟨os2.trans os1, tp2.trans tp1, ou2.trans ou1, Nat.le_trans z1 z2, fun g hg => by
            have f1 : ∀ g', Fp kb { q with sv := sv, v3 := v3, lg := lg } { d with sts := sts, txs := txs } g' → B ≤ g' := fun g' hf => (HL10.out.ki.fp hf).1
            have f2 : ∀ g', Fp kb { q with sv := sv', v3 := v3, lg := lg } { d with sts := sts', txs := txs } g' → B ≤ g' := fun g' hf => (HK1.out.fp hf).1
            have g10 : g < w10.heap.size := Nat.lt_of_lt_of_le hg HL10.out.hb
            rw [h2 g (Nat.lt_of_lt_of_le g10 z1) (fun e => by have := f1 g (.inl e); omega) (fun e => by have := f1 g (.inr (.inr (.inl e))); omega) (fun e => by have := f2 g (.inr (.inr (.inr (.inr (.inr (.inr (.inr (.inl e)))))))); omega), HH1.out g g10 (fun e => by have := f1 g (.inl e); omega) (fun e => by have := f1 g (.inr (.inl e)); omega) (fun e => by have := f1 g (.inr (.inr (.inr (.inl e)))); omega)]⟩
          have HLN := (show Hid _ from HL10.out.nums HK1.out k2 HE1.out HE2.out e3 e4 HH1.out h2 z1 z2 HW1.out hB12 hend HCS.out e5)
          have HBN := (show Hid _ from HB10.out.trans hB12)
          have hrn := HL10.out.rows.1
          have hrp := HL10.out.rows.2.1
          have y0 := i012.cell i (by omega)
          have y1 := i112.cell i (by omega)
          have z0' := i012.fz i
          have z1' := i112.fz i
          have hb0 := HL10.out.b0
          have hb1 := HL10.out.b1
          have hne := HL10.out.ne
          clear HK1 HE1 HE2 HH1 HW1 HI0 HI1 k2 e3 e4 h2 hw2 c73 hB12 HL10 HB10 i012 i112 r10 m0 m1 e5
          generalize hpp : 2 * k + odd.toNat = pp at *
          clear hpp
          go_wp2_with (fail)
          go_roundw
          case rel => exact ⟨i + 1, o, sv', v3', lg', sts', txs', _, _, by go_num, by omega, HLN, (HBN.out.setCell (p := ⟨gn, i, none⟩) hb0 _).setCell (p := ⟨gp, i, none⟩) hb1 _⟩
          case measure => simp [intOf]; omega
      · obtain rfl : i = 256 := by omega
        have hif : ¬ (256 : Nat) < 256 := by omega
        obtain ⟨g0, cc0, hv0, _, _⟩ := ow.form HL.out.ki.o0
        obtain ⟨g1, cc1, hv1, _, _⟩ := ow.form HL.out.ki.o1
        obtain ⟨g2, cc2, hv2, _, _⟩ := ow.form HL.out.ki.o2
        have hv0' : q.v0 = .slice g0 d.r0.length cc0 := hv0
        have hv1' : q.v1 = .slice g1 d.r1.length cc1 := hv1
        have hv2' : q.v2 = .slice g2 d.fn.length cc2 := hv2
        have c6 : wr.cell? ⟨kb, 6, none⟩ = some (.slice g0 d.r0.length cc0) := by rw [← hv0']; exact HL.out.ki.c6
        have HO := (show Hid ((wr.alloc (.cells #[.slice (some ⟨gn, 0, none⟩) 256 256] 23)).ownsRow B 23 1 (.slice g0 d.r0.length cc0) d.r0.length (rcs d.r0)) from by rw [← hv0']; exact ow.later HL.out.ki.o0 (below_alloc wr _))
        have HN2 := (show Hid _ from ow.new1 wr (.slice (some ⟨gn, 0, none⟩) 256 256) 23)
        have hBw : B ≤ (wr.alloc (.cells #[.slice (some ⟨gn, 0, none⟩) 256 256] 23)).heap.size := Nat.le_trans HL.out.hb (below_alloc wr _).size
        go_wp2_with (first | (at_builtin; refine ow.wpList_append (by rfl) (.tmp 48) (.tmp 50) 22 (by rfl) 23 (.slice none 0 0) 1 24 Try.underlying22 info23 (by rfl) (by decide) (by decide) B (.slice g0 d.r0.length cc0) d.r0.length (rcs d.r0) wr.heap.size [.slice (some ⟨gn, 0, none⟩) 256 256] (by rfl) (by rfl) (by exact HO.out) (by rfl) (by exact HN2.out) (by exact ow.one1 _ rfl) (by omega) (by exact hBw) ?_; intro g' cap' w3 ho hgr hw3; obtain ⟨x3, hh3, ho3, hwh3, hb3⟩ := pushed (j := 6) HL.out.ki (e := 23) (v := q.v0) (n := d.r0.length) HL.out.ki.o0 (by decide) ho (by rw [hv0']; exact hgr) (by rw [hv0']; exact hw3); have y7 : w3.cell? ⟨kb, 7, none⟩ = some (.slice g1 d.r1.length cc1) := by { rw [Lib.cell_of_heap x3, ← hv1']; rfl }; have y6 : w3.cell? ⟨kb, 6, none⟩ = some (.slice g0 d.r0.length cc0) := by { rw [Lib.cell_of_heap x3, ← hv0']; rfl }; have z6 : w3.frozen? ⟨kb, 6, none⟩ = false := Lib.frozen_of_heap x3 6; have K4 := (show Hid _ from HL.out.ki.push0 HL.out.in0 HL.out.b0 HL.out.o0.1 hh3 (by { rw [set_heap _ _ _ _ 6 _ x3]; rfl }) (by { rw [List.length_append]; rw [show rcs (d.r0 ++ [(gn, rn)]) = rcs d.r0 ++ [.slice (some ⟨gn, 0, none⟩) 256 256] from by simp [rcs]]; exact ho3 }) hwh3); have HO4 := (show Hid (((w3.setCell ⟨kb, 6, none⟩ (.slice (some ⟨g', 0, none⟩) (d.r0.length + 1) cap')).alloc (.cells #[.slice (some ⟨gp, 0, none⟩) 256 256] 23)).ownsRow B 23 1 (.slice g1 d.r1.length cc1) d.r1.length (rcs d.r1)) from by { rw [← hv1']; exact ow.later K4.out.o1 (below_alloc _ _) }); have HN4 := (show Hid (∀ j x, [Value.slice (some ⟨gp, 0, none⟩) 256 256][j]? = some x → ((w3.setCell ⟨kb, 6, none⟩ (.slice (some ⟨g', 0, none⟩) (d.r0.length + 1) cap')).alloc (.cells #[.slice (some ⟨gp, 0, none⟩) 256 256] 23)).cell? ((⟨w3.heap.size, 0, none⟩ : Addr).add j) = some x) from by { have h := ow.new1 (w3.setCell ⟨kb, 6, none⟩ (.slice (some ⟨g', 0, none⟩) (d.r0.length + 1) cap')) (.slice (some ⟨gp, 0, none⟩) 256 256) 23; rw [World.size_setCell] at h; exact h }); have hB4 : B ≤ ((w3.setCell ⟨kb, 6, none⟩ (.slice (some ⟨g', 0, none⟩) (d.r0.length + 1) cap')).alloc (.cells #[.slice (some ⟨gp, 0, none⟩) 256 256] 23)).heap.size := Nat.le_trans (Nat.le_trans K4.out.bk (Nat.le_of_lt K4.out.kl)) (below_alloc _ _).size; clear ho hgr hw3) | (at_builtin; refine ow.wpList_append (by rfl) (.tmp 60) (.tmp 62) 22 (by rfl) 23 (.slice none 0 0) 1 24 Try.underlying22 info23 (by rfl) (by decide) (by decide) B (.slice g1 d.r1.length cc1) d.r1.length (rcs d.r1) _ [.slice (some ⟨gp, 0, none⟩) 256 256] (by rfl) (by rfl) (by exact HO4.out) (by rfl) (by exact HN4.out) (by exact ow.one1 _ rfl) (by omega) (by exact hB4) ?_; intro g5 cap5 w5 ho hgr hw5; obtain ⟨x5, hh5, ho5, hwh5, hb5⟩ := pushed (j := 7) K4.out (e := 23) (v := q.v1) (n := d.r1.length) K4.out.o1 (by decide) ho (by rw [hv1']; exact hgr) (by rw [hv1']; exact hw5); have y7 : w5.cell? ⟨kb, 7, none⟩ = some (.slice g1 d.r1.length cc1) := by { rw [Lib.cell_of_heap x5, ← hv1']; rfl }; have z7 : w5.frozen? ⟨kb, 7, none⟩ = false := Lib.frozen_of_heap x5 7))
        have hh5' := hh5
        have K6 := (show Hid _ from K4.out.push1 (HL.out.in1.keep (carry HL.out.ki HL.out.ki.o0 hh3 HL.out.in1 (by decide) (by decide))) HL.out.b1 HL.out.o1.1 hh5 (by rw [set_heap _ _ _ _ 7 _ x5]; rfl) (by rw [List.length_append]; rw [show rcs (d.r1 ++ [(gp, rp)]) = rcs d.r1 ++ [.slice (some ⟨gp, 0, none⟩) 256 256] from by simp [rcs]]; exact ho5) hwh5)
        have HBU := (show Hid _ from carry_buf K4.out K4.out.o1 hh5 hb5.size (by decide) (carry_buf HL.out.ki HL.out.ki.o0 hh3 hb3.size (by decide) HL.out.bu))
        have c34 := (carry HL.out.ki HL.out.ki.o0 hh3 HL.out.c3 (by decide) (by decide)).trans HL.out.c3
        have c36 := (carry K4.out K4.out.o1 hh5 c34 (by decide) (by decide)).trans c34
        have HCN := (show Hid _ from HL.out.cn.low (hb3.trans hb5))
        have HB6 := (show Hid _ from HBL.out.trans (hb3.trans hb5))
        have HRW := (show Hid _ from HL.out.rows)
        have HAD := (show Hid _ from HL.out.adv)
        clear hh5' hh3 hh5 ho3 ho5 hwh3 hwh5 hb3 hb5 x3 x5 y6 y7 z6 z7 HL HBL HO HO4 HN2 HN4 hBw hB4 c6 K4 c34 ho hgr hw5
        generalize w5.setCell ⟨kb, 7, none⟩ (.slice (some ⟨g5, 0, none⟩) (d.r1.length + 1) cap5) = w6 at *
        generalize Value.slice (some ⟨g', 0, none⟩) (d.r0.length + 1) cap' = v0n at *
        generalize Value.slice (some ⟨g5, 0, none⟩) (d.r1.length + 1) cap5 = v1n at *
        have c8 : w6.cell? ⟨kb, 8, none⟩ = some (.slice g2 d.fn.length cc2) := by rw [← hv2']; exact K6.out.c8
        have c1 := K6.out.c1
        have a30 : w6.cell? ⟨W.heap.size, 0, none⟩ = some (.int .i64 (s.1 : Int)) := by rw [Lib.cell_of_heap c36]; rfl
        have a31 : w6.cell? ⟨W.heap.size, 1, none⟩ = some (.int .i64 (s.2 : Int)) := by rw [Lib.cell_of_heap c36]; rfl
        have HCUT : Hid (Buf B (.slice vg 0 vc) [] w6) := Buf.cut HBU.out 0 (by omega)
        have c43 := HEN.out (.slice vg 0 vc) w6.drew (HCN.out.low (Below.refl _ _).drew) HCUT.out.drew
        clear HBU hv0 hv1 hv2 hv0' hv1' hend hif
        refine wp_region_held (S := SS kb cb W.heap.size s) (by kernel_rfl) ?_
        have hS0 : SS kb cb W.heap.size s w6.drew := ⟨c1, c36⟩
        refine rg.take_op (i := 0) 67 (v := (.pointer (some ⟨kb, 0, none⟩))) rfl rfl (rg.yields_run (by kernel_rfl) (fun W h => by kernel_rfl)) (by kernel_rfl) (by kernel_rfl) (by kernel_rfl) (fun _ _ _ h => h) hS0 ?_
        simp only [Act.put, List.setIfInBounds_toArray, List.set_cons_zero, List.set_cons_succ]
        refine rg.take_op (i := 1) 68 (v := (.pointer (some ⟨kb, 0, none⟩))) rfl rfl (rg.yields_run (by kernel_rfl) (fun W h => by kernel_rfl)) (by kernel_rfl) (by kernel_rfl) (by kernel_rfl) (fun _ _ _ h => h) hS0 ?_
        simp only [Act.put, List.setIfInBounds_toArray, List.set_cons_zero, List.set_cons_succ]
        refine rg.take_op (i := 2) 69 (v := (.pointer (some ⟨kb, 0, none⟩))) rfl rfl (rg.yields_run (by kernel_rfl) (fun W h => by kernel_rfl)) (by kernel_rfl) (by kernel_rfl) (by kernel_rfl) (fun _ _ _ h => h) hS0 ?_
        simp only [Act.put, List.setIfInBounds_toArray, List.set_cons_zero, List.set_cons_succ]
        refine rg.take_op (i := 3) 70 (v := (.pointer (some ⟨kb, 6, none⟩))) rfl rfl (rg.yields_run (by kernel_rfl) (fun W h => by kernel_rfl)) (by kernel_rfl) (by kernel_rfl) (by kernel_rfl) (fun _ _ _ h => h) hS0 ?_
        simp only [Act.put, List.setIfInBounds_toArray, List.set_cons_zero, List.set_cons_succ]
        refine rg.take_op (i := 4) 71 (v := (.pointer (some ⟨kb, 8, none⟩))) rfl rfl (rg.yields_run (by kernel_rfl) (fun W h => by kernel_rfl)) (by kernel_rfl) (by kernel_rfl) (by kernel_rfl) (fun _ _ _ h => h) hS0 ?_
        simp only [Act.put, List.setIfInBounds_toArray, List.set_cons_zero, List.set_cons_succ]
        refine rg.take_op (i := 6) 73 (v := (.pointer (some ⟨kb, 0, none⟩))) rfl rfl (rg.yields_run (by kernel_rfl) (fun W h => by kernel_rfl)) (by kernel_rfl) (by kernel_rfl) (by kernel_rfl) (fun _ _ _ h => h) hS0 ?_
        simp only [Act.put, List.setIfInBounds_toArray, List.set_cons_zero, List.set_cons_succ]
        refine rg.take_op (i := 7) 74 (v := (.pointer (some ⟨kb, 0, none⟩))) rfl rfl (rg.yields_run (by kernel_rfl) (fun W h => by kernel_rfl)) (by kernel_rfl) (by kernel_rfl) (by kernel_rfl) (fun _ _ _ h => h) hS0 ?_
        simp only [Act.put, List.setIfInBounds_toArray, List.set_cons_zero, List.set_cons_succ]
        refine rg.take_op (i := 8) 75 (v := (.pointer (some ⟨kb, 0, none⟩))) rfl rfl (rg.yields_run (by kernel_rfl) (fun W h => by kernel_rfl)) (by kernel_rfl) (by kernel_rfl) (by kernel_rfl) (fun _ _ _ h => h) hS0 ?_
        simp only [Act.put, List.setIfInBounds_toArray, List.set_cons_zero, List.set_cons_succ]
        refine rg.take_op (i := 9) 76 (v := (.pointer (some ⟨kb, 0, none⟩))) rfl rfl (rg.yields_run (by kernel_rfl) (fun W h => by kernel_rfl)) (by kernel_rfl) (by kernel_rfl) (by kernel_rfl) (fun _ _ _ h => h) hS0 ?_
        simp only [Act.put, List.setIfInBounds_toArray, List.set_cons_zero, List.set_cons_succ]
        refine rg.take_op (i := 10) 77 (v := (.pointer (some ⟨kb, 1, none⟩))) rfl rfl (rg.yields_run (by kernel_rfl) (fun W h => by kernel_rfl)) (by kernel_rfl) (by kernel_rfl) (by kernel_rfl) (fun _ _ _ h => h) hS0 ?_
        simp only [Act.put, List.setIfInBounds_toArray, List.set_cons_zero, List.set_cons_succ]
        refine rg.take_op (i := 11) 78 (v := (F1 cb)) rfl rfl (rg.yields_run (by kernel_rfl) (fun W h => x_load78 (x := .tmp 77) rfl rfl h.1)) (by kernel_rfl) (by kernel_rfl) (by kernel_rfl) (fun _ _ _ h => h) hS0 ?_
        simp only [Act.put, List.setIfInBounds_toArray, List.set_cons_zero, List.set_cons_succ]
        refine rg.take_op (i := 12) 79 (v := (.slice vg xs.length vc)) rfl rfl (rg.yields_run (by kernel_rfl) (fun W h => by kernel_rfl)) (by kernel_rfl) (by kernel_rfl) (by kernel_rfl) (fun _ _ _ h => h) hS0 ?_
        simp only [Act.put, List.setIfInBounds_toArray, List.set_cons_zero, List.set_cons_succ]
        refine rg.take_op (i := 13) 80 (v := (.slice vg 0 vc)) rfl rfl (rg.yields_run (by kernel_rfl) (fun W h => x_cut51 (x := .tmp 79) rfl rfl)) (by kernel_rfl) (by kernel_rfl) (by kernel_rfl) (fun _ _ _ h => h) hS0 ?_
        simp only [Act.put, List.setIfInBounds_toArray, List.set_cons_zero, List.set_cons_succ]
        refine rg.take_op (i := 14) 81 (v := (.agg #[.int .i64 (s.1 : Int), .int .i64 (s.2 : Int)])) rfl rfl (rg.yields_run (by kernel_rfl) (fun W h => x_load76 (x := .tmp 3) rfl rfl h.2)) (by kernel_rfl) (by kernel_rfl) (by kernel_rfl) (fun _ _ _ h => h) hS0 ?_
        simp only [Act.put, List.setIfInBounds_toArray, List.set_cons_zero, List.set_cons_succ]
        refine two (i := 5) (j := 15) (by kernel_rfl) ?_ ?_
        · skip
          refine op_val 5 72 rfl rfl (by kernel_rfl) (rg.x_load23 (x := .tmp 71) rfl rfl (by exact c8)) ⟨hS0, ?_⟩
          simp only [Act.put, List.setIfInBounds_toArray, List.set_cons_zero, List.set_cons_succ]
          refine one (i := 15) (by kernel_rfl) ?_
          refine op_call 15 82 rfl rfl (by kernel_rfl) (f := 41) (args := #[.pointer (some ⟨cb, 0, none⟩), .slice vg 0 vc, .agg #[.int .i64 (s.1 : Int), .int .i64 (s.2 : Int)]]) (by kernel_rfl) ?_
          refine c43.mono ?_
          rintro e w9 ⟨v', o, rfl, hb9, hG9, hol, hgo⟩
          have hG9 := hG9.undrew
          have k9 := K6.out.buf HCUT.out hG9
          have c89 : w9.cell? ⟨kb, 8, none⟩ = some (.slice g2 d.fn.length cc2) := by rw [← hv2']; exact k9.c8
          have hS9 : SS kb cb W.heap.size s w9 := SS.buf ⟨c1, c36⟩ K6.out HCUT.out hG9
          have c74 := text_any k9 hb9 (by omega) (by show txs.length ≤ _; omega)
          refine ⟨_, rfl, hS9, ?_⟩
          simp only [Act.put, List.setIfInBounds_toArray, List.set_cons_zero, List.set_cons_succ]
          refine one (i := 16) (by kernel_rfl) ?_
          refine op_call 16 83 rfl rfl (by kernel_rfl) (f := 72) (args := #[.pointer (some ⟨kb, 0, none⟩), v']) (by kernel_rfl) ?_
          refine c74.mono ?_
          rintro e w10 ⟨kk, v3', lg', txs', rfl, e3, e4, k10, z10, os10, tp10, ou10, h10, hw10⟩
          have c810 : w10.cell? ⟨kb, 8, none⟩ = some (.slice g2 d.fn.length cc2) := by rw [← hv2']; exact k10.c8
          have hS10 : SS kb cb W.heap.size s w10 := SS.text hS9 k9 k10 h10
          have hS10a : SS kb cb W.heap.size s (w10.alloc (.cells #[.int .i64 (kk : Int)] 3)) := hS10.alloc k10 _
          have HO10 : (w10.alloc (.cells #[.int .i64 (kk : Int)] 3)).ownsRow B 3 1 (.slice g2 d.fn.length cc2) d.fn.length (icl d.fn) := by rw [← hv2']; exact ow.later k10.o2 (below_alloc _ _)
          have hB10 : B ≤ (w10.alloc (.cells #[.int .i64 (kk : Int)] 3)).heap.size := Nat.le_trans (Nat.le_trans k10.bk (Nat.le_of_lt k10.kl)) (below_alloc _ _).size
          have q10 : (w10.alloc (.cells #[.int .i64 (kk : Int)] 3)).cell? ⟨kb, 8, none⟩ = some (.slice g2 d.fn.length cc2) := by rw [(below_alloc w10 _).cell (show kb < w10.heap.size from k10.kl)]; exact c810
          refine ⟨_, rfl, hS10, ?_⟩
          simp only [Act.put, List.setIfInBounds_toArray, List.set_cons_zero, List.set_cons_succ]
          refine one (i := 17) (by kernel_rfl) ?_
          refine op_val 17 84 rfl rfl (by kernel_rfl) (x_build23 (x := .tmp 83) (n := (kk : Int)) rfl rfl) ⟨hS10a, ?_⟩
          simp only [Act.put, List.setIfInBounds_toArray, List.set_cons_zero, List.set_cons_succ]
          refine one (i := 18) (by kernel_rfl) (op_wp 18 rfl (by kernel_rfl) ?_)
          refine ow.wp_append (.tmp 72) (.tmp 84) 23 rfl 3 (.int .i64 0) 1 8 Try.underlying23 info3 rfl (by decide) (by decide) B (.slice g2 d.fn.length cc2) d.fn.length (icl d.fn) w10.heap.size [.int .i64 (kk : Int)] rfl rfl HO10 rfl (ow.new1 w10 (.int .i64 (kk : Int)) 3) (ow.one1 _ rfl) (by omega) hB10 ?_
          intro g11 cap11 w11 ho hgr hw11
          have HP := pushed (j := 8) k10 (e := 3) (v := q.v2) (n := d.fn.length) k10.o2 (by decide) ho (by rw [hv2']; exact hgr) (by rw [hv2']; exact hw11)
          have hS11 : SS kb cb W.heap.size s w11 := SS.app hS10 k10 (by rw [hv2']; exact hgr) HP.1
          refine ⟨hS11, ?_⟩
          simp only [Act.put, List.setIfInBounds_toArray, List.set_cons_zero, List.set_cons_succ]
          refine rg.take_op (i := 19) 86 (v := (.pointer (some ⟨kb, 0, none⟩))) rfl rfl (rg.yields_run (by kernel_rfl) (fun W h => by kernel_rfl)) (by kernel_rfl) (by kernel_rfl) (by kernel_rfl) (fun _ _ _ h => h) hS11 ?_
          simp only [Act.put, List.setIfInBounds_toArray, List.set_cons_zero, List.set_cons_succ]
          refine rg.take_op (i := 20) 87 (v := (.pointer (some ⟨kb, 6, none⟩))) rfl rfl (rg.yields_run (by kernel_rfl) (fun W h => by kernel_rfl)) (by kernel_rfl) (by kernel_rfl) (by kernel_rfl) (fun _ _ _ h => h) hS11 ?_
          simp only [Act.put, List.setIfInBounds_toArray, List.set_cons_zero, List.set_cons_succ]
          refine rg.take_op (i := 21) 88 (v := (.pointer (some ⟨kb, 8, none⟩))) rfl rfl (rg.yields_run (by kernel_rfl) (fun W h => by kernel_rfl)) (by kernel_rfl) (by kernel_rfl) (by kernel_rfl) (fun _ _ _ h => h) hS11 ?_
          simp only [Act.put, List.setIfInBounds_toArray, List.set_cons_zero, List.set_cons_succ]
          refine one (i := 22) (by kernel_rfl) (op_wp 22 rfl (by kernel_rfl) ?_)
          have y8 : w11.cell? ⟨kb, 8, none⟩ = some (.slice g2 d.fn.length cc2) := by rw [Lib.cell_of_heap HP.1, ← hv2']; rfl
          have z8 : w11.frozen? ⟨kb, 8, none⟩ = false := Lib.frozen_of_heap HP.1 8
          unfold Oper.wp execOp
          go_simp
          refine ⟨hS11.store HP.1, ?_⟩
          refine rg.done_op (by kernel_rfl) ?_
          have hbs : (bs o).data.toList = o := by simp
          have hce : CEr a b s (bs o).data.toList := by rw [hbs]; exact hgo
          have HH : Hid (LvOut B kb cb a b q d s W (.returned (.tuple #[])) (w11.setCell ⟨kb, 8, none⟩ (.slice (some ⟨g11, 0, none⟩) (d.fn.length + 1) cap11))) := show LvOut B kb cb a b q d s W _ _ from ⟨sv, v0n, v1n, .slice (some ⟨g11, 0, none⟩) (d.fn.length + 1) cap11, v3', lg', gn, gp, kk, sts, txs', rn, rp, bs o, rfl, k10.push2 HP.2.1 (by rw [set_heap _ _ _ _ 8 _ HP.1]; rfl) (by rw [List.length_append, icl_one]; exact HP.2.2.1) HP.2.2.2.1, Rows.mono HRW.out (List.prefix_refl _) (pre_of e4), HAD.out.en e4 hce, e3, hce, ((HB6.out.trans (hG9.below HCUT.out)).trans (text_below k9 os10 tp10 ou10 z10 h10)).trans HP.2.2.2.2⟩
          clear HP hce hbs hgo h10 e3 e4 hw10 k10 k9 HO10 hB10 q10 c810 hS10 hS10a hS11 hS9 c89 c74 hG9 hb9 ho hgr hw11
          go_end0
          exact HH.out
        · skip
          refine op_call 15 82 rfl rfl (by kernel_rfl) (f := 41) (args := #[.pointer (some ⟨cb, 0, none⟩), .slice vg 0 vc, .agg #[.int .i64 (s.1 : Int), .int .i64 (s.2 : Int)]]) (by kernel_rfl) ?_
          refine c43.mono ?_
          rintro e w9 ⟨v', o, rfl, hb9, hG9, hol, hgo⟩
          have hG9 := hG9.undrew
          have k9 := K6.out.buf HCUT.out hG9
          have c89 : w9.cell? ⟨kb, 8, none⟩ = some (.slice g2 d.fn.length cc2) := by rw [← hv2']; exact k9.c8
          have hS9 : SS kb cb W.heap.size s w9 := SS.buf ⟨c1, c36⟩ K6.out HCUT.out hG9
          have c74 := text_any k9 hb9 (by omega) (by show txs.length ≤ _; omega)
          refine ⟨_, rfl, hS9, ?_⟩
          simp only [Act.put, List.setIfInBounds_toArray, List.set_cons_zero, List.set_cons_succ]
          refine two (i := 5) (j := 16) (by kernel_rfl) ?_ ?_
          · skip
            refine op_val 5 72 rfl rfl (by kernel_rfl) (rg.x_load23 (x := .tmp 71) rfl rfl (by exact c89)) ⟨hS9, ?_⟩
            simp only [Act.put, List.setIfInBounds_toArray, List.set_cons_zero, List.set_cons_succ]
            refine one (i := 16) (by kernel_rfl) ?_
            refine op_call 16 83 rfl rfl (by kernel_rfl) (f := 72) (args := #[.pointer (some ⟨kb, 0, none⟩), v']) (by kernel_rfl) ?_
            refine c74.mono ?_
            rintro e w10 ⟨kk, v3', lg', txs', rfl, e3, e4, k10, z10, os10, tp10, ou10, h10, hw10⟩
            have c810 : w10.cell? ⟨kb, 8, none⟩ = some (.slice g2 d.fn.length cc2) := by rw [← hv2']; exact k10.c8
            have hS10 : SS kb cb W.heap.size s w10 := SS.text hS9 k9 k10 h10
            have hS10a : SS kb cb W.heap.size s (w10.alloc (.cells #[.int .i64 (kk : Int)] 3)) := hS10.alloc k10 _
            have HO10 : (w10.alloc (.cells #[.int .i64 (kk : Int)] 3)).ownsRow B 3 1 (.slice g2 d.fn.length cc2) d.fn.length (icl d.fn) := by rw [← hv2']; exact ow.later k10.o2 (below_alloc _ _)
            have hB10 : B ≤ (w10.alloc (.cells #[.int .i64 (kk : Int)] 3)).heap.size := Nat.le_trans (Nat.le_trans k10.bk (Nat.le_of_lt k10.kl)) (below_alloc _ _).size
            have q10 : (w10.alloc (.cells #[.int .i64 (kk : Int)] 3)).cell? ⟨kb, 8, none⟩ = some (.slice g2 d.fn.length cc2) := by rw [(below_alloc w10 _).cell (show kb < w10.heap.size from k10.kl)]; exact c810
            refine ⟨_, rfl, hS10, ?_⟩
            simp only [Act.put, List.setIfInBounds_toArray, List.set_cons_zero, List.set_cons_succ]
            refine one (i := 17) (by kernel_rfl) ?_
            refine op_val 17 84 rfl rfl (by kernel_rfl) (x_build23 (x := .tmp 83) (n := (kk : Int)) rfl rfl) ⟨hS10a, ?_⟩
            simp only [Act.put, List.setIfInBounds_toArray, List.set_cons_zero, List.set_cons_succ]
            refine one (i := 18) (by kernel_rfl) (op_wp 18 rfl (by kernel_rfl) ?_)
            refine ow.wp_append (.tmp 72) (.tmp 84) 23 rfl 3 (.int .i64 0) 1 8 Try.underlying23 info3 rfl (by decide) (by decide) B (.slice g2 d.fn.length cc2) d.fn.length (icl d.fn) w10.heap.size [.int .i64 (kk : Int)] rfl rfl HO10 rfl (ow.new1 w10 (.int .i64 (kk : Int)) 3) (ow.one1 _ rfl) (by omega) hB10 ?_
            intro g11 cap11 w11 ho hgr hw11
            have HP := pushed (j := 8) k10 (e := 3) (v := q.v2) (n := d.fn.length) k10.o2 (by decide) ho (by rw [hv2']; exact hgr) (by rw [hv2']; exact hw11)
            have hS11 : SS kb cb W.heap.size s w11 := SS.app hS10 k10 (by rw [hv2']; exact hgr) HP.1
            refine ⟨hS11, ?_⟩
            simp only [Act.put, List.setIfInBounds_toArray, List.set_cons_zero, List.set_cons_succ]
            refine rg.take_op (i := 19) 86 (v := (.pointer (some ⟨kb, 0, none⟩))) rfl rfl (rg.yields_run (by kernel_rfl) (fun W h => by kernel_rfl)) (by kernel_rfl) (by kernel_rfl) (by kernel_rfl) (fun _ _ _ h => h) hS11 ?_
            simp only [Act.put, List.setIfInBounds_toArray, List.set_cons_zero, List.set_cons_succ]
            refine rg.take_op (i := 20) 87 (v := (.pointer (some ⟨kb, 6, none⟩))) rfl rfl (rg.yields_run (by kernel_rfl) (fun W h => by kernel_rfl)) (by kernel_rfl) (by kernel_rfl) (by kernel_rfl) (fun _ _ _ h => h) hS11 ?_
            simp only [Act.put, List.setIfInBounds_toArray, List.set_cons_zero, List.set_cons_succ]
            refine rg.take_op (i := 21) 88 (v := (.pointer (some ⟨kb, 8, none⟩))) rfl rfl (rg.yields_run (by kernel_rfl) (fun W h => by kernel_rfl)) (by kernel_rfl) (by kernel_rfl) (by kernel_rfl) (fun _ _ _ h => h) hS11 ?_
            simp only [Act.put, List.setIfInBounds_toArray, List.set_cons_zero, List.set_cons_succ]
            refine one (i := 22) (by kernel_rfl) (op_wp 22 rfl (by kernel_rfl) ?_)
            have y8 : w11.cell? ⟨kb, 8, none⟩ = some (.slice g2 d.fn.length cc2) := by rw [Lib.cell_of_heap HP.1, ← hv2']; rfl
            have z8 : w11.frozen? ⟨kb, 8, none⟩ = false := Lib.frozen_of_heap HP.1 8
            unfold Oper.wp execOp
            go_simp
            refine ⟨hS11.store HP.1, ?_⟩
            refine rg.done_op (by kernel_rfl) ?_
            have hbs : (bs o).data.toList = o := by simp
            have hce : CEr a b s (bs o).data.toList := by rw [hbs]; exact hgo
            have HH : Hid (LvOut B kb cb a b q d s W (.returned (.tuple #[])) (w11.setCell ⟨kb, 8, none⟩ (.slice (some ⟨g11, 0, none⟩) (d.fn.length + 1) cap11))) := show LvOut B kb cb a b q d s W _ _ from ⟨sv, v0n, v1n, .slice (some ⟨g11, 0, none⟩) (d.fn.length + 1) cap11, v3', lg', gn, gp, kk, sts, txs', rn, rp, bs o, rfl, k10.push2 HP.2.1 (by rw [set_heap _ _ _ _ 8 _ HP.1]; rfl) (by rw [List.length_append, icl_one]; exact HP.2.2.1) HP.2.2.2.1, Rows.mono HRW.out (List.prefix_refl _) (pre_of e4), HAD.out.en e4 hce, e3, hce, ((HB6.out.trans (hG9.below HCUT.out)).trans (text_below k9 os10 tp10 ou10 z10 h10)).trans HP.2.2.2.2⟩
            clear HP hce hbs hgo h10 e3 e4 hw10 k10 k9 HO10 hB10 q10 c810 hS10 hS10a hS11 hS9 c89 c74 hG9 hb9 ho hgr hw11
            go_end0
            exact HH.out
          · skip
            refine op_call 16 83 rfl rfl (by kernel_rfl) (f := 72) (args := #[.pointer (some ⟨kb, 0, none⟩), v']) (by kernel_rfl) ?_
            refine c74.mono ?_
            rintro e w10 ⟨kk, v3', lg', txs', rfl, e3, e4, k10, z10, os10, tp10, ou10, h10, hw10⟩
            have c810 : w10.cell? ⟨kb, 8, none⟩ = some (.slice g2 d.fn.length cc2) := by rw [← hv2']; exact k10.c8
            have hS10 : SS kb cb W.heap.size s w10 := SS.text hS9 k9 k10 h10
            have hS10a : SS kb cb W.heap.size s (w10.alloc (.cells #[.int .i64 (kk : Int)] 3)) := hS10.alloc k10 _
            have HO10 : (w10.alloc (.cells #[.int .i64 (kk : Int)] 3)).ownsRow B 3 1 (.slice g2 d.fn.length cc2) d.fn.length (icl d.fn) := by rw [← hv2']; exact ow.later k10.o2 (below_alloc _ _)
            have hB10 : B ≤ (w10.alloc (.cells #[.int .i64 (kk : Int)] 3)).heap.size := Nat.le_trans (Nat.le_trans k10.bk (Nat.le_of_lt k10.kl)) (below_alloc _ _).size
            have q10 : (w10.alloc (.cells #[.int .i64 (kk : Int)] 3)).cell? ⟨kb, 8, none⟩ = some (.slice g2 d.fn.length cc2) := by rw [(below_alloc w10 _).cell (show kb < w10.heap.size from k10.kl)]; exact c810
            refine ⟨_, rfl, hS10, ?_⟩
            simp only [Act.put, List.setIfInBounds_toArray, List.set_cons_zero, List.set_cons_succ]
            refine two (i := 5) (j := 17) (by kernel_rfl) ?_ ?_
            · skip
              refine op_val 5 72 rfl rfl (by kernel_rfl) (rg.x_load23 (x := .tmp 71) rfl rfl (by exact c810)) ⟨hS10, ?_⟩
              simp only [Act.put, List.setIfInBounds_toArray, List.set_cons_zero, List.set_cons_succ]
              refine one (i := 17) (by kernel_rfl) ?_
              refine op_val 17 84 rfl rfl (by kernel_rfl) (x_build23 (x := .tmp 83) (n := (kk : Int)) rfl rfl) ⟨hS10a, ?_⟩
              simp only [Act.put, List.setIfInBounds_toArray, List.set_cons_zero, List.set_cons_succ]
              refine one (i := 18) (by kernel_rfl) (op_wp 18 rfl (by kernel_rfl) ?_)
              refine ow.wp_append (.tmp 72) (.tmp 84) 23 rfl 3 (.int .i64 0) 1 8 Try.underlying23 info3 rfl (by decide) (by decide) B (.slice g2 d.fn.length cc2) d.fn.length (icl d.fn) w10.heap.size [.int .i64 (kk : Int)] rfl rfl HO10 rfl (ow.new1 w10 (.int .i64 (kk : Int)) 3) (ow.one1 _ rfl) (by omega) hB10 ?_
              intro g11 cap11 w11 ho hgr hw11
              have HP := pushed (j := 8) k10 (e := 3) (v := q.v2) (n := d.fn.length) k10.o2 (by decide) ho (by rw [hv2']; exact hgr) (by rw [hv2']; exact hw11)
              have hS11 : SS kb cb W.heap.size s w11 := SS.app hS10 k10 (by rw [hv2']; exact hgr) HP.1
              refine ⟨hS11, ?_⟩
              simp only [Act.put, List.setIfInBounds_toArray, List.set_cons_zero, List.set_cons_succ]
              refine rg.take_op (i := 19) 86 (v := (.pointer (some ⟨kb, 0, none⟩))) rfl rfl (rg.yields_run (by kernel_rfl) (fun W h => by kernel_rfl)) (by kernel_rfl) (by kernel_rfl) (by kernel_rfl) (fun _ _ _ h => h) hS11 ?_
              simp only [Act.put, List.setIfInBounds_toArray, List.set_cons_zero, List.set_cons_succ]
              refine rg.take_op (i := 20) 87 (v := (.pointer (some ⟨kb, 6, none⟩))) rfl rfl (rg.yields_run (by kernel_rfl) (fun W h => by kernel_rfl)) (by kernel_rfl) (by kernel_rfl) (by kernel_rfl) (fun _ _ _ h => h) hS11 ?_
              simp only [Act.put, List.setIfInBounds_toArray, List.set_cons_zero, List.set_cons_succ]
              refine rg.take_op (i := 21) 88 (v := (.pointer (some ⟨kb, 8, none⟩))) rfl rfl (rg.yields_run (by kernel_rfl) (fun W h => by kernel_rfl)) (by kernel_rfl) (by kernel_rfl) (by kernel_rfl) (fun _ _ _ h => h) hS11 ?_
              simp only [Act.put, List.setIfInBounds_toArray, List.set_cons_zero, List.set_cons_succ]
              refine one (i := 22) (by kernel_rfl) (op_wp 22 rfl (by kernel_rfl) ?_)
              have y8 : w11.cell? ⟨kb, 8, none⟩ = some (.slice g2 d.fn.length cc2) := by rw [Lib.cell_of_heap HP.1, ← hv2']; rfl
              have z8 : w11.frozen? ⟨kb, 8, none⟩ = false := Lib.frozen_of_heap HP.1 8
              unfold Oper.wp execOp
              go_simp
              refine ⟨hS11.store HP.1, ?_⟩
              refine rg.done_op (by kernel_rfl) ?_
              have hbs : (bs o).data.toList = o := by simp
              have hce : CEr a b s (bs o).data.toList := by rw [hbs]; exact hgo
              have HH : Hid (LvOut B kb cb a b q d s W (.returned (.tuple #[])) (w11.setCell ⟨kb, 8, none⟩ (.slice (some ⟨g11, 0, none⟩) (d.fn.length + 1) cap11))) := show LvOut B kb cb a b q d s W _ _ from ⟨sv, v0n, v1n, .slice (some ⟨g11, 0, none⟩) (d.fn.length + 1) cap11, v3', lg', gn, gp, kk, sts, txs', rn, rp, bs o, rfl, k10.push2 HP.2.1 (by rw [set_heap _ _ _ _ 8 _ HP.1]; rfl) (by rw [List.length_append, icl_one]; exact HP.2.2.1) HP.2.2.2.1, Rows.mono HRW.out (List.prefix_refl _) (pre_of e4), HAD.out.en e4 hce, e3, hce, ((HB6.out.trans (hG9.below HCUT.out)).trans (text_below k9 os10 tp10 ou10 z10 h10)).trans HP.2.2.2.2⟩
              clear HP hce hbs hgo h10 e3 e4 hw10 k10 k9 HO10 hB10 q10 c810 hS10 hS10a hS11 hS9 c89 c74 hG9 hb9 ho hgr hw11
              go_end0
              exact HH.out
            · skip
              refine op_val 17 84 rfl rfl (by kernel_rfl) (x_build23 (x := .tmp 83) (n := (kk : Int)) rfl rfl) ⟨hS10a, ?_⟩
              simp only [Act.put, List.setIfInBounds_toArray, List.set_cons_zero, List.set_cons_succ]
              refine one (i := 5) (by kernel_rfl) ?_
              refine op_val 5 72 rfl rfl (by kernel_rfl) (rg.x_load23 (x := .tmp 71) rfl rfl (by exact q10)) ⟨hS10a, ?_⟩
              simp only [Act.put, List.setIfInBounds_toArray, List.set_cons_zero, List.set_cons_succ]
              refine one (i := 18) (by kernel_rfl) (op_wp 18 rfl (by kernel_rfl) ?_)
              refine ow.wp_append (.tmp 72) (.tmp 84) 23 rfl 3 (.int .i64 0) 1 8 Try.underlying23 info3 rfl (by decide) (by decide) B (.slice g2 d.fn.length cc2) d.fn.length (icl d.fn) w10.heap.size [.int .i64 (kk : Int)] rfl rfl HO10 rfl (ow.new1 w10 (.int .i64 (kk : Int)) 3) (ow.one1 _ rfl) (by omega) hB10 ?_
              intro g11 cap11 w11 ho hgr hw11
              have HP := pushed (j := 8) k10 (e := 3) (v := q.v2) (n := d.fn.length) k10.o2 (by decide) ho (by rw [hv2']; exact hgr) (by rw [hv2']; exact hw11)
              have hS11 : SS kb cb W.heap.size s w11 := SS.app hS10 k10 (by rw [hv2']; exact hgr) HP.1
              refine ⟨hS11, ?_⟩
              simp only [Act.put, List.setIfInBounds_toArray, List.set_cons_zero, List.set_cons_succ]
              refine rg.take_op (i := 19) 86 (v := (.pointer (some ⟨kb, 0, none⟩))) rfl rfl (rg.yields_run (by kernel_rfl) (fun W h => by kernel_rfl)) (by kernel_rfl) (by kernel_rfl) (by kernel_rfl) (fun _ _ _ h => h) hS11 ?_
              simp only [Act.put, List.setIfInBounds_toArray, List.set_cons_zero, List.set_cons_succ]
              refine rg.take_op (i := 20) 87 (v := (.pointer (some ⟨kb, 6, none⟩))) rfl rfl (rg.yields_run (by kernel_rfl) (fun W h => by kernel_rfl)) (by kernel_rfl) (by kernel_rfl) (by kernel_rfl) (fun _ _ _ h => h) hS11 ?_
              simp only [Act.put, List.setIfInBounds_toArray, List.set_cons_zero, List.set_cons_succ]
              refine rg.take_op (i := 21) 88 (v := (.pointer (some ⟨kb, 8, none⟩))) rfl rfl (rg.yields_run (by kernel_rfl) (fun W h => by kernel_rfl)) (by kernel_rfl) (by kernel_rfl) (by kernel_rfl) (fun _ _ _ h => h) hS11 ?_
              simp only [Act.put, List.setIfInBounds_toArray, List.set_cons_zero, List.set_cons_succ]
              refine one (i := 22) (by kernel_rfl) (op_wp 22 rfl (by kernel_rfl) ?_)
              have y8 : w11.cell? ⟨kb, 8, none⟩ = some (.slice g2 d.fn.length cc2) := by rw [Lib.cell_of_heap HP.1, ← hv2']; rfl
              have z8 : w11.frozen? ⟨kb, 8, none⟩ = false := Lib.frozen_of_heap HP.1 8
              unfold Oper.wp execOp
              go_simp
              refine ⟨hS11.store HP.1, ?_⟩
              refine rg.done_op (by kernel_rfl) ?_
              have hbs : (bs o).data.toList = o := by simp
              have hce : CEr a b s (bs o).data.toList := by rw [hbs]; exact hgo
              have HH : Hid (LvOut B kb cb a b q d s W (.returned (.tuple #[])) (w11.setCell ⟨kb, 8, none⟩ (.slice (some ⟨g11, 0, none⟩) (d.fn.length + 1) cap11))) := show LvOut B kb cb a b q d s W _ _ from ⟨sv, v0n, v1n, .slice (some ⟨g11, 0, none⟩) (d.fn.length + 1) cap11, v3', lg', gn, gp, kk, sts, txs', rn, rp, bs o, rfl, k10.push2 HP.2.1 (by rw [set_heap _ _ _ _ 8 _ HP.1]; rfl) (by rw [List.length_append, icl_one]; exact HP.2.2.1) HP.2.2.2.1, Rows.mono HRW.out (List.prefix_refl _) (pre_of e4), HAD.out.en e4 hce, e3, hce, ((HB6.out.trans (hG9.below HCUT.out)).trans (text_below k9 os10 tp10 ou10 z10 h10)).trans HP.2.2.2.2⟩
              clear HP hce hbs hgo h10 e3 e4 hw10 k10 k9 HO10 hB10 q10 c810 hS10 hS10a hS11 hS9 c89 c74 hG9 hb9 ho hgr hw11
              go_end0
              exact HH.out
end Go.Proofs.Ytlmodfeiphffcaa.mk
