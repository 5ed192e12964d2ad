/-
  Contracts over this program: mapper.over.
-/
import Derived.Test.YtmmlibehihknbaaM19
import Derived.Test.YtmmlibehihknbaaM28
namespace Go.Proofs.Ytmmlibehihknbaa.tr
open Go.ChangeShapes Go.WideShapes Go.ChangeAt Go.RowKit Go.Shelf
set_option linter.unusedVariables false

/-- blocks of other cells than bytes stay -/
def Keeps (w w' : World) : Prop := ∀ (k : Nat) (cs : Array Value) (t : TypeId) (fr : Nat × Nat), t ≠ 5 → w.heap[k]? = some (.cells cs t fr) → w'.heap[k]? = some (.cells cs t fr)
theorem Keeps.trans {w w1 w2 : World} (h : Keeps w w1) (k : Keeps w1 w2) : Keeps w w2 := fun b cs t fr ht hb => k b cs t fr ht (h b cs t fr ht hb)
theorem Buf.keeps {B : Nat} {v : Value} {xs : List UInt8} {w w' : World} (hb : Buf B v xs w) (hg : w.grownBy w' v.ownBlock) : Keeps w w' := fun k cs t fr ht hk =>
  (hg.block k (Array.getElem?_eq_some_iff.1 hk).1 (ow.type hb.1 hk ht)).trans hk
theorem keeps_alloc (w : World) (o : Obj) : Keeps w (w.alloc o) := fun k cs t fr _ hk => ((below_alloc w o).block k (Array.getElem?_eq_some_iff.1 hk).1).trans hk
theorem Buf.text2 {ops : Array Oper} {rest : List Oper} {o : Oper} {a : Act} {Q : Exit → Act → World → Prop} {w : World} (hgd : o.guard = none) (sl x : Operand)
    (ho : o.op = .call { callee := .builtin .append, args := #[sl, x], argTypes := #[63, 9] })
    (B : Nat) (v : Value) (xs : List UInt8) (hs : a.eval sl = v) (hb : Buf B v xs w) (s : ByteArray) (hx : a.eval x = .string s) (hlen : xs.length + s.size ≤ 140737488355328)
    (h : ∀ v' w', Buf B v' (xs ++ s.data.toList) w' → Below B w w' → Keeps w w' → wpList Try.prog ops Q rest (a.put o.dst v') w') : wpList Try.prog ops Q (o :: rest) a w := by
  obtain ⟨i0, hi0, hz0, hz1, hz2⟩ := info_parts info5
  refine Lib.wpList_append_own_string w hgd sl x 63 9 ho B 5 i0 Try.underlying63 Try.underlying9 hi0 hz0 hz1 hz2 v xs.length (Lib.byteCells xs) hs hb.1 s hx (by unfold maxLen; omega) hlen hb.2 ?_
  intro v' w' ho' hg _
  refine h v' w' ⟨?_, Nat.le_trans hb.2 hg.size⟩ (hb.grown hg) (hb.keeps hg)
  rw [Lib.byteCells_append, ← strCells_list, List.length_append, list_len]
  exact ho'
theorem Buf.byte2 {ops : Array Oper} {rest : List Oper} {o : Oper} {a : Act} {Q : Exit → Act → World → Prop} {w : World} (hgd : o.guard = none) (sl x : Operand)
    (ho : o.op = .call { callee := .builtin .append, args := #[sl, x], argTypes := #[63, 63] })
    (B : Nat) (v : Value) (xs : List UInt8) (hs : a.eval sl = v) (hb : Buf B v xs w) (b : UInt8) (hx : a.eval x = .slice (some ⟨w.heap.size, 0, none⟩) 1 1) (hlen : xs.length + 1 ≤ 140737488355328)
    (h : ∀ v' w', Buf B v' (xs ++ [b]) w' → Below B w w' → Keeps w w' → wpList Try.prog ops Q rest (a.put o.dst v') w') : wpList Try.prog ops Q (o :: rest) a (w.alloc (.cells #[.int .u8 (b.toNat : Int)] 5)) := by
  obtain ⟨i0, hi0, hz0, hz1, hz2⟩ := info_parts info5
  have hb' := hb.later (below_alloc w (.cells #[.int .u8 (b.toNat : Int)] 5))
  refine wpList_append_own _ hgd sl x 63 ho B 5 i0 (.int .u8 0) 1 1 Try.underlying63 hi0 hz0 hz1 hz2 rfl (by decide) v xs.length (Lib.byteCells xs) hs hb'.1 ⟨w.heap.size, 0, none⟩ 1 1 [.int .u8 (b.toNat : Int)] hx rfl ?_ ?_ (by unfold maxLen; omega) (by omega) hb'.2 ?_
  · intro j u hj
    match j, hj with
    | 0, hj => simp at hj; subst hj; simp [Addr.add]
    | (j + 1), hj => simp at hj
  · intro u hu; simp at hu; subst hu; rfl
  · intro v' w' ho' hg _
    refine h v' w' ⟨?_, Nat.le_trans hb'.2 hg.size⟩ (((below_alloc w _).mono hb.2).trans (hb'.grown hg)) ((keeps_alloc w _).trans (hb'.keeps hg))
    rw [byteCells_one, List.length_append]
    exact ho'
/-- a mapper in a cell of its own -/
def XBox (w : World) (g : Nat) (m : Mc) (p : Mp) : Prop := w.heap[g]? = some (.cells (mv m p) 74 (0, 0))
section
variable {w w' : World} {g : Nat} {m : Mc} {p : Mp}
theorem XBox.lt (h : XBox w g m p) : g < w.heap.size := (Array.getElem?_eq_some_iff.1 h).1
theorem XBox.low {B : Nat} (h : XBox w g m p) (hg : g < B) (b : Below B w w') : XBox w' g m p := by unfold XBox; rw [b.block g hg]; exact h
theorem XBox.keeps (h : XBox w g m p) (k : Keeps w w') : XBox w' g m p := k _ _ _ _ (by decide) h
theorem XBox.c0 (h : XBox w g m p) : w.cell? ⟨g, 0, none⟩ = some (.slice p.no m.next.length p.nc) := by rw [Lib.cell_of_heap h]; rfl
theorem XBox.c1 (h : XBox w g m p) : w.cell? ⟨g, 1, none⟩ = some (.slice p.po m.put.length p.pc) := by rw [Lib.cell_of_heap h]; rfl
theorem XBox.c2 (h : XBox w g m p) : w.cell? ⟨g, 2, none⟩ = some (.slice p.eo m.fin.length p.ec) := by rw [Lib.cell_of_heap h]; rfl
theorem XBox.c3 (h : XBox w g m p) : w.cell? ⟨g, 3, none⟩ = some (.slice p.xo m.txt.length p.xc) := by rw [Lib.cell_of_heap h]; rfl
end
theorem xbox_new (w : World) (m : Mc) (p : Mp) : XBox (w.alloc (.cells (mv m p) 74)) w.heap.size m p := heap_alloc_new w _
def OverIs (m : Mc) (st : Nat) (b : UInt8) : Prop := ∀ B p v out w, MAt (Lo B) w m p → Buf B v out w → out.length ≤ 70368744177664 → Calls Try.prog 60 #[.agg (mv m p), v, .int .i64 (st : Int), .int .u8 (b.toNat : Int)] w fun e w' => ∃ v', e = .returned (.tuple #[v', .int .i64 (nx m st b.toNat : Int)]) ∧ Buf B v' (out ++ outp m st b) w' ∧ Below B w w'
set_option maxHeartbeats 2000000 in
set_option maxRecDepth 100000 in
theorem over_any (m : Mc) (hR : Right m) (st : Nat) (hst : st < m.next.length) (b : UInt8) : OverIs m st b := by
  intro B p v out w hM0 hB0 hlen
  have hb := b.toNat_lt
  obtain ⟨w1, HW1⟩ : ∃ w1, Hid (w1 = w.alloc (.cells (mv m p) 74)) := ⟨_, rfl⟩
  obtain ⟨g, HG⟩ : ∃ g, Hid (g = w.heap.size) := ⟨_, rfl⟩
  have bA : Below w.heap.size w w1 := by rw [HW1.out]; exact below_alloc w _
  have b01 : Below B w w1 := bA.mono hB0.2
  have HB01 := (show Hid (Below B w w1) from b01)
  have hX : XBox w1 g m p := by rw [HW1.out, HG.out]; exact xbox_new w m p
  have hM : MAt (Lo B) w1 m p := hM0.low b01
  have hB : Buf B v out w1 := hB0.later bA
  obtain ⟨pb, poff, rb, roff, rc, e1, h1, h2, h3, h4, h5, h6⟩ := hM.put_at hR hst hb
  have hq := hR.pt_lt hst hb
  have HO : Hid (outp m st b = (tx m (pt m st b.toNat / 2)).data.toList ++ (if pt m st b.toNat % 2 = 1 then [b] else [])) := rfl
  obtain ⟨xb, xoff, e7, h7, h8⟩ := hM.tx_at (k := pt m st b.toNat / 2) (by omega)
  have hx1 := hX.c1
  have hx3 := hX.c3
  have t0 := hM.rnx.fit
  have t1 := hM.rnx.top
  have t2 := hM.rpt.fit
  have t3 := hM.rpt.top
  have t6 := hM.rtx.fit
  have t7 := hM.rtx.top
  have hpl : st < m.put.length := by rw [hR.puts]; exact hst
  have htl := hR.tx_le (pt m st b.toNat / 2)
  have HN : Hid (∀ W, Below B w1 W → Keeps w1 W → ∃ pb poff rb roff rc, p.no = some ⟨pb, poff, none⟩ ∧ W.cell? ⟨g, 0, none⟩ = some (.slice p.no m.next.length p.nc) ∧ W.cell? ⟨pb, poff + st, none⟩ = some (.slice (some ⟨rb, roff, none⟩) 256 rc) ∧ W.cell? ⟨rb, roff + b.toNat, none⟩ = some (.int .i64 (nx m st b.toNat : Int)) ∧ 256 ≤ rc ∧ rc ≤ 9223372036854775807) := fun W bW kW => by
    obtain ⟨pb, poff, rb, roff, rc, e, k1, k2, k3, k4, k5, k6⟩ := (hM.low bW).next_at hR hst hb
    exact ⟨pb, poff, rb, roff, rc, e, (hX.keeps kW).c0, k2, k4, k5, k6⟩
  obtain ⟨C, hC⟩ : ∃ C, C = mv m p := ⟨_, rfl⟩
  have HW2 : Hid (w.alloc (.cells C 74) = w1) := by show _ = _; rw [hC, HW1.out]
  obtain ⟨vg, vc, rfl, v1, v2⟩ := hB.form
  rw [← hC]
  obtain ⟨no, nc, po, pc, eo, ec, xo, xc⟩ := p
  simp only at e1 e7
  subst e1 e7
  generalize pt m st b.toNat = q at *
  generalize tx m (q / 2) = t at *
  generalize nx m st b.toNat = k at *
  have hd := div2 q
  have hmd := mod2 q
  have hq2 : q / 2 < m.txt.length := by omega
  clear hX hM hM0 hB0 HW1 hC bA b01
  have ew := HW2.out
  have eg := HG.out
  clear HW2 HG
  subst ew eg
  by_cases hodd : q % 2 = 1
  · rw [hodd] at hmd
    have HO2 : Hid (outp m st b = t.data.toList ++ [b]) := by show _ = _; rw [HO.out, if_pos hodd]
    clear HO hodd
    go_enter Try.func60, Try.ntmps60
    go_wp2_with (at_builtin; first | (refine Buf.text2 (by rfl) (.tmp 20) (.tmp 27) (by rfl) B _ out (by rfl) hB t (by rfl) (by omega) ?_; intro v1 w1 hb1 bl1 kl1; obtain ⟨vg1, vc1, hv1, v11, v21⟩ := hb1.form; subst hv1; rw [List.length_append, list_len] at hb1 v11 ⊢) | (refine Buf.byte2 (by rfl) (.tmp 32) (.tmp 34) (by rfl) B _ (out ++ t.data.toList) (by rfl) hb1 b (by rfl) (by rw [List.length_append, list_len]; omega) ?_; intro v' w' hb' bl2 kl2; have bl' := bl1.trans bl2; obtain ⟨nb, noff, sb, soff, sc, en, n1, n2, n3, n4, n5⟩ := HN.out w' bl' (kl1.trans kl2); subst en; obtain ⟨vg', vc', hv', v1', v2'⟩ := hb'.form; subst hv'))
    go_quiet (fail)
    go_wp2_with (fail)
    go_ret2
    have e : (out ++ t.data.toList ++ [b]).length = out.length + (t.size + 1) := by rw [List.length_append, List.length_append, list_len]; simp; omega
    rw [e] at hb'
    exact ⟨.slice vg' (out.length + (t.size + 1)) vc', rfl, by rw [HO2.out, ← List.append_assoc]; exact hb', below_drewN (HB01.out.trans bl') _⟩
  · have HO2 : Hid (outp m st b = t.data.toList) := by show _ = _; rw [HO.out, if_neg hodd, List.append_nil]
    have hz : q % 2 = 0 := by omega
    rw [hz] at hmd
    clear HO hodd hz
    go_enter Try.func60, Try.ntmps60
    go_wp2_with (at_builtin; refine Buf.text2 (by rfl) (.tmp 20) (.tmp 27) (by rfl) B _ out (by rfl) hB t (by rfl) (by omega) ?_; intro v' w' hb' bl' kl'; obtain ⟨nb, noff, sb, soff, sc, en, n1, n2, n3, n4, n5⟩ := HN.out w' bl' kl'; subst en; obtain ⟨vg', vc', hv', v1', v2'⟩ := hb'.form; subst hv')
    go_quiet (fail)
    go_wp2_with (fail)
    go_ret2
    rw [List.length_append, list_len] at hb'
    exact ⟨.slice vg' (out.length + t.size) vc', rfl, by rw [HO2.out]; exact hb', below_drewN (HB01.out.trans bl') _⟩
end Go.Proofs.Ytmmlibehihknbaa.tr
