/-
  Contracts over this program: trans.over, trans.finish, trans.along once more, with what they keep: all but the buffer's own block.
-/
import Derived.Test.YtlmodfeiphffcaaKAp
namespace Go.Proofs.Ytlmodfeiphffcaa.tr
open Go.ChangeShapes Go.WideShapes Go.ChangeAt Go.RowKit Go.Shelf
set_option linter.unusedVariables false

/-- the buffer is grown, all else is kept -/
structure Gr (w : World) (v : Value) (w' : World) (v' : Value) : Prop where
  gr : w.grownBy w' v.ownBlock
  wh : v'.ownBlock = v.ownBlock ∨ ∀ g, v'.ownBlock = some g → w.heap.size ≤ g
theorem Gr.refl (w : World) (v : Value) : Gr w v w v := ⟨⟨rfl, rfl, rfl, Nat.le_refl _, fun _ _ _ => rfl⟩, .inl rfl⟩
theorem Gr.trans {w w1 w2 : World} {v v1 v2 : Value} (h : Gr w v w1 v1) (k : Gr w1 v1 w2 v2) : Gr w v w2 v2 := by
  refine ⟨⟨k.gr.os.trans h.gr.os, k.gr.tape.trans h.gr.tape, k.gr.output.trans h.gr.output, Nat.le_trans h.gr.size k.gr.size, fun i hi hne => ?_⟩, ?_⟩
  · rw [k.gr.block i (Nat.lt_of_lt_of_le hi h.gr.size) ?_, h.gr.block i hi hne]
    rcases h.wh with e | e
    · rw [e]; exact hne
    · intro e2
      have := e i e2.symm
      omega
  · rcases k.wh with e | e
    · rw [e]; exact h.wh
    · exact .inr fun g hg => Nat.le_trans h.gr.size (e g hg)
theorem Gr.below {B : Nat} {w w' : World} {v v' : Value} {xs : List UInt8} (h : Gr w v w' v') (hb : Buf B v xs w) : Below B w w' := hb.grown h.gr
theorem Gr.drewN {w w' : World} {v v' : Value} (h : Gr w v w' v') (n : Nat) : Gr w v (w'.drewN n) v' := ⟨⟨h.gr.os, h.gr.tape, h.gr.output, h.gr.size, h.gr.block⟩, h.wh⟩
theorem Gr.undrew {w w' : World} {v v' : Value} (h : Gr w.drew v w' v') : Gr w v w' v' := ⟨⟨h.gr.os, h.gr.tape, h.gr.output, h.gr.size, h.gr.block⟩, h.wh⟩
theorem Gr.later {w w1 w2 : World} {v v1 : Value} (h : Gr w v w1 v1) (k : Below w1.heap.size w1 w2) : Gr w v w2 v1 :=
  ⟨⟨k.os.trans h.gr.os, k.tape.trans h.gr.tape, k.output.trans h.gr.output, Nat.le_trans h.gr.size k.size, fun i hi hne => (k.block i (Nat.lt_of_lt_of_le hi h.gr.size)).trans (h.gr.block i hi hne)⟩, h.wh⟩
theorem Gr.ahead {w w1 w2 : World} {v v2 : Value} (k : Below w.heap.size w w1) (h : Gr w1 v w2 v2) : Gr w v w2 v2 :=
  ⟨⟨h.gr.os.trans k.os, h.gr.tape.trans k.tape, h.gr.output.trans k.output, Nat.le_trans k.size h.gr.size, fun i hi hne => (h.gr.block i (Nat.lt_of_lt_of_le hi k.size) hne).trans (k.block i hi)⟩, by
    rcases h.wh with e | e
    · exact .inl e
    · exact .inr fun g hg => Nat.le_trans k.size (e g hg)⟩
/-- 'append(out, text...)', where the new row lies -/
theorem Buf.run_text2 {B : Nat} {v : Value} {xs : List UInt8} {w : World} (hb : Buf B v xs w) (s : ByteArray) (hlen : xs.length + s.size ≤ 140737488355328) (ty : TypeId) :
    ∃ v' w', (Builtin.append_ #[51, 9] ty #[v, .string s]).run Try.prog w = .ok v' w' ∧ Buf B v' (xs ++ s.data.toList) w' ∧ Gr w v w' v' := by
  obtain ⟨i0, hi0, hz0, hz1, hz2⟩ := info_parts info5
  obtain ⟨v', w', h1, h2, h3, h4⟩ := Lib.run_append_own_string (P := Try.prog) w B 51 9 ty 5 i0 Try.underlying51 Try.underlying9 hi0 hz0 hz1 hz2 v xs.length (Lib.byteCells xs) hb.1 s (by unfold maxLen; omega) hlen hb.2
  refine ⟨v', w', h1, ⟨?_, Nat.le_trans hb.2 h3.size⟩, h3, ?_⟩
  · rw [Lib.byteCells_append, ← strCells_list, List.length_append, list_len]
    exact h2
  · have hx := hb.1.1
    rcases hb.1.2 with ⟨rfl, h0⟩ | ⟨g, cap, cur, rfl, hbg, hg, hnc, hcm, hcs, htake⟩
    · by_cases hm : s.size = 0
      · rw [h4.2 ⟨rfl, hm⟩]
        exact .inl rfl
      · have hr := run_append_nil_string (P := Try.prog) w 51 9 ty 5 i0 (.int .u8 0) Try.underlying51 Try.underlying9 hi0 hz0 s (by omega) (by omega) (by rw [hz2]; omega)
        rw [h1] at hr
        injection hr with e1 e2
        right
        intro g hg
        rw [e1] at hg
        simp [Value.ownBlock] at hg
        omega
    · by_cases hroom : xs.length + s.size ≤ cap
      · have hr := Lib.run_append_room_string (P := Try.prog) w 51 9 ty 5 i0 Try.underlying51 Try.underlying9 hi0 hz1 g xs.length cap cur hg s hroom (by omega)
        rw [h1] at hr
        injection hr with e1 e2
        rw [e1]
        exact .inl rfl
      · have hr := Lib.run_append_grow_string (P := Try.prog) w 51 9 ty 5 i0 (.int .u8 0) Try.underlying51 Try.underlying9 hi0 hz0 ⟨g, 0, none⟩ xs.length cap (Lib.byteCells xs) (by rw [hz1]; exact hx) (hb.1.cells (g := g) rfl) s (by omega) (by omega) (by rw [hz2]; exact growslice_fits (by omega) (by omega))
        rw [h1] at hr
        injection hr with e1 e2
        right
        intro g' hg'
        rw [e1] at hg'
        simp [Value.ownBlock] at hg'
        omega
theorem Buf.text2 {ops : Array Oper} {rest : List Oper} {o : Oper} {a : Act} {Q : Exit → Act → World → Prop} {w : World} (hgd : o.guard = none) (sl x : Operand)
    (ho : o.op = .call { callee := .builtin .append, args := #[sl, x], argTypes := #[51, 9] })
    (B : Nat) (v : Value) (xs : List UInt8) (hs : a.eval sl = v) (hb : Buf B v xs w) (s : ByteArray) (hx : a.eval x = .string s) (hlen : xs.length + s.size ≤ 140737488355328)
    (h : ∀ v' w', Buf B v' (xs ++ s.data.toList) w' → Gr w v w' v' → wpList Try.prog ops Q rest (a.put o.dst v') w') : wpList Try.prog ops Q (o :: rest) a w := by
  refine wpList_plain hgd fun K hK => ?_
  obtain ⟨v', w', hr, h2, h3⟩ := hb.run_text2 s hlen o.type
  unfold Oper.wp execOp
  simp only [ho, resolve, invoke, builtin, Sem.run_bind, Sem.run_pure, Result.andThen_ok, List.map_toArray, List.map_cons, List.map_nil, hs, hx, hr]
  exact hK _ _ (h v' w' h2 h3)
theorem Buf.step_text2 {ops : Array Oper} {o : Oper} {a : Act} {w : World} {K : Act → World → Prop} {Q : Exit → Act → World → Prop} {E : Prop} (hgd : o.guard = none) (sl x : Operand)
    (ho : o.op = .call { callee := .builtin .append, args := #[sl, x], argTypes := #[51, 9] })
    (B : Nat) (v : Value) (xs : List UInt8) (hs : a.eval sl = v) (hb : Buf B v xs w) (s : ByteArray) (hx : a.eval x = .string s) (hlen : xs.length + s.size ≤ 140737488355328)
    (h : ∀ v' w', Buf B v' (xs ++ s.data.toList) w' → Gr w v w' v' → K (a.put o.dst v') w') : if Region.wanted o (yielded ops a.tmps) = true then Oper.wp Try.prog o a w K Q else E := by
  have hw : Region.wanted o (yielded ops a.tmps) = true := by simp [Region.wanted, hgd]
  rw [if_pos hw]
  obtain ⟨v', w', hr, h2, h3⟩ := hb.run_text2 s hlen o.type
  unfold Oper.wp execOp
  simp only [ho, resolve, invoke, builtin, Sem.run_bind, Sem.run_pure, Result.andThen_ok, List.map_toArray, List.map_cons, List.map_nil, hs, hx, hr]
  exact h v' w' h2 h3
/-- 'out = append(out, b)' -/
theorem Buf.byte2 {ops : Array Oper} {rest : List Oper} {o : Oper} {a : Act} {Q : Exit → Act → World → Prop} {w : World} (hgd : o.guard = none) (sl x : Operand)
    (ho : o.op = .call { callee := .builtin .append, args := #[sl, x], argTypes := #[51, 51] })
    (B : Nat) (v : Value) (xs : List UInt8) (hs : a.eval sl = v) (hb : Buf B v xs w) (b : UInt8) (hx : a.eval x = .slice (some ⟨w.heap.size, 0, none⟩) 1 1) (hlen : xs.length ≤ 1000000)
    (h : ∀ v' w', Buf B v' (xs ++ [b]) w' → Gr w v w' v' → wpList Try.prog ops Q rest (a.put o.dst v') w') : wpList Try.prog ops Q (o :: rest) a (w.alloc (.cells #[.int .u8 (b.toNat : Int)] 5)) := by
  have hb' := hb.later (below_alloc w (.cells #[.int .u8 (b.toNat : Int)] 5))
  refine ow.wpList_append hgd sl x 51 ho 5 (.int .u8 0) 1 1 Try.underlying51 info5 rfl (by decide) (by decide) B v xs.length (Lib.byteCells xs) w.heap.size [.int .u8 (b.toNat : Int)] hs hx hb'.1 rfl (ow.new1 w _ 5) (ow.one1 _ rfl) hlen hb'.2 ?_
  intro g' cap' w' ho' hg hw
  refine h _ w' ⟨?_, Nat.le_trans hb'.2 hg.size⟩ (Gr.ahead (below_alloc w _) ⟨hg, ?_⟩)
  · rw [byteCells_one, List.length_append]
    exact ho'
  · rcases hw with e | e
    · exact .inl e
    · exact .inr fun g hg => by
        simp [Value.ownBlock] at hg
        omega

/-- a machine's four cells, from a place of a block on -/
structure At4 (w : World) (g off : Nat) (m : Mc) (p : Mp) : Prop where
  c0 : w.cell? ⟨g, off, none⟩ = some (.slice p.no m.next.length p.nc)
  c1 : w.cell? ⟨g, off + 1, none⟩ = some (.slice p.po m.put.length p.pc)
  c2 : w.cell? ⟨g, off + 2, none⟩ = some (.slice p.eo m.fin.length p.ec)
  c3 : w.cell? ⟨g, off + 3, none⟩ = some (.slice p.xo m.txt.length p.xc)
theorem At4.low {B : Nat} {w w' : World} {g off : Nat} {m : Mc} {p : Mp} (h : At4 w g off m p) (hg : g < B) (b : Below B w w') : At4 w' g off m p :=
  ⟨by rw [b.cell hg]; exact h.c0, by rw [b.cell hg]; exact h.c1, by rw [b.cell hg]; exact h.c2, by rw [b.cell hg]; exact h.c3⟩
def Over2 (m : Mc) (st : Nat) (b : UInt8) : Prop := ∀ B g off p v out w, At4 w g off m p → g < B → MAt (Lo B) w m p → Buf B v out w → out.length ≤ 900000 → Calls Try.prog 49 #[.pointer (some ⟨g, off, none⟩), v, .int .i64 (st : Int), .int .u8 (b.toNat : Int)] w fun e w' => ∃ v', e = .returned (.tuple #[v', .int .i64 (nx m st b.toNat : Int)]) ∧ Buf B v' (out ++ outp m st b) w' ∧ Gr w v w' v'
set_option maxHeartbeats 1000000 in
set_option maxRecDepth 100000 in
theorem over2 (m : Mc) (hR : Right m) (st : Nat) (hst : st < m.next.length) (b : UInt8) : Over2 m st b := by
  intro B g off p v out w hX hg hM hB hlen
  have hb := b.toNat_lt
  obtain ⟨pb, poff, rb, roff, rc, e1, h1, h2, h3, h4, h5, h6⟩ := hM.put_at hR hst hb
  have hq := hR.pt_lt hst hb
  have HO : Hid (outp m st b = (tx m (pt m st b.toNat / 2)).data.toList ++ (if pt m st b.toNat % 2 = 1 then [b] else [])) := rfl
  obtain ⟨xb, xoff, e7, h7, h8⟩ := hM.tx_at (k := pt m st b.toNat / 2) (by omega)
  have hx1 := hX.c1
  have hx3 := hX.c3
  have t0 := hM.rnx.fit
  have t1 := hM.rnx.top
  have t2 := hM.rpt.fit
  have t3 := hM.rpt.top
  have t6 := hM.rtx.fit
  have t7 := hM.rtx.top
  have hpl : st < m.put.length := by rw [hR.puts]; exact hst
  have htl := hR.tx_le (pt m st b.toNat / 2)
  have HN : Hid (∀ W, Below B w W → ∃ pb poff rb roff rc, p.no = some ⟨pb, poff, none⟩ ∧ W.cell? ⟨g, off, none⟩ = some (.slice p.no m.next.length p.nc) ∧ W.cell? ⟨pb, poff + st, none⟩ = some (.slice (some ⟨rb, roff, none⟩) 256 rc) ∧ W.cell? ⟨rb, roff + b.toNat, none⟩ = some (.int .i64 (nx m st b.toNat : Int)) ∧ 256 ≤ rc ∧ rc ≤ 9223372036854775807) := fun W bW => by
    obtain ⟨pb, poff, rb, roff, rc, e, k1, k2, k3, k4, k5, k6⟩ := (hM.low bW).next_at hR hst hb
    exact ⟨pb, poff, rb, roff, rc, e, (hX.low hg bW).c0, k2, k4, k5, k6⟩
  obtain ⟨no, nc, po, pc, eo, ec, xo, xc⟩ := p
  simp only at e1 e7
  subst e1 e7
  generalize pt m st b.toNat = q at *
  generalize tx m (q / 2) = t at *
  generalize nx m st b.toNat = k at *
  have hd := div2 q
  have hmd := mod2 q
  obtain ⟨vg, vc, rfl, v1, v2⟩ := hB.form
  have hq2 : q / 2 < m.txt.length := by omega
  clear hX hM
  by_cases hodd : q % 2 = 1
  · rw [hodd] at hmd
    have HO2 : Hid (outp m st b = t.data.toList ++ [b]) := by show _ = _; rw [HO.out, if_pos hodd]
    clear HO hodd
    go_enter Try.func49, Try.ntmps49
    go_wp2_with (at_builtin; first | (refine Buf.text2 (by rfl) (.tmp 21) (.tmp 29) (by rfl) B _ out (by rfl) hB t (by rfl) (by omega) ?_; intro v1 w1 hb1 bl1; obtain ⟨vg1, vc1, hv1, v11, v21⟩ := hb1.form; subst hv1; rw [List.length_append, list_len] at hb1 v11 bl1 ⊢) | (refine Buf.byte2 (by rfl) (.tmp 34) (.tmp 36) (by rfl) B _ (out ++ t.data.toList) (by rfl) hb1 b (by rfl) (by rw [List.length_append, list_len]; omega) ?_; intro v' w' hb' bl2; have bl' := bl1.trans bl2; obtain ⟨nb, noff, sb, soff, sc, en, n1, n2, n3, n4, n5⟩ := HN.out w' (bl'.below hB); subst en; obtain ⟨vg', vc', hv', v1', v2'⟩ := hb'.form; subst hv'))
    go_quiet (fail)
    go_wp2_with (fail)
    go_ret2
    have e : (out ++ t.data.toList ++ [b]).length = out.length + (t.size + 1) := by rw [List.length_append, List.length_append, list_len]; simp; omega
    rw [e] at hb' bl'
    exact ⟨.slice vg' (out.length + (t.size + 1)) vc', rfl, by rw [HO2.out, ← List.append_assoc]; exact hb', bl'.drewN _⟩
  · have HO2 : Hid (outp m st b = t.data.toList) := by show _ = _; rw [HO.out, if_neg hodd, List.append_nil]
    have hz : q % 2 = 0 := by omega
    rw [hz] at hmd
    clear HO hodd hz
    go_enter Try.func49, Try.ntmps49
    go_wp2_with (at_builtin; refine Buf.text2 (by rfl) (.tmp 21) (.tmp 29) (by rfl) B _ out (by rfl) hB t (by rfl) (by omega) ?_; intro v' w' hb' bl'; obtain ⟨nb, noff, sb, soff, sc, en, n1, n2, n3, n4, n5⟩ := HN.out w' (bl'.below hB); subst en; obtain ⟨vg', vc', hv', v1', v2'⟩ := hb'.form; subst hv')
    go_quiet (fail)
    go_wp2_with (fail)
    go_ret2
    rw [List.length_append, list_len] at hb' bl'
    exact ⟨.slice vg' (out.length + t.size) vc', rfl, by rw [HO2.out]; exact hb', bl'.drewN _⟩
def Fin2 (m : Mc) (st : Nat) : Prop := ∀ B g off p v out w, At4 w g off m p → g < B → MAt (Lo B) w m p → Buf B v out w → out.length ≤ 70368744177664 → Calls Try.prog 29 #[.pointer (some ⟨g, off, none⟩), v, .int .i64 (st : Int)] w fun e w' => ∃ v', e = .returned v' ∧ Buf B v' (out ++ (tx m (en m st)).data.toList) w' ∧ Gr w v w' v'
set_option maxHeartbeats 1000000 in
set_option maxRecDepth 100000 in
theorem fin2 (m : Mc) (hR : Right m) (st : Nat) (hst : st < m.next.length) : Fin2 m st := by
  intro B g off p v out w hX hg hM hB hlen
  obtain ⟨pb, poff, e1, h1, h2⟩ := hM.fin_at hR hst
  have hq := hR.en_lt hst
  obtain ⟨xb, xoff, e7, h7, h8⟩ := hM.tx_at hq
  have hx2 := hX.c2
  have hx3 := hX.c3
  have t4 := hM.ren.fit
  have t5 := hM.ren.top
  have t6 := hM.rtx.fit
  have t7 := hM.rtx.top
  have hpl : st < m.fin.length := by rw [hR.fins]; exact hst
  have htl := hR.tx_le (en m st)
  obtain ⟨no, nc, po, pc, eo, ec, xo, xc⟩ := p
  simp only at e1 e7
  subst e1 e7
  generalize en m st = q at *
  generalize tx m q = t at *
  obtain ⟨vg, vc, rfl, v1, v2⟩ := hB.form
  clear hX hM
  go_enter Try.func29, Try.ntmps29
  go_wp2_with (fail)
  go_region_law (refine Buf.step_text2 (by rfl) (.tmp 7) (.tmp 20) (by rfl) B _ out (by rfl) hB.drew t (by rfl) (by omega) ?_; intro v' w' hb' bl'; obtain ⟨vg', vc', hv', v1', v2'⟩ := hb'.form; subst hv')
  all_goals
    go_wp2_with (fail)
    go_ret
    rw [List.length_append, list_len] at hb' bl'
    exact ⟨.slice vg' (out.length + t.size) vc', rfl, hb', bl'.undrew⟩

def Along2 (m : Mc) (st : Nat) (s : ByteArray) (room : Nat) : Prop := ∀ B g off p v out w, At4 w g off m p → g < B → MAt (Lo B) w m p → Buf B v out w → out.length ≤ 10000 → Calls Try.prog 28 #[.pointer (some ⟨g, off, none⟩), v, .int .i64 (st : Int), .string s, .int .i64 (room : Int)] w fun e w' => ∃ v' out' st', e = .returned (.tuple #[v', .int .i64 ((st' : Nat) : Int)]) ∧ Buf B v' out' w' ∧ Gr w v w' v' ∧ st' < m.next.length ∧ out'.length ≤ 14097 + room ∧ Alo m st s.data.toList out room out' st'
set_option maxHeartbeats 2000000 in
set_option maxRecDepth 100000 in
theorem along2 (m : Mc) (hR : Right m) (st : Nat) (hst : st < m.next.length) (s : ByteArray) (hs : s.size ≤ 9223372036854775807) (room : Nat) (hroom : room ≤ 262144) : Along2 m st s room := by
  intro B g off p v out w hX hg hM hB hlen
  have HX : Hid (∀ W, Below B w W → At4 W g off m p ∧ MAt (Lo B) W m p) := fun W b => ⟨hX.low hg b, hM.low b⟩
  obtain ⟨vg, vc, rfl, v1, v2⟩ := hB.form
  clear hX hM
  have hB0 := hB
  have HBB := (show Hid _ from hB)
  clear hB
  go_enter Try.func28, Try.ntmps28
  go_wp2_with (fail)
  go_loopw [1, 2, 12] (fun y z x wr => ∃ (i : Nat) (o1 : List UInt8) (q : Nat), x = .int .i64 i ∧ z = .int .i64 q ∧ i ≤ s.size ∧ Buf B y o1 wr ∧ Gr w (.slice vg out.length vc) wr y ∧ q < m.next.length ∧ o1.length ≤ 10000 + room + 4097 ∧ Hid (o1 = out ++ (go m st (s.data.toList.take i)).1 ∧ q = (go m st (s.data.toList.take i)).2)) (fun _ _ x _ => s.size - (intOf x).toNat)
  case atStart => exact ⟨0, out, st, rfl, rfl, by omega, hB0, Gr.refl _ _, hst, by omega, by simp [go], by simp [go]⟩
  case round =>
    obtain ⟨i, o1, q, rfl, rfl, hi, hB1, bl1, hq, hl1, HI⟩ := hrel
    clear hB0 v1 v2
    obtain ⟨yg, yc, rfl, y1, y2⟩ := hB1.form
    by_cases hend : i < s.size
    · have f1 : decide ((i : Int) < (s.size : Int)) = true := decide_eq_true (by omega)
      by_cases hrm : o1.length ≤ room
      · have f2 : decide ((o1.length : Int) ≤ (room : Int)) = true := decide_eq_true (by omega)
        obtain ⟨hXr, hMr⟩ := HX.out wr (bl1.below HBB.out)
        have c51 := over2 m hR q hq s[i] B g off p _ o1 wr hXr hg hMr hB1 (by omega)
        have hi2 : i < s.data.toList.length := by rw [list_len]; exact hend
        have HT := (show Hid _ from take_succ_go m st s.data.toList i hi2)
        have hol := outp_len hR q s[i]
        have hnl := hR.nx_lt hq s[i].toNat_lt
        have HGI : Hid (s.data.toList[i] = s[i]) := rfl
        rw [HGI.out] at HT
        rw [← HI.out.2] at HT
        generalize hk : nx m q s[i].toNat = k at *
        clear hXr hMr hB1
        have hii : (i : Int) < (s.size : Int) := by omega
        go_wp2_with (go_at_call 49; refine c51.mono ?_; rintro e w2 ⟨v', rfl, hb', bl'⟩; obtain ⟨vg', vc', hv', v1', v2'⟩ := hb'.form; subst hv')
        go_roundw
        case rel =>
          rw [List.length_append] at hb' bl'
          refine ⟨i + 1, o1 ++ outp m q s[i], k, by go_num, rfl, by omega, hb', bl1.trans bl', hnl, by rw [List.length_append]; omega, ?_, ?_⟩
          · rw [HT.out, ← List.append_assoc, ← HI.out.1]
          · rw [HT.out]
        case measure => simp [intOf]; omega
      · have f2 : decide ((o1.length : Int) ≤ (room : Int)) = false := decide_eq_false (by omega)
        have hr2 : room < o1.length := by omega
        clear hrm
        go_wp2_with (fail)
        go_ret2
        exact ⟨_, o1, q, rfl, hB1, bl1, hq, by omega, i, by rw [list_len]; exact hi, HI.out.1, HI.out.2, .inr hr2⟩
    · have f1 : decide ((i : Int) < (s.size : Int)) = false := decide_eq_false (by omega)
      have he : Hid (i = s.size) := by show _ = _; omega
      have hz : decide (i < s.size) = false := decide_eq_false hend
      go_wp2_with (fail)
      go_ret2
      exact ⟨_, o1, q, rfl, hB1, bl1, hq, by omega, i, by rw [list_len]; exact hi, HI.out.1, HI.out.2, .inl (by rw [list_len]; exact he.out)⟩
end Go.Proofs.Ytlmodfeiphffcaa.tr
