/-
  Texts put together: Contracts over this program: trans.over. Contracts over this program: trans.finish, trans.along. Contracts over this program: a text's copy (strings.Clone), trans.fresh, trans.Run.
-/
import Derived.Test.YtlmodfeiphffcaaKTd
import Derived.Lib.AppendStr
import Derived.Lib.ConvBytes
import Derived.OwnWalk
import Derived.Maps.AppendAt
import Derived.Laws.OwnMore
import Derived.Shelf.Abstract
import Derived.Deep.RegionLaw
import Derived.Deep.RegionWith
import Derived.Shelf.Pu.Clone
namespace Go.Proofs.Ytlmodfeiphffcaa.tr
open Go.ChangeShapes Go.WideShapes Go.ChangeAt Go.RowKit Go.Shelf
set_option linter.unusedVariables false

section
variable {B : Nat} {w : World} {m : Mc} {p : Mp}
theorem MAt.put_at (hM : MAt (Lo B) w m p) (hR : Right m) {s b : Nat} (hs : s < m.next.length) (hb : b < 256) : ∃ pb poff rb roff rc, p.po = some ⟨pb, poff, none⟩ ∧ pb < B ∧ w.cell? ⟨pb, poff + s, none⟩ = some (.slice (some ⟨rb, roff, none⟩) 256 rc) ∧ rb < B ∧ w.cell? ⟨rb, roff + b, none⟩ = some (.int .i64 (pt m s b : Int)) ∧ 256 ≤ rc ∧ rc ≤ 9223372036854775807 := by
  have hs' : s < m.put.length := by rw [hR.puts]; exact hs
  obtain ⟨pb, poff, oi, ci, e, h1, h2, h3⟩ := hM.rpt.lie s hs'
  obtain ⟨r, e1, e2, e3⟩ := hR.put_row hs
  rw [List.getElem?_eq_getElem hs'] at e1
  obtain rfl := Option.some.inj e1
  obtain ⟨rb, roff, e4, h4, h5⟩ := h3.lie b (by omega)
  have h6 := e3 b hb
  rw [List.getElem?_eq_getElem (by omega)] at h6
  rw [Option.some.inj h6] at h5
  subst e4
  rw [e2] at h2
  have hf := h3.fit
  rw [e2] at hf
  exact ⟨pb, poff, rb, roff, ci, e, h1, h2, h4, h5, hf, h3.top⟩
theorem MAt.next_at (hM : MAt (Lo B) w m p) (hR : Right m) {s b : Nat} (hs : s < m.next.length) (hb : b < 256) : ∃ pb poff rb roff rc, p.no = some ⟨pb, poff, none⟩ ∧ pb < B ∧ w.cell? ⟨pb, poff + s, none⟩ = some (.slice (some ⟨rb, roff, none⟩) 256 rc) ∧ rb < B ∧ w.cell? ⟨rb, roff + b, none⟩ = some (.int .i64 (nx m s b : Int)) ∧ 256 ≤ rc ∧ rc ≤ 9223372036854775807 := by
  obtain ⟨pb, poff, oi, ci, e, h1, h2, h3⟩ := hM.rnx.lie s hs
  obtain ⟨r, e1, e2, e3⟩ := hR.next_row hs
  rw [List.getElem?_eq_getElem hs] at e1
  obtain rfl := Option.some.inj e1
  obtain ⟨rb, roff, e4, h4, h5⟩ := h3.lie b (by omega)
  have h6 := e3 b hb
  rw [List.getElem?_eq_getElem (by omega)] at h6
  rw [Option.some.inj h6] at h5
  subst e4
  rw [e2] at h2
  have hf := h3.fit
  rw [e2] at hf
  exact ⟨pb, poff, rb, roff, ci, e, h1, h2, h4, h5, hf, h3.top⟩
theorem MAt.fin_at (hM : MAt (Lo B) w m p) (hR : Right m) {s : Nat} (hs : s < m.next.length) : ∃ pb poff, p.eo = some ⟨pb, poff, none⟩ ∧ pb < B ∧ w.cell? ⟨pb, poff + s, none⟩ = some (.int .i64 (en m s : Int)) := by
  have hs' : s < m.fin.length := by rw [hR.fins]; exact hs
  obtain ⟨pb, poff, e, h1, h2⟩ := hM.ren.lie s hs'
  have h6 := hR.fin_at hs
  rw [List.getElem?_eq_getElem hs'] at h6
  rw [Option.some.inj h6] at h2
  exact ⟨pb, poff, e, h1, h2⟩
theorem MAt.tx_at (hM : MAt (Lo B) w m p) {k : Nat} (hk : k < m.txt.length) : ∃ pb poff, p.xo = some ⟨pb, poff, none⟩ ∧ pb < B ∧ w.cell? ⟨pb, poff + k, none⟩ = some (.string (tx m k)) := by
  obtain ⟨pb, poff, e, h1, h2⟩ := hM.rtx.lie k hk
  have h6 := tr.tx_at hk
  rw [List.getElem?_eq_getElem hk] at h6
  rw [Option.some.inj h6] at h2
  exact ⟨pb, poff, e, h1, h2⟩
end
theorem div2 (q : Nat) : (q : Int).tdiv 2 = ((q / 2 : Nat) : Int) := by rw [show (2 : Int) = ((2 : Nat) : Int) from rfl, Int.ofNat_tdiv]
theorem mod2 (q : Nat) : (q : Int).tmod 2 = ((q % 2 : Nat) : Int) := by rw [show (2 : Int) = ((2 : Nat) : Int) from rfl, Int.ofNat_tmod]

/-- a row of bytes that the call owns, in blocks from B on -/
def Buf (B : Nat) (v : Value) (xs : List UInt8) (w : World) : Prop := w.ownsRow B 5 1 v xs.length (Lib.byteCells xs) ∧ B ≤ w.heap.size
theorem strCells_list (s : ByteArray) : Lib.strCells s = Lib.byteCells s.data.toList := rfl
theorem byteCells_one (l : List UInt8) (b : UInt8) : Lib.byteCells (l ++ [b]) = Lib.byteCells l ++ [.int .u8 (b.toNat : Int)] := by simp [Lib.byteCells]
theorem own_form {W : World} {B e sz n : Nat} {v : Value} {xs : List Value} (h : W.ownsRow B e sz v n xs) : ∃ g cap, v = .slice g n cap ∧ n ≤ cap ∧ cap ≤ 9223372036854775807 := by
  rcases h.2 with ⟨rfl, rfl⟩ | ⟨gg, cap, cur, rfl, hb, _, h1, h2, _⟩
  · exact ⟨_, _, rfl, Nat.le_refl _, by omega⟩
  · exact ⟨_, _, rfl, h1, by unfold maxLen at h2; omega⟩
theorem own_keep {W W' : World} {B e sz n : Nat} {v : Value} {xs : List Value} (h : W.ownsRow B e sz v n xs) (hh : ∀ g, v.ownBlock = some g → W'.heap[g]? = W.heap[g]?) : W'.ownsRow B e sz v n xs := by
  refine ⟨h.1, ?_⟩
  rcases h.2 with h0 | ⟨g, cap, cur, rfl, hb, hg, hr⟩
  · exact .inl h0
  · exact .inr ⟨g, cap, cur, rfl, hb, (hh g rfl).trans hg, hr⟩
theorem Buf.later {B : Nat} {v : Value} {xs : List UInt8} {w w' : World} (h : Buf B v xs w) (b : Below w.heap.size w w') : Buf B v xs w' :=
  ⟨own_keep h.1 fun g eg => b.block g (h.1.lt g eg).2, Nat.le_trans h.2 b.size⟩
theorem Buf.form {B : Nat} {v : Value} {xs : List UInt8} {w : World} (h : Buf B v xs w) : ∃ g cap, v = .slice g xs.length cap ∧ xs.length ≤ cap ∧ cap ≤ 9223372036854775807 := own_form h.1
theorem Buf.grown {B : Nat} {v : Value} {xs : List UInt8} {w w' : World} (h : Buf B v xs w) (hg : w.grownBy w' v.ownBlock) : Below B w w' := (Below.refl _ _).grown hg h.2 (fun k hk => (h.1.lt k hk).1)
/-- 'out = append(out, text...)' -/
theorem Buf.text {ops : Array Oper} {rest : List Oper} {o : Oper} {a : Act} {Q : Exit → Act → World → Prop} {w : World} (hgd : o.guard = none) (sl x : Operand)
    (ho : o.op = .call { callee := .builtin .append, args := #[sl, x], argTypes := #[51, 9] })
    (B : Nat) (v : Value) (xs : List UInt8) (hs : a.eval sl = v) (hb : Buf B v xs w) (s : ByteArray) (hx : a.eval x = .string s) (hlen : xs.length + s.size ≤ 140737488355328)
    (h : ∀ v' w', Buf B v' (xs ++ s.data.toList) w' → Below B w w' → wpList Try.prog ops Q rest (a.put o.dst v') w') : wpList Try.prog ops Q (o :: rest) a w := by
  obtain ⟨i0, hi0, hz0, hz1, hz2⟩ := info_parts info5
  refine Lib.wpList_append_own_string w hgd sl x 51 9 ho B 5 i0 Try.underlying51 Try.underlying9 hi0 hz0 hz1 hz2 v xs.length (Lib.byteCells xs) hs hb.1 s hx (by unfold maxLen; omega) hlen hb.2 ?_
  intro v' w' ho' hg _
  refine h v' w' ⟨?_, Nat.le_trans hb.2 hg.size⟩ (hb.grown hg)
  rw [Lib.byteCells_append, ← strCells_list, List.length_append, list_len]
  exact ho'
/-- 'out = append(out, b)' -/
theorem Buf.byte {ops : Array Oper} {rest : List Oper} {o : Oper} {a : Act} {Q : Exit → Act → World → Prop} {w : World} (hgd : o.guard = none) (sl x : Operand)
    (ho : o.op = .call { callee := .builtin .append, args := #[sl, x], argTypes := #[51, 51] })
    (B : Nat) (v : Value) (xs : List UInt8) (hs : a.eval sl = v) (hb : Buf B v xs w) (b : UInt8) (hx : a.eval x = .slice (some ⟨w.heap.size, 0, none⟩) 1 1) (hlen : xs.length + 1 ≤ 140737488355328)
    (h : ∀ v' w', Buf B v' (xs ++ [b]) w' → Below B w w' → wpList Try.prog ops Q rest (a.put o.dst v') w') : wpList Try.prog ops Q (o :: rest) a (w.alloc (.cells #[.int .u8 (b.toNat : Int)] 5)) := by
  obtain ⟨i0, hi0, hz0, hz1, hz2⟩ := info_parts info5
  have hb' := hb.later (below_alloc w (.cells #[.int .u8 (b.toNat : Int)] 5))
  refine wpList_append_own _ hgd sl x 51 ho B 5 i0 (.int .u8 0) 1 1 Try.underlying51 hi0 hz0 hz1 hz2 rfl (by decide) v xs.length (Lib.byteCells xs) hs hb'.1 ⟨w.heap.size, 0, none⟩ 1 1 [.int .u8 (b.toNat : Int)] hx rfl ?_ ?_ (by unfold maxLen; omega) (by omega) hb'.2 ?_
  · intro j u hj
    match j, hj with
    | 0, hj => simp at hj; subst hj; simp [Addr.add]
    | (j + 1), hj => simp at hj
  · intro u hu; simp at hu; subst hu; rfl
  · intro v' w' ho' hg _
    refine h v' w' ⟨?_, Nat.le_trans hb'.2 hg.size⟩ (((below_alloc w _).mono hb.2).trans (hb'.grown hg))
    rw [byteCells_one, List.length_append]
    exact ho'

def OverIs (m : Mc) (st : Nat) (b : UInt8) : Prop := ∀ B g p v out w, Box w g m p → g < B → MAt (Lo B) w m p → Buf B v out w → out.length ≤ 70368744177664 → Calls Try.prog 49 #[.pointer (some ⟨g, 0, none⟩), v, .int .i64 (st : Int), .int .u8 (b.toNat : Int)] w fun e w' => ∃ v', e = .returned (.tuple #[v', .int .i64 (nx m st b.toNat : Int)]) ∧ Buf B v' (out ++ outp m st b) w' ∧ Below B w w'
set_option maxHeartbeats 1000000 in
set_option maxRecDepth 100000 in
theorem over_any (m : Mc) (hR : Right m) (st : Nat) (hst : st < m.next.length) (b : UInt8) : OverIs m st b := by
  intro B g p v out w hX hg hM hB hlen
  have hb := b.toNat_lt
  obtain ⟨pb, poff, rb, roff, rc, e1, h1, h2, h3, h4, h5, h6⟩ := hM.put_at hR hst hb
  have hq := hR.pt_lt hst hb
  have HO : Hid (outp m st b = (tx m (pt m st b.toNat / 2)).data.toList ++ (if pt m st b.toNat % 2 = 1 then [b] else [])) := rfl
  obtain ⟨xb, xoff, e7, h7, h8⟩ := hM.tx_at (k := pt m st b.toNat / 2) (by omega)
  have hx1 := hX.c1
  have hx3 := hX.c3
  have t0 := hM.rnx.fit
  have t1 := hM.rnx.top
  have t2 := hM.rpt.fit
  have t3 := hM.rpt.top
  have t6 := hM.rtx.fit
  have t7 := hM.rtx.top
  have hpl : st < m.put.length := by rw [hR.puts]; exact hst
  have htl := hR.tx_le (pt m st b.toNat / 2)
  have HN : Hid (∀ W, Below B w W → ∃ pb poff rb roff rc, p.no = some ⟨pb, poff, none⟩ ∧ W.cell? ⟨g, 0, none⟩ = some (.slice p.no m.next.length p.nc) ∧ W.cell? ⟨pb, poff + st, none⟩ = some (.slice (some ⟨rb, roff, none⟩) 256 rc) ∧ W.cell? ⟨rb, roff + b.toNat, none⟩ = some (.int .i64 (nx m st b.toNat : Int)) ∧ 256 ≤ rc ∧ rc ≤ 9223372036854775807) := fun W bW => by
    obtain ⟨pb, poff, rb, roff, rc, e, k1, k2, k3, k4, k5, k6⟩ := (hM.low bW).next_at hR hst hb
    exact ⟨pb, poff, rb, roff, rc, e, (hX.low hg bW).c0, k2, k4, k5, k6⟩
  obtain ⟨no, nc, po, pc, eo, ec, xo, xc⟩ := p
  simp only at e1 e7
  subst e1 e7
  generalize pt m st b.toNat = q at *
  generalize tx m (q / 2) = t at *
  generalize nx m st b.toNat = k at *
  have hd := div2 q
  have hmd := mod2 q
  obtain ⟨vg, vc, rfl, v1, v2⟩ := hB.form
  have hq2 : q / 2 < m.txt.length := by omega
  clear hX hM
  by_cases hodd : q % 2 = 1
  · rw [hodd] at hmd
    have HO2 : Hid (outp m st b = t.data.toList ++ [b]) := by show _ = _; rw [HO.out, if_pos hodd]
    clear HO hodd
    go_enter Try.func49, Try.ntmps49
    go_wp2_with (at_builtin; first | (refine Buf.text (by rfl) (.tmp 21) (.tmp 29) (by rfl) B _ out (by rfl) hB t (by rfl) (by omega) ?_; intro v1 w1 hb1 bl1; obtain ⟨vg1, vc1, hv1, v11, v21⟩ := hb1.form; subst hv1; rw [List.length_append, list_len] at hb1 v11 ⊢) | (refine Buf.byte (by rfl) (.tmp 34) (.tmp 36) (by rfl) B _ (out ++ t.data.toList) (by rfl) hb1 b (by rfl) (by rw [List.length_append, list_len]; omega) ?_; intro v' w' hb' bl2; have bl' := bl1.trans bl2; obtain ⟨nb, noff, sb, soff, sc, en, n1, n2, n3, n4, n5⟩ := HN.out w' bl'; subst en; obtain ⟨vg', vc', hv', v1', v2'⟩ := hb'.form; subst hv'))
    go_quiet (fail)
    go_wp2_with (fail)
    go_ret2
    have e : (out ++ t.data.toList ++ [b]).length = out.length + (t.size + 1) := by rw [List.length_append, List.length_append, list_len]; simp; omega
    rw [e] at hb'
    exact ⟨.slice vg' (out.length + (t.size + 1)) vc', rfl, by rw [HO2.out, ← List.append_assoc]; exact hb', below_drewN bl' _⟩
  · have HO2 : Hid (outp m st b = t.data.toList) := by show _ = _; rw [HO.out, if_neg hodd, List.append_nil]
    have hz : q % 2 = 0 := by omega
    rw [hz] at hmd
    clear HO hodd hz
    go_enter Try.func49, Try.ntmps49
    go_wp2_with (at_builtin; refine Buf.text (by rfl) (.tmp 21) (.tmp 29) (by rfl) B _ out (by rfl) hB t (by rfl) (by omega) ?_; intro v' w' hb' bl'; obtain ⟨nb, noff, sb, soff, sc, en, n1, n2, n3, n4, n5⟩ := HN.out w' bl'; subst en; obtain ⟨vg', vc', hv', v1', v2'⟩ := hb'.form; subst hv')
    go_quiet (fail)
    go_wp2_with (fail)
    go_ret2
    rw [List.length_append, list_len] at hb'
    exact ⟨.slice vg' (out.length + t.size) vc', rfl, by rw [HO2.out]; exact hb', below_drewN bl' _⟩
end Go.Proofs.Ytlmodfeiphffcaa.tr

namespace Go.Proofs.Ytlmodfeiphffcaa.tr
open Go.ChangeShapes Go.WideShapes Go.ChangeAt Go.RowKit Go.Shelf
set_option linter.unusedVariables false

theorem Buf.run_text {B : Nat} {v : Value} {xs : List UInt8} {w : World} (hb : Buf B v xs w) (s : ByteArray) (hlen : xs.length + s.size ≤ 140737488355328) (ty : TypeId) :
    ∃ v' w', (Builtin.append_ #[51, 9] ty #[v, .string s]).run Try.prog w = .ok v' w' ∧ Buf B v' (xs ++ s.data.toList) w' ∧ Below B w w' := by
  obtain ⟨i0, hi0, hz0, hz1, hz2⟩ := info_parts info5
  obtain ⟨v', w', h1, h2, h3, _⟩ := Lib.run_append_own_string (P := Try.prog) w B 51 9 ty 5 i0 Try.underlying51 Try.underlying9 hi0 hz0 hz1 hz2 v xs.length (Lib.byteCells xs) hb.1 s (by unfold maxLen; omega) hlen hb.2
  refine ⟨v', w', h1, ⟨?_, Nat.le_trans hb.2 h3.size⟩, hb.grown h3⟩
  rw [Lib.byteCells_append, ← strCells_list, List.length_append, list_len]
  exact h2
theorem Buf.wp_text {o : Oper} {a : Act} {w : World} {K : Act → World → Prop} {Q : Exit → Act → World → Prop} (sl x : Operand)
    (ho : o.op = .call { callee := .builtin .append, args := #[sl, x], argTypes := #[51, 9] })
    (B : Nat) (v : Value) (xs : List UInt8) (hs : a.eval sl = v) (hb : Buf B v xs w) (s : ByteArray) (hx : a.eval x = .string s) (hlen : xs.length + s.size ≤ 140737488355328)
    (h : ∀ v' w', Buf B v' (xs ++ s.data.toList) w' → Below B w w' → K (a.put o.dst v') w') : Oper.wp Try.prog o a w K Q := by
  obtain ⟨v', w', hr, h2, h3⟩ := hb.run_text s hlen o.type
  unfold Oper.wp execOp
  simp only [ho, resolve, invoke, builtin, Sem.run_bind, Sem.run_pure, Result.andThen_ok, List.map_toArray, List.map_cons, List.map_nil, hs, hx, hr]
  exact h v' w' h2 h3
theorem Buf.step_text {ops : Array Oper} {o : Oper} {a : Act} {w : World} {K : Act → World → Prop} {Q : Exit → Act → World → Prop} {E : Prop} (hgd : o.guard = none) (sl x : Operand)
    (ho : o.op = .call { callee := .builtin .append, args := #[sl, x], argTypes := #[51, 9] })
    (B : Nat) (v : Value) (xs : List UInt8) (hs : a.eval sl = v) (hb : Buf B v xs w) (s : ByteArray) (hx : a.eval x = .string s) (hlen : xs.length + s.size ≤ 140737488355328)
    (h : ∀ v' w', Buf B v' (xs ++ s.data.toList) w' → Below B w w' → K (a.put o.dst v') w') : if Region.wanted o (yielded ops a.tmps) = true then Oper.wp Try.prog o a w K Q else E := by
  have hw : Region.wanted o (yielded ops a.tmps) = true := by simp [Region.wanted, hgd]
  rw [if_pos hw]
  exact Buf.wp_text sl x ho B v xs hs hb s hx hlen h
theorem undrew {B : Nat} {w w' : World} (h : Below B w.drew w') : Below B w w' := ⟨h.os, h.tape, h.output, h.size, h.block⟩
theorem Buf.drew {B : Nat} {v : Value} {xs : List UInt8} {w : World} (h : Buf B v xs w) : Buf B v xs w.drew := h

def FinIs (m : Mc) (st : Nat) : Prop := ∀ B g p v out w, Box w g m p → g < B → MAt (Lo B) w m p → Buf B v out w → out.length ≤ 70368744177664 → Calls Try.prog 29 #[.pointer (some ⟨g, 0, none⟩), v, .int .i64 (st : Int)] w fun e w' => ∃ v', e = .returned v' ∧ Buf B v' (out ++ (tx m (en m st)).data.toList) w' ∧ Below B w w'
set_option maxHeartbeats 1000000 in
set_option maxRecDepth 100000 in
theorem fin_any (m : Mc) (hR : Right m) (st : Nat) (hst : st < m.next.length) : FinIs m st := by
  intro B g p v out w hX hg hM hB hlen
  obtain ⟨pb, poff, e1, h1, h2⟩ := hM.fin_at hR hst
  have hq := hR.en_lt hst
  obtain ⟨xb, xoff, e7, h7, h8⟩ := hM.tx_at hq
  have hx2 := hX.c2
  have hx3 := hX.c3
  have t4 := hM.ren.fit
  have t5 := hM.ren.top
  have t6 := hM.rtx.fit
  have t7 := hM.rtx.top
  have hpl : st < m.fin.length := by rw [hR.fins]; exact hst
  have htl := hR.tx_le (en m st)
  obtain ⟨no, nc, po, pc, eo, ec, xo, xc⟩ := p
  simp only at e1 e7
  subst e1 e7
  generalize en m st = q at *
  generalize tx m q = t at *
  obtain ⟨vg, vc, rfl, v1, v2⟩ := hB.form
  clear hX hM
  go_enter Try.func29, Try.ntmps29
  go_wp2_with (fail)
  go_region_law (refine Buf.step_text (by rfl) (.tmp 7) (.tmp 20) (by rfl) B _ out (by rfl) hB.drew t (by rfl) (by omega) ?_; intro v' w' hb' bl'; obtain ⟨vg', vc', hv', v1', v2'⟩ := hb'.form; subst hv')
  all_goals
    go_wp2_with (fail)
    go_ret
    rw [List.length_append, list_len] at hb'
    exact ⟨.slice vg' (out.length + t.size) vc', rfl, hb', undrew bl'⟩

/-- where going along has ended -/
def Alo (m : Mc) (st : Nat) (l out : List UInt8) (room : Nat) (out' : List UInt8) (st' : Nat) : Prop :=
  ∃ i, i ≤ l.length ∧ out' = out ++ (go m st (l.take i)).1 ∧ st' = (go m st (l.take i)).2 ∧ (i = l.length ∨ room < out'.length)
def AlongIs (m : Mc) (st : Nat) (s : ByteArray) (room : Nat) : Prop := ∀ B g p v out w, Box w g m p → g < B → MAt (Lo B) w m p → Buf B v out w → out.length ≤ 1000000 → Calls Try.prog 28 #[.pointer (some ⟨g, 0, none⟩), v, .int .i64 (st : Int), .string s, .int .i64 (room : Int)] w fun e w' => ∃ v' out' st', e = .returned (.tuple #[v', .int .i64 ((st' : Nat) : Int)]) ∧ Buf B v' out' w' ∧ Below B w w' ∧ st' < m.next.length ∧ out'.length ≤ 2000000 ∧ Alo m st s.data.toList out room out' st'
set_option maxHeartbeats 2000000 in
set_option maxRecDepth 100000 in
theorem along_any (m : Mc) (hR : Right m) (st : Nat) (hst : st < m.next.length) (s : ByteArray) (hs : s.size ≤ 9223372036854775807) (room : Nat) (hroom : room ≤ 262144) : AlongIs m st s room := by
  intro B g p v out w hX hg hM hB hlen
  have HX : Hid (∀ W, Below B w W → Box W g m p ∧ MAt (Lo B) W m p) := fun W b => ⟨hX.low hg b, hM.low b⟩
  obtain ⟨vg, vc, rfl, v1, v2⟩ := hB.form
  clear hX hM
  have hB0 := hB
  clear hB
  go_enter Try.func28, Try.ntmps28
  go_wp2_with (fail)
  go_loopw [1, 2, 12] (fun y z x wr => ∃ (i : Nat) (o1 : List UInt8) (q : Nat), x = .int .i64 i ∧ z = .int .i64 q ∧ i ≤ s.size ∧ Buf B y o1 wr ∧ Below B w wr ∧ q < m.next.length ∧ o1.length ≤ 1000000 + 262144 + 4097 ∧ Hid (o1 = out ++ (go m st (s.data.toList.take i)).1 ∧ q = (go m st (s.data.toList.take i)).2)) (fun _ _ x _ => s.size - (intOf x).toNat)
  case atStart => exact ⟨0, out, st, rfl, rfl, by omega, hB0, Below.refl _ _, hst, by omega, by simp [go], by simp [go]⟩
  case round =>
    obtain ⟨i, o1, q, rfl, rfl, hi, hB1, bl1, hq, hl1, HI⟩ := hrel
    clear hB0 v1 v2
    obtain ⟨yg, yc, rfl, y1, y2⟩ := hB1.form
    by_cases hend : i < s.size
    · have f1 : decide ((i : Int) < (s.size : Int)) = true := decide_eq_true (by omega)
      by_cases hrm : o1.length ≤ room
      · have f2 : decide ((o1.length : Int) ≤ (room : Int)) = true := decide_eq_true (by omega)
        obtain ⟨hXr, hMr⟩ := HX.out wr bl1
        have c51 := over_any m hR q hq s[i] B g p _ o1 wr hXr hg hMr hB1 (by omega)
        have hi2 : i < s.data.toList.length := by rw [list_len]; exact hend
        have HT := (show Hid _ from take_succ_go m st s.data.toList i hi2)
        have hol := outp_len hR q s[i]
        have hnl := hR.nx_lt hq s[i].toNat_lt
        have HGI : Hid (s.data.toList[i] = s[i]) := rfl
        rw [HGI.out] at HT
        rw [← HI.out.2] at HT
        generalize hk : nx m q s[i].toNat = k at *
        clear hXr hMr hB1
        have hii : (i : Int) < (s.size : Int) := by omega
        go_wp2_with (go_at_call 49; refine c51.mono ?_; rintro e w2 ⟨v', rfl, hb', bl'⟩; obtain ⟨vg', vc', hv', v1', v2'⟩ := hb'.form; subst hv')
        go_roundw
        case rel =>
          rw [List.length_append] at hb'
          refine ⟨i + 1, o1 ++ outp m q s[i], k, by go_num, rfl, by omega, hb', bl1.trans bl', hnl, by rw [List.length_append]; omega, ?_, ?_⟩
          · rw [HT.out, ← List.append_assoc, ← HI.out.1]
          · rw [HT.out]
        case measure => simp [intOf]; omega
      · have f2 : decide ((o1.length : Int) ≤ (room : Int)) = false := decide_eq_false (by omega)
        have hr2 : room < o1.length := by omega
        clear hrm
        go_wp2_with (fail)
        go_ret2
        exact ⟨_, o1, q, rfl, hB1, bl1, hq, by omega, i, by rw [list_len]; exact hi, HI.out.1, HI.out.2, .inr hr2⟩
    · have f1 : decide ((i : Int) < (s.size : Int)) = false := decide_eq_false (by omega)
      have he : Hid (i = s.size) := by show _ = _; omega
      have hz : decide (i < s.size) = false := decide_eq_false hend
      go_wp2_with (fail)
      go_ret2
      exact ⟨_, o1, q, rfl, hB1, bl1, hq, by omega, i, by rw [list_len]; exact hi, HI.out.1, HI.out.2, .inl (by rw [list_len]; exact he.out)⟩
end Go.Proofs.Ytlmodfeiphffcaa.tr

namespace Go.Proofs.Ytlmodfeiphffcaa.tr
open Go.ChangeShapes Go.WideShapes Go.ChangeAt Go.RowKit Go.Shelf
set_option linter.unusedVariables false

/-- the library's contract for a text's copy, laid at this program -/
def ren : Go.Shelf.Ren := ⟨fun | 25 => 66 | n => n, fun | 37 => 51 | 47 => 135 | n => n, fun | n => n⟩
theorem lays25 : Go.Proofs.LaysPu.n25 Try.prog ren := {
  mixed := by kernel_rfl
  f25 := Try.func66.trans (congrArg some (by kernel_rfl))
  t0 := Try.underlying0
  a0 := Try.isAgg0
  z0 := Try.sizeOf0
  v0 := Try.zeroValue0
  i0 := by kernel_rfl
  t3 := Try.underlying3
  a3 := Try.isAgg3
  z3 := Try.sizeOf3
  v3 := Try.zeroValue3
  i3 := by kernel_rfl
  t4 := Try.underlying4
  a4 := Try.isAgg4
  z4 := Try.sizeOf4
  v4 := Try.zeroValue4
  i4 := by kernel_rfl
  t5 := Try.underlying5
  a5 := Try.isAgg5
  z5 := Try.sizeOf5
  v5 := Try.zeroValue5
  i5 := by kernel_rfl
  t9 := Try.underlying9
  a9 := Try.isAgg9
  z9 := Try.sizeOf9
  v9 := Try.zeroValue9
  i9 := by kernel_rfl
  t37 := Try.underlying51
  a37 := Try.isAgg51
  z37 := Try.sizeOf51
  v37 := Try.zeroValue51
  i37 := by kernel_rfl
  t47 := Try.underlying135
  a47 := Try.isAgg135
  z47 := Try.sizeOf135
  v47 := Try.zeroValue135
  i47 := by kernel_rfl }
attribute [local go_sem] Oper.semAt_some
theorem clone_any (s : ByteArray) (hlim : s.size ≤ 140737488351232) (w : World) : Calls Try.prog 50 #[.string s] w fun e w' => e = .returned (.string s) ∧ Below w.heap.size w w' := by
  have h39 := fun w => AnyPu.stringslite_Clone lays25 s w (by omega)
  go_enter Try.func50, Try.ntmps50
  go_wp2_with (go_at_call 66; refine (h39 _).mono ?_; rintro e w1 ⟨rfl, b1⟩)
  go_ret
  exact ⟨rfl, b1⟩
theorem Buf.conv {w : World} {B : Nat} {v : Value} {out : List UInt8} (h : Buf B v out w) : Sem.run Try.prog (convert 51 9 v) w = .ok (.string ⟨out.toArray⟩) w := by
  rcases h.1.2 with ⟨rfl, h0⟩ | ⟨g, cap, cur, rfl, hb, hg, hn, hc, hs, ht⟩
  · have e : out = [] := List.length_eq_zero_iff.1 h0
    subst e
    exact run_convert_bytes_nil w 51 5 Try.underlying51 Try.underlying5 0 0 9 Try.underlying9
  · refine run_convert_bytes_back w 51 9 5 ⟨g, 0, none⟩ cap out Try.underlying51 Try.underlying5 Try.underlying9 fun j hj => ?_
    have hplain : (⟨g, 0, none⟩ : Addr).add j = ⟨g, j, none⟩ := by unfold Addr.add; simp; omega
    rw [hplain, World.ownsRow.cellAt h.1 j (by omega)]
    simp [Lib.byteCells, hj]
abbrev bs (l : List UInt8) : ByteArray := ⟨l.toArray⟩
theorem bs_size (l : List UInt8) : (bs l).size = l.length := by simp [ByteArray.size]
theorem fresh_any {w : World} {B : Nat} {v : Value} {out : List UInt8} (h : Buf B v out w) (hlen : out.length ≤ 100000000) : Calls Try.prog 30 #[v] w fun e w' => e = .returned (.string (bs out)) ∧ Below w.heap.size w w' := by
  have hcv := h.conv
  have c52 := clone_any (bs out) (by rw [bs_size]; omega)
  obtain ⟨vg, vc, rfl, v1, v2⟩ := h.form
  have HC : Hid (bs out = bs out) := rfl
  generalize hq : bs out = t at *
  rw [show (⟨out.toArray⟩ : ByteArray) = t from hq] at hcv
  clear hq
  go_enter Try.func30, Try.ntmps30
  go_wp2_with (go_at_call 50; refine (c52 _).mono ?_; rintro e w1 ⟨rfl, b1⟩)
  go_ret
  exact ⟨rfl, b1⟩

def RunIs (m : Mc) (s t : ByteArray) (x : Nat) : Prop := ∀ p w, MAt (In w) w m p → Calls Try.prog 11 #[.agg (mv m p), .string s] w fun e w' => e = .returned (.tuple #[.string t, .int .i64 (x : Int)]) ∧ Below w.heap.size w w'
theorem buf_nil (w : World) : Buf w.heap.size (.slice none 0 0) [] w := ⟨World.ownsRow_nil _ _ _ _, Nat.le_refl _⟩
theorem Alo.last {m : Mc} {l : List UInt8} {out : List UInt8} {st : Nat} (h : Alo m 0 l [] 262144 out st) : (out ++ (tx m (en m st)).data.toList = total m 0 l) ∨ (262144 < (out ++ (tx m (en m st)).data.toList).length ∧ 262144 < (total m 0 l).length) := by
  obtain ⟨i, hi, rfl, rfl, h⟩ := h
  rcases h with rfl | h
  · left
    rw [List.take_length, List.nil_append]
    rfl
  · right
    rw [List.nil_append] at h
    have := go_take_le m 0 l i
    unfold total
    simp only [List.nil_append, List.length_append]
    omega
set_option maxHeartbeats 2000000 in
set_option maxRecDepth 100000 in
theorem run_any (m : Mc) (s : ByteArray) (hs : s.size ≤ 9223372036854775807) (t : ByteArray) (x : Nat) (ht : t = runT m s) (hx : x = runE m s) : RunIs m s t x := by
  intro p w hM
  have B0 := below_alloc w (.cells (mv m p) 26)
  have hM1 := hM.later B0
  have b0 := box_new w m p
  have c9 := right_any m _ rfl p _ hM1
  have HL : Hid (∀ W, Below (w.alloc (.cells (mv m p) 26)).heap.size (w.alloc (.cells (mv m p) 26)) W → Box W w.heap.size m p ∧ MAt (In W) W m p) := fun W b => ⟨b0.later b, hM1.later b⟩
  clear hM hM1
  cases hr : right m with
  | false =>
    rw [hr] at c9
    have e1 : t = ⟨#[]⟩ := by rw [ht]; unfold runT; rw [if_neg (by simp [hr])]
    have e2 : x = 120 := by rw [hx]; unfold runE; rw [if_neg (by simp [hr])]
    subst e1 e2
    clear ht hx hr
    go_enter Try.func11, Try.ntmps11
    go_wp2_with (first | (refine wpList_load_row rfl 26 (.tmp 2) rfl w.heap.size rfl 26 (mv m p) (0, 0) _ b0 Try.underlying26 rfl info26 ?_) | (go_at_call 9; refine c9.mono ?_; rintro e w1 ⟨rfl, b1⟩))
    go_ret2
    exact ⟨rfl, chain B0 b1⟩
  | true =>
    rw [hr] at c9
    have hR := right_iff.1 hr
    by_cases h4 : s.size ≤ 4096
    · have f1 : ¬ (4096 : Int) < (s.size : Int) := by omega
      have hA := along_any m hR 0 hR.one s hs 262144 (by omega)
      have hF := fun st hst => fin_any m hR st hst
      have HE : Hid (∀ out st, Alo m 0 s.data.toList [] 262144 out st → (x = 0 ∧ t = bs (out ++ (tx m (en m st)).data.toList) ∧ (out ++ (tx m (en m st)).data.toList).length ≤ 262144) ∨ (x = 2 ∧ t = ⟨#[]⟩ ∧ 262144 < (out ++ (tx m (en m st)).data.toList).length)) := fun out st h => by
        rcases h.last with e | ⟨h1, h2⟩
        · rw [e]
          by_cases h6 : (total m 0 s.data.toList).length ≤ 262144
          · left
            refine ⟨?_, ?_, h6⟩
            · rw [hx]; unfold runE; rw [if_pos hr, if_pos ⟨h4, h6⟩]
            · rw [ht]; unfold runT; rw [if_pos ⟨hr, h4, h6⟩]
          · right
            refine ⟨?_, ?_, by omega⟩
            · rw [hx]; unfold runE; rw [if_pos hr, if_neg (fun h => h6 h.2)]
            · rw [ht]; unfold runT; rw [if_neg (fun h => h6 h.2.2)]
        · right
          refine ⟨?_, ?_, h1⟩
          · rw [hx]; unfold runE; rw [if_pos hr, if_neg (fun h => by omega)]
          · rw [ht]; unfold runT; rw [if_neg (fun h => by omega)]
      clear ht hx hr
      go_enter Try.func11, Try.ntmps11
      go_wp2_with (first | (refine wpList_load_row rfl 26 (.tmp 2) rfl w.heap.size rfl 26 (mv m p) (0, 0) _ b0 Try.underlying26 rfl info26 ?_) | (go_at_call 9; refine c9.mono ?_; rintro e w1 ⟨rfl, b1⟩; obtain ⟨hX1, hM1⟩ := HL.out w1 b1; have c30 := hA w1.heap.size w.heap.size p _ [] w1 hX1 hX1.lt hM1 (buf_nil w1) (by simp); have hlt1 := hX1.lt; have HXM := (show Hid (∀ W, Below w1.heap.size w1 W → Box W w.heap.size m p ∧ MAt (Lo w1.heap.size) W m p) from fun W b => ⟨hX1.later b, hM1.low b⟩); clear hX1 hM1) | (go_at_call 28; refine c30.mono ?_; rintro e w2 ⟨v2, out, st, rfl, hb2, bl2, hst, ho2, HA⟩; obtain ⟨hX2, hM2⟩ := HXM.out w2 bl2; have c31 := hF st hst w1.heap.size w.heap.size p _ out w2 hX2 hlt1 hM2 hb2 (by omega); have hsz := (hM2.rtx); have htl := (show (tx m (en m st)).size ≤ 4096 from hR.tx_le _); obtain ⟨vg2, vc2, hv2, v12, v22⟩ := hb2.form; subst hv2; clear hX2 hM2 hb2 hsz))
      go_at_call 29
      refine c31.mono ?_
      rintro e w3 ⟨v3, rfl, hb3, bl3⟩
      have hcase := HE.out out st HA
      have hlen3 : (out ++ (tx m (en m st)).data.toList).length ≤ 3000000 := by rw [List.length_append, list_len]; omega
      have bl : Below w.heap.size w w3 := chain (chain B0 b1) (bl2.trans bl3)
      clear HE HA c31 bl2 bl3 hF c30 HXM
      generalize out ++ (tx m (en m st)).data.toList = o3 at *
      have c32 := fresh_any hb3 (by omega)
      obtain ⟨vg3, vc3, hv3, v13, v23⟩ := hb3.form
      subst hv3
      rcases hcase with ⟨rfl, rfl, h6⟩ | ⟨rfl, rfl, h6⟩
      · have f3 : ¬ (262144 : Int) < (o3.length : Int) := by omega
        go_wp2_with (go_at_call 30; refine c32.mono ?_; rintro e w4 ⟨rfl, b4⟩)
        go_ret2
        exact ⟨rfl, chain bl b4⟩
      · have f3 : (262144 : Int) < (o3.length : Int) := by omega
        go_wp2_with (fail)
        go_ret2
        exact ⟨rfl, bl⟩
    · have f1 : (4096 : Int) < (s.size : Int) := by omega
      have e1 : t = ⟨#[]⟩ := by rw [ht]; unfold runT; rw [if_neg (fun h => h4 h.2.1)]
      have e2 : x = 2 := by rw [hx]; unfold runE; rw [if_pos hr, if_neg (fun h => h4 h.1)]
      subst e1 e2
      clear ht hx hr hR h4
      go_enter Try.func11, Try.ntmps11
      go_wp2_with (first | (refine wpList_load_row rfl 26 (.tmp 2) rfl w.heap.size rfl 26 (mv m p) (0, 0) _ b0 Try.underlying26 rfl info26 ?_) | (go_at_call 9; refine c9.mono ?_; rintro e w1 ⟨rfl, b1⟩))
      go_ret2
      exact ⟨rfl, chain B0 b1⟩
end Go.Proofs.Ytlmodfeiphffcaa.tr
