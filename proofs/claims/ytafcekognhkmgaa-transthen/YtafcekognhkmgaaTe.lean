/-
  Contracts over this program: trans.over.
-/
import Derived.Test.YtafcekognhkmgaaTd
import Derived.Lib.AppendStr
import Derived.Lib.ConvBytes
import Derived.OwnWalk
import Derived.Maps.AppendAt
import Derived.Laws.OwnMore
import Derived.Shelf.Abstract
namespace Go.Proofs.Ytafcekognhkmgaa.tr
open Go.ChangeShapes Go.WideShapes Go.ChangeAt Go.RowKit Go.Shelf
set_option linter.unusedVariables false

section
variable {B : Nat} {w : World} {m : Mc} {p : Mp}
theorem MAt.put_at (hM : MAt (Lo B) w m p) (hR : Right m) {s b : Nat} (hs : s < m.next.length) (hb : b < 256) : ∃ pb poff rb roff rc, p.po = some ⟨pb, poff, none⟩ ∧ pb < B ∧ w.cell? ⟨pb, poff + s, none⟩ = some (.slice (some ⟨rb, roff, none⟩) 256 rc) ∧ rb < B ∧ w.cell? ⟨rb, roff + b, none⟩ = some (.int .i64 (pt m s b : Int)) ∧ 256 ≤ rc ∧ rc ≤ 9223372036854775807 := by
  have hs' : s < m.put.length := by rw [hR.puts]; exact hs
  obtain ⟨pb, poff, oi, ci, e, h1, h2, h3⟩ := hM.rpt.lie s hs'
  obtain ⟨r, e1, e2, e3⟩ := hR.put_row hs
  rw [List.getElem?_eq_getElem hs'] at e1
  obtain rfl := Option.some.inj e1
  obtain ⟨rb, roff, e4, h4, h5⟩ := h3.lie b (by omega)
  have h6 := e3 b hb
  rw [List.getElem?_eq_getElem (by omega)] at h6
  rw [Option.some.inj h6] at h5
  subst e4
  rw [e2] at h2
  have hf := h3.fit
  rw [e2] at hf
  exact ⟨pb, poff, rb, roff, ci, e, h1, h2, h4, h5, hf, h3.top⟩
theorem MAt.next_at (hM : MAt (Lo B) w m p) (hR : Right m) {s b : Nat} (hs : s < m.next.length) (hb : b < 256) : ∃ pb poff rb roff rc, p.no = some ⟨pb, poff, none⟩ ∧ pb < B ∧ w.cell? ⟨pb, poff + s, none⟩ = some (.slice (some ⟨rb, roff, none⟩) 256 rc) ∧ rb < B ∧ w.cell? ⟨rb, roff + b, none⟩ = some (.int .i64 (nx m s b : Int)) ∧ 256 ≤ rc ∧ rc ≤ 9223372036854775807 := by
  obtain ⟨pb, poff, oi, ci, e, h1, h2, h3⟩ := hM.rnx.lie s hs
  obtain ⟨r, e1, e2, e3⟩ := hR.next_row hs
  rw [List.getElem?_eq_getElem hs] at e1
  obtain rfl := Option.some.inj e1
  obtain ⟨rb, roff, e4, h4, h5⟩ := h3.lie b (by omega)
  have h6 := e3 b hb
  rw [List.getElem?_eq_getElem (by omega)] at h6
  rw [Option.some.inj h6] at h5
  subst e4
  rw [e2] at h2
  have hf := h3.fit
  rw [e2] at hf
  exact ⟨pb, poff, rb, roff, ci, e, h1, h2, h4, h5, hf, h3.top⟩
theorem MAt.fin_at (hM : MAt (Lo B) w m p) (hR : Right m) {s : Nat} (hs : s < m.next.length) : ∃ pb poff, p.eo = some ⟨pb, poff, none⟩ ∧ pb < B ∧ w.cell? ⟨pb, poff + s, none⟩ = some (.int .i64 (en m s : Int)) := by
  have hs' : s < m.fin.length := by rw [hR.fins]; exact hs
  obtain ⟨pb, poff, e, h1, h2⟩ := hM.ren.lie s hs'
  have h6 := hR.fin_at hs
  rw [List.getElem?_eq_getElem hs'] at h6
  rw [Option.some.inj h6] at h2
  exact ⟨pb, poff, e, h1, h2⟩
theorem MAt.tx_at (hM : MAt (Lo B) w m p) {k : Nat} (hk : k < m.txt.length) : ∃ pb poff, p.xo = some ⟨pb, poff, none⟩ ∧ pb < B ∧ w.cell? ⟨pb, poff + k, none⟩ = some (.string (tx m k)) := by
  obtain ⟨pb, poff, e, h1, h2⟩ := hM.rtx.lie k hk
  have h6 := tr.tx_at hk
  rw [List.getElem?_eq_getElem hk] at h6
  rw [Option.some.inj h6] at h2
  exact ⟨pb, poff, e, h1, h2⟩
end
theorem div2 (q : Nat) : (q : Int).tdiv 2 = ((q / 2 : Nat) : Int) := by rw [show (2 : Int) = ((2 : Nat) : Int) from rfl, Int.ofNat_tdiv]
theorem mod2 (q : Nat) : (q : Int).tmod 2 = ((q % 2 : Nat) : Int) := by rw [show (2 : Int) = ((2 : Nat) : Int) from rfl, Int.ofNat_tmod]

/-- a row of bytes that the call owns, in blocks from B on -/
def Buf (B : Nat) (v : Value) (xs : List UInt8) (w : World) : Prop := w.ownsRow B 5 1 v xs.length (Lib.byteCells xs) ∧ B ≤ w.heap.size
theorem strCells_list (s : ByteArray) : Lib.strCells s = Lib.byteCells s.data.toList := rfl
theorem byteCells_one (l : List UInt8) (b : UInt8) : Lib.byteCells (l ++ [b]) = Lib.byteCells l ++ [.int .u8 (b.toNat : Int)] := by simp [Lib.byteCells]
theorem own_form {W : World} {B e sz n : Nat} {v : Value} {xs : List Value} (h : W.ownsRow B e sz v n xs) : ∃ g cap, v = .slice g n cap ∧ n ≤ cap ∧ cap ≤ 9223372036854775807 := by
  rcases h.2 with ⟨rfl, rfl⟩ | ⟨gg, cap, cur, rfl, hb, _, h1, h2, _⟩
  · exact ⟨_, _, rfl, Nat.le_refl _, by omega⟩
  · exact ⟨_, _, rfl, h1, by unfold maxLen at h2; omega⟩
theorem own_keep {W W' : World} {B e sz n : Nat} {v : Value} {xs : List Value} (h : W.ownsRow B e sz v n xs) (hh : ∀ g, v.ownBlock = some g → W'.heap[g]? = W.heap[g]?) : W'.ownsRow B e sz v n xs := by
  refine ⟨h.1, ?_⟩
  rcases h.2 with h0 | ⟨g, cap, cur, rfl, hb, hg, hr⟩
  · exact .inl h0
  · exact .inr ⟨g, cap, cur, rfl, hb, (hh g rfl).trans hg, hr⟩
theorem Buf.later {B : Nat} {v : Value} {xs : List UInt8} {w w' : World} (h : Buf B v xs w) (b : Below w.heap.size w w') : Buf B v xs w' :=
  ⟨own_keep h.1 fun g eg => b.block g (h.1.lt g eg).2, Nat.le_trans h.2 b.size⟩
theorem Buf.form {B : Nat} {v : Value} {xs : List UInt8} {w : World} (h : Buf B v xs w) : ∃ g cap, v = .slice g xs.length cap ∧ xs.length ≤ cap ∧ cap ≤ 9223372036854775807 := own_form h.1
theorem Buf.grown {B : Nat} {v : Value} {xs : List UInt8} {w w' : World} (h : Buf B v xs w) (hg : w.grownBy w' v.ownBlock) : Below B w w' := (Below.refl _ _).grown hg h.2 (fun k hk => (h.1.lt k hk).1)
/-- 'out = append(out, text...)' -/
theorem Buf.text {ops : Array Oper} {rest : List Oper} {o : Oper} {a : Act} {Q : Exit → Act → World → Prop} {w : World} (hgd : o.guard = none) (sl x : Operand)
    (ho : o.op = .call { callee := .builtin .append, args := #[sl, x], argTypes := #[51, 9] })
    (B : Nat) (v : Value) (xs : List UInt8) (hs : a.eval sl = v) (hb : Buf B v xs w) (s : ByteArray) (hx : a.eval x = .string s) (hlen : xs.length + s.size ≤ 140737488355328)
    (h : ∀ v' w', Buf B v' (xs ++ s.data.toList) w' → Below B w w' → wpList Try.prog ops Q rest (a.put o.dst v') w') : wpList Try.prog ops Q (o :: rest) a w := by
  obtain ⟨i0, hi0, hz0, hz1, hz2⟩ := info_parts info5
  refine Lib.wpList_append_own_string w hgd sl x 51 9 ho B 5 i0 Try.underlying51 Try.underlying9 hi0 hz0 hz1 hz2 v xs.length (Lib.byteCells xs) hs hb.1 s hx (by unfold maxLen; omega) hlen hb.2 ?_
  intro v' w' ho' hg _
  refine h v' w' ⟨?_, Nat.le_trans hb.2 hg.size⟩ (hb.grown hg)
  rw [Lib.byteCells_append, ← strCells_list, List.length_append, list_len]
  exact ho'
/-- 'out = append(out, b)' -/
theorem Buf.byte {ops : Array Oper} {rest : List Oper} {o : Oper} {a : Act} {Q : Exit → Act → World → Prop} {w : World} (hgd : o.guard = none) (sl x : Operand)
    (ho : o.op = .call { callee := .builtin .append, args := #[sl, x], argTypes := #[51, 51] })
    (B : Nat) (v : Value) (xs : List UInt8) (hs : a.eval sl = v) (hb : Buf B v xs w) (b : UInt8) (hx : a.eval x = .slice (some ⟨w.heap.size, 0, none⟩) 1 1) (hlen : xs.length + 1 ≤ 140737488355328)
    (h : ∀ v' w', Buf B v' (xs ++ [b]) w' → Below B w w' → wpList Try.prog ops Q rest (a.put o.dst v') w') : wpList Try.prog ops Q (o :: rest) a (w.alloc (.cells #[.int .u8 (b.toNat : Int)] 5)) := by
  obtain ⟨i0, hi0, hz0, hz1, hz2⟩ := info_parts info5
  have hb' := hb.later (below_alloc w (.cells #[.int .u8 (b.toNat : Int)] 5))
  refine wpList_append_own _ hgd sl x 51 ho B 5 i0 (.int .u8 0) 1 1 Try.underlying51 hi0 hz0 hz1 hz2 rfl (by decide) v xs.length (Lib.byteCells xs) hs hb'.1 ⟨w.heap.size, 0, none⟩ 1 1 [.int .u8 (b.toNat : Int)] hx rfl ?_ ?_ (by unfold maxLen; omega) (by omega) hb'.2 ?_
  · intro j u hj
    match j, hj with
    | 0, hj => simp at hj; subst hj; simp [Addr.add]
    | (j + 1), hj => simp at hj
  · intro u hu; simp at hu; subst hu; rfl
  · intro v' w' ho' hg _
    refine h v' w' ⟨?_, Nat.le_trans hb'.2 hg.size⟩ (((below_alloc w _).mono hb.2).trans (hb'.grown hg))
    rw [byteCells_one, List.length_append]
    exact ho'

def OverIs (m : Mc) (st : Nat) (b : UInt8) : Prop := ∀ B g p v out w, Box w g m p → g < B → MAt (Lo B) w m p → Buf B v out w → out.length ≤ 70368744177664 → Calls Try.prog 51 #[.pointer (some ⟨g, 0, none⟩), v, .int .i64 (st : Int), .int .u8 (b.toNat : Int)] w fun e w' => ∃ v', e = .returned (.tuple #[v', .int .i64 (nx m st b.toNat : Int)]) ∧ Buf B v' (out ++ outp m st b) w' ∧ Below B w w'
set_option maxHeartbeats 1000000 in
set_option maxRecDepth 100000 in
theorem over_any (m : Mc) (hR : Right m) (st : Nat) (hst : st < m.next.length) (b : UInt8) : OverIs m st b := by
  intro B g p v out w hX hg hM hB hlen
  have hb := b.toNat_lt
  obtain ⟨pb, poff, rb, roff, rc, e1, h1, h2, h3, h4, h5, h6⟩ := hM.put_at hR hst hb
  have hq := hR.pt_lt hst hb
  have HO : Hid (outp m st b = (tx m (pt m st b.toNat / 2)).data.toList ++ (if pt m st b.toNat % 2 = 1 then [b] else [])) := rfl
  obtain ⟨xb, xoff, e7, h7, h8⟩ := hM.tx_at (k := pt m st b.toNat / 2) (by omega)
  have hx1 := hX.c1
  have hx3 := hX.c3
  have t0 := hM.rnx.fit
  have t1 := hM.rnx.top
  have t2 := hM.rpt.fit
  have t3 := hM.rpt.top
  have t6 := hM.rtx.fit
  have t7 := hM.rtx.top
  have hpl : st < m.put.length := by rw [hR.puts]; exact hst
  have htl := hR.tx_le (pt m st b.toNat / 2)
  have HN : Hid (∀ W, Below B w W → ∃ pb poff rb roff rc, p.no = some ⟨pb, poff, none⟩ ∧ W.cell? ⟨g, 0, none⟩ = some (.slice p.no m.next.length p.nc) ∧ W.cell? ⟨pb, poff + st, none⟩ = some (.slice (some ⟨rb, roff, none⟩) 256 rc) ∧ W.cell? ⟨rb, roff + b.toNat, none⟩ = some (.int .i64 (nx m st b.toNat : Int)) ∧ 256 ≤ rc ∧ rc ≤ 9223372036854775807) := fun W bW => by
    obtain ⟨pb, poff, rb, roff, rc, e, k1, k2, k3, k4, k5, k6⟩ := (hM.low bW).next_at hR hst hb
    exact ⟨pb, poff, rb, roff, rc, e, (hX.low hg bW).c0, k2, k4, k5, k6⟩
  obtain ⟨no, nc, po, pc, eo, ec, xo, xc⟩ := p
  simp only at e1 e7
  subst e1 e7
  generalize pt m st b.toNat = q at *
  generalize tx m (q / 2) = t at *
  generalize nx m st b.toNat = k at *
  have hd := div2 q
  have hmd := mod2 q
  obtain ⟨vg, vc, rfl, v1, v2⟩ := hB.form
  have hq2 : q / 2 < m.txt.length := by omega
  clear hX hM
  by_cases hodd : q % 2 = 1
  · rw [hodd] at hmd
    have HO2 : Hid (outp m st b = t.data.toList ++ [b]) := by show _ = _; rw [HO.out, if_pos hodd]
    clear HO hodd
    go_enter Try.func51, Try.ntmps51
    go_wp2_with (at_builtin; first | (refine Buf.text (by rfl) (.tmp 21) (.tmp 29) (by rfl) B _ out (by rfl) hB t (by rfl) (by omega) ?_; intro v1 w1 hb1 bl1; obtain ⟨vg1, vc1, hv1, v11, v21⟩ := hb1.form; subst hv1; rw [List.length_append, list_len] at hb1 v11 ⊢) | (refine Buf.byte (by rfl) (.tmp 34) (.tmp 36) (by rfl) B _ (out ++ t.data.toList) (by rfl) hb1 b (by rfl) (by rw [List.length_append, list_len]; omega) ?_; intro v' w' hb' bl2; have bl' := bl1.trans bl2; obtain ⟨nb, noff, sb, soff, sc, en, n1, n2, n3, n4, n5⟩ := HN.out w' bl'; subst en; obtain ⟨vg', vc', hv', v1', v2'⟩ := hb'.form; subst hv'))
    go_quiet (fail)
    go_wp2_with (fail)
    go_ret2
    have e : (out ++ t.data.toList ++ [b]).length = out.length + (t.size + 1) := by rw [List.length_append, List.length_append, list_len]; simp; omega
    rw [e] at hb'
    exact ⟨.slice vg' (out.length + (t.size + 1)) vc', rfl, by rw [HO2.out, ← List.append_assoc]; exact hb', below_drewN bl' _⟩
  · have HO2 : Hid (outp m st b = t.data.toList) := by show _ = _; rw [HO.out, if_neg hodd, List.append_nil]
    have hz : q % 2 = 0 := by omega
    rw [hz] at hmd
    clear HO hodd hz
    go_enter Try.func51, Try.ntmps51
    go_wp2_with (at_builtin; refine Buf.text (by rfl) (.tmp 21) (.tmp 29) (by rfl) B _ out (by rfl) hB t (by rfl) (by omega) ?_; intro v' w' hb' bl'; obtain ⟨nb, noff, sb, soff, sc, en, n1, n2, n3, n4, n5⟩ := HN.out w' bl'; subst en; obtain ⟨vg', vc', hv', v1', v2'⟩ := hb'.form; subst hv')
    go_quiet (fail)
    go_wp2_with (fail)
    go_ret2
    rw [List.length_append, list_len] at hb'
    exact ⟨.slice vg' (out.length + t.size) vc', rfl, by rw [HO2.out]; exact hb', below_drewN bl' _⟩
end Go.Proofs.Ytafcekognhkmgaa.tr
