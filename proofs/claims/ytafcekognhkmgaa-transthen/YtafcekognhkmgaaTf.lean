/-
  Contracts over this program: trans.finish, trans.along.
-/
import Derived.Test.YtafcekognhkmgaaTe
import Derived.Deep.RegionLaw
import Derived.Deep.RegionWith
namespace Go.Proofs.Ytafcekognhkmgaa.tr
open Go.ChangeShapes Go.WideShapes Go.ChangeAt Go.RowKit Go.Shelf
set_option linter.unusedVariables false

theorem Buf.run_text {B : Nat} {v : Value} {xs : List UInt8} {w : World} (hb : Buf B v xs w) (s : ByteArray) (hlen : xs.length + s.size ≤ 140737488355328) (ty : TypeId) :
    ∃ v' w', (Builtin.append_ #[51, 9] ty #[v, .string s]).run Try.prog w = .ok v' w' ∧ Buf B v' (xs ++ s.data.toList) w' ∧ Below B w w' := by
  obtain ⟨i0, hi0, hz0, hz1, hz2⟩ := info_parts info5
  obtain ⟨v', w', h1, h2, h3, _⟩ := Lib.run_append_own_string (P := Try.prog) w B 51 9 ty 5 i0 Try.underlying51 Try.underlying9 hi0 hz0 hz1 hz2 v xs.length (Lib.byteCells xs) hb.1 s (by unfold maxLen; omega) hlen hb.2
  refine ⟨v', w', h1, ⟨?_, Nat.le_trans hb.2 h3.size⟩, hb.grown h3⟩
  rw [Lib.byteCells_append, ← strCells_list, List.length_append, list_len]
  exact h2
theorem Buf.wp_text {o : Oper} {a : Act} {w : World} {K : Act → World → Prop} {Q : Exit → Act → World → Prop} (sl x : Operand)
    (ho : o.op = .call { callee := .builtin .append, args := #[sl, x], argTypes := #[51, 9] })
    (B : Nat) (v : Value) (xs : List UInt8) (hs : a.eval sl = v) (hb : Buf B v xs w) (s : ByteArray) (hx : a.eval x = .string s) (hlen : xs.length + s.size ≤ 140737488355328)
    (h : ∀ v' w', Buf B v' (xs ++ s.data.toList) w' → Below B w w' → K (a.put o.dst v') w') : Oper.wp Try.prog o a w K Q := by
  obtain ⟨v', w', hr, h2, h3⟩ := hb.run_text s hlen o.type
  unfold Oper.wp execOp
  simp only [ho, resolve, invoke, builtin, Sem.run_bind, Sem.run_pure, Result.andThen_ok, List.map_toArray, List.map_cons, List.map_nil, hs, hx, hr]
  exact h v' w' h2 h3
theorem Buf.step_text {ops : Array Oper} {o : Oper} {a : Act} {w : World} {K : Act → World → Prop} {Q : Exit → Act → World → Prop} {E : Prop} (hgd : o.guard = none) (sl x : Operand)
    (ho : o.op = .call { callee := .builtin .append, args := #[sl, x], argTypes := #[51, 9] })
    (B : Nat) (v : Value) (xs : List UInt8) (hs : a.eval sl = v) (hb : Buf B v xs w) (s : ByteArray) (hx : a.eval x = .string s) (hlen : xs.length + s.size ≤ 140737488355328)
    (h : ∀ v' w', Buf B v' (xs ++ s.data.toList) w' → Below B w w' → K (a.put o.dst v') w') : if Region.wanted o (yielded ops a.tmps) = true then Oper.wp Try.prog o a w K Q else E := by
  have hw : Region.wanted o (yielded ops a.tmps) = true := by simp [Region.wanted, hgd]
  rw [if_pos hw]
  exact Buf.wp_text sl x ho B v xs hs hb s hx hlen h
theorem undrew {B : Nat} {w w' : World} (h : Below B w.drew w') : Below B w w' := ⟨h.os, h.tape, h.output, h.size, h.block⟩
theorem Buf.drew {B : Nat} {v : Value} {xs : List UInt8} {w : World} (h : Buf B v xs w) : Buf B v xs w.drew := h

def FinIs (m : Mc) (st : Nat) : Prop := ∀ B g p v out w, Box w g m p → g < B → MAt (Lo B) w m p → Buf B v out w → out.length ≤ 70368744177664 → Calls Try.prog 31 #[.pointer (some ⟨g, 0, none⟩), v, .int .i64 (st : Int)] w fun e w' => ∃ v', e = .returned v' ∧ Buf B v' (out ++ (tx m (en m st)).data.toList) w' ∧ Below B w w'
set_option maxHeartbeats 1000000 in
set_option maxRecDepth 100000 in
theorem fin_any (m : Mc) (hR : Right m) (st : Nat) (hst : st < m.next.length) : FinIs m st := by
  intro B g p v out w hX hg hM hB hlen
  obtain ⟨pb, poff, e1, h1, h2⟩ := hM.fin_at hR hst
  have hq := hR.en_lt hst
  obtain ⟨xb, xoff, e7, h7, h8⟩ := hM.tx_at hq
  have hx2 := hX.c2
  have hx3 := hX.c3
  have t4 := hM.ren.fit
  have t5 := hM.ren.top
  have t6 := hM.rtx.fit
  have t7 := hM.rtx.top
  have hpl : st < m.fin.length := by rw [hR.fins]; exact hst
  have htl := hR.tx_le (en m st)
  obtain ⟨no, nc, po, pc, eo, ec, xo, xc⟩ := p
  simp only at e1 e7
  subst e1 e7
  generalize en m st = q at *
  generalize tx m q = t at *
  obtain ⟨vg, vc, rfl, v1, v2⟩ := hB.form
  clear hX hM
  go_enter Try.func31, Try.ntmps31
  go_wp2_with (fail)
  go_region_law (refine Buf.step_text (by rfl) (.tmp 7) (.tmp 20) (by rfl) B _ out (by rfl) hB.drew t (by rfl) (by omega) ?_; intro v' w' hb' bl'; obtain ⟨vg', vc', hv', v1', v2'⟩ := hb'.form; subst hv')
  all_goals
    go_wp2_with (fail)
    go_ret
    rw [List.length_append, list_len] at hb'
    exact ⟨.slice vg' (out.length + t.size) vc', rfl, hb', undrew bl'⟩

/-- where going along has ended -/
def Alo (m : Mc) (st : Nat) (l out : List UInt8) (room : Nat) (out' : List UInt8) (st' : Nat) : Prop :=
  ∃ i, i ≤ l.length ∧ out' = out ++ (go m st (l.take i)).1 ∧ st' = (go m st (l.take i)).2 ∧ (i = l.length ∨ room < out'.length)
def AlongIs (m : Mc) (st : Nat) (s : ByteArray) (room : Nat) : Prop := ∀ B g p v out w, Box w g m p → g < B → MAt (Lo B) w m p → Buf B v out w → out.length ≤ 1000000 → Calls Try.prog 30 #[.pointer (some ⟨g, 0, none⟩), v, .int .i64 (st : Int), .string s, .int .i64 (room : Int)] w fun e w' => ∃ v' out' st', e = .returned (.tuple #[v', .int .i64 ((st' : Nat) : Int)]) ∧ Buf B v' out' w' ∧ Below B w w' ∧ st' < m.next.length ∧ out'.length ≤ 2000000 ∧ Alo m st s.data.toList out room out' st'
set_option maxHeartbeats 2000000 in
set_option maxRecDepth 100000 in
theorem along_any (m : Mc) (hR : Right m) (st : Nat) (hst : st < m.next.length) (s : ByteArray) (hs : s.size ≤ 9223372036854775807) (room : Nat) (hroom : room ≤ 262144) : AlongIs m st s room := by
  intro B g p v out w hX hg hM hB hlen
  have HX : Hid (∀ W, Below B w W → Box W g m p ∧ MAt (Lo B) W m p) := fun W b => ⟨hX.low hg b, hM.low b⟩
  obtain ⟨vg, vc, rfl, v1, v2⟩ := hB.form
  clear hX hM
  have hB0 := hB
  clear hB
  go_enter Try.func30, Try.ntmps30
  go_wp2_with (fail)
  go_loopw [1, 2, 12] (fun y z x wr => ∃ (i : Nat) (o1 : List UInt8) (q : Nat), x = .int .i64 i ∧ z = .int .i64 q ∧ i ≤ s.size ∧ Buf B y o1 wr ∧ Below B w wr ∧ q < m.next.length ∧ o1.length ≤ 1000000 + 262144 + 4097 ∧ Hid (o1 = out ++ (go m st (s.data.toList.take i)).1 ∧ q = (go m st (s.data.toList.take i)).2)) (fun _ _ x _ => s.size - (intOf x).toNat)
  case atStart => exact ⟨0, out, st, rfl, rfl, by omega, hB0, Below.refl _ _, hst, by omega, by simp [go], by simp [go]⟩
  case round =>
    obtain ⟨i, o1, q, rfl, rfl, hi, hB1, bl1, hq, hl1, HI⟩ := hrel
    clear hB0 v1 v2
    obtain ⟨yg, yc, rfl, y1, y2⟩ := hB1.form
    by_cases hend : i < s.size
    · have f1 : decide ((i : Int) < (s.size : Int)) = true := decide_eq_true (by omega)
      by_cases hrm : o1.length ≤ room
      · have f2 : decide ((o1.length : Int) ≤ (room : Int)) = true := decide_eq_true (by omega)
        obtain ⟨hXr, hMr⟩ := HX.out wr bl1
        have c51 := over_any m hR q hq s[i] B g p _ o1 wr hXr hg hMr hB1 (by omega)
        have hi2 : i < s.data.toList.length := by rw [list_len]; exact hend
        have HT := (show Hid _ from take_succ_go m st s.data.toList i hi2)
        have hol := outp_len hR q s[i]
        have hnl := hR.nx_lt hq s[i].toNat_lt
        have HGI : Hid (s.data.toList[i] = s[i]) := rfl
        rw [HGI.out] at HT
        rw [← HI.out.2] at HT
        generalize hk : nx m q s[i].toNat = k at *
        clear hXr hMr hB1
        have hii : (i : Int) < (s.size : Int) := by omega
        go_wp2_with (go_at_call 51; refine c51.mono ?_; rintro e w2 ⟨v', rfl, hb', bl'⟩; obtain ⟨vg', vc', hv', v1', v2'⟩ := hb'.form; subst hv')
        go_roundw
        case rel =>
          rw [List.length_append] at hb'
          refine ⟨i + 1, o1 ++ outp m q s[i], k, by go_num, rfl, by omega, hb', bl1.trans bl', hnl, by rw [List.length_append]; omega, ?_, ?_⟩
          · rw [HT.out, ← List.append_assoc, ← HI.out.1]
          · rw [HT.out]
        case measure => simp [intOf]; omega
      · have f2 : decide ((o1.length : Int) ≤ (room : Int)) = false := decide_eq_false (by omega)
        have hr2 : room < o1.length := by omega
        clear hrm
        go_wp2_with (fail)
        go_ret2
        exact ⟨_, o1, q, rfl, hB1, bl1, hq, by omega, i, by rw [list_len]; exact hi, HI.out.1, HI.out.2, .inr hr2⟩
    · have f1 : decide ((i : Int) < (s.size : Int)) = false := decide_eq_false (by omega)
      have he : Hid (i = s.size) := by show _ = _; omega
      have hz : decide (i < s.size) = false := decide_eq_false hend
      go_wp2_with (fail)
      go_ret2
      exact ⟨_, o1, q, rfl, hB1, bl1, hq, by omega, i, by rw [list_len]; exact hi, HI.out.1, HI.out.2, .inl (by rw [list_len]; exact he.out)⟩
end Go.Proofs.Ytafcekognhkmgaa.tr
