/-
  Texts put together: Contracts over this program: a byte more (rewriter.step), where no fall is needed. Contracts over this program: a byte more (rewriter.step), where no fall is needed. Contracts over this program: what became of a text that waits (rewriter.fall), where that is known already.
-/
import Derived.Test.YtlmodfeiphffcaaM11
namespace Go.Proofs.Ytlmodfeiphffcaa.wr
open Go.ChangeShapes Go.WideShapes Go.ChangeAt Go.RowKit Go.Shelf Go.Maps
open tr
open mk (law9 OkT kt key9 kt_inj map_keep)
open ru (Ru Rus)
open ru.rw (waits whole stp fall states)
set_option linter.unusedVariables false

/-- only the bytes' own block, what became of texts, and new blocks change -/
structure Gw (fm : Nat) (W : World) (v : Value) (W' : World) (v' : Value) : Prop where
  os : W'.os = W.os
  tape : W'.tape = W.tape
  output : W'.output = W.output
  size : W.heap.size ≤ W'.heap.size
  block : ∀ i, i < W.heap.size → some i ≠ v.ownBlock → i ≠ fm → W'.heap[i]? = W.heap[i]?
  wh : v'.ownBlock = v.ownBlock ∨ ∀ g, v'.ownBlock = some g → W.heap.size ≤ g
theorem Gw.of {fm : Nat} {W W' : World} {v v' : Value} (h : Gr W v W' v') : Gw fm W v W' v' := ⟨h.gr.os, h.gr.tape, h.gr.output, h.gr.size, fun i hi hne _ => h.gr.block i hi hne, h.wh⟩
theorem Gw.trans {fm : Nat} {W W1 W2 : World} {v v1 v2 : Value} (h : Gw fm W v W1 v1) (k : Gw fm W1 v1 W2 v2) : Gw fm W v W2 v2 := by
  refine ⟨k.os.trans h.os, k.tape.trans h.tape, k.output.trans h.output, Nat.le_trans h.size k.size, fun i hi hne hf => ?_, ?_⟩
  · rw [k.block i (Nat.lt_of_lt_of_le hi h.size) ?_ hf, h.block i hi hne hf]
    rcases h.wh with e | e
    · rw [e]; exact hne
    · intro e2
      have := e i e2.symm
      omega
  · rcases k.wh with e | e
    · rw [e]; exact h.wh
    · exact .inr fun g hg => Nat.le_trans h.size (e g hg)
theorem Gw.ahead {fm : Nat} {W W1 W2 : World} {v v2 : Value} (k : Below W.heap.size W W1) (h : Gw fm W1 v W2 v2) : Gw fm W v W2 v2 :=
  ⟨h.os.trans k.os, h.tape.trans k.tape, h.output.trans k.output, Nat.le_trans k.size h.size, fun i hi hne hf => (h.block i (Nat.lt_of_lt_of_le hi k.size) hne hf).trans (k.block i hi), by
    rcases h.wh with e | e
    · exact .inl e
    · exact .inr fun g hg => Nat.le_trans k.size (e g hg)⟩
theorem Gw.below {fm B : Nat} {W W' : World} {v v' : Value} {f : Bool} {xs : List UInt8} (h : Gw fm W v W' v') (hb : BufG f B v xs W) (hf : B ≤ fm) : Below B W W' :=
  ⟨h.os, h.tape, h.output, h.size, fun i hi => h.block i (Nat.lt_of_lt_of_le hi hb.1) (fun e => by have := (hb.lt e.symm).1; omega) (by omega)⟩
/-- it is known what became of a text -/
def Found (W : World) (fm : Nat) (u : ByteArray) : Prop := ∃ x, (Instr.lookup 96 (.map (some fm)) (.string u) true).run Try.prog W = .ok (.tuple #[x, .bool true]) W
/-- of texts of n bytes and more nothing new is known -/
def NewLt (n fm : Nat) (W W' : World) : Prop := ∀ u : ByteArray, OkT u → n ≤ u.size → Found W' fm u → Found W fm u
theorem NewLt.trans {n fm : Nat} {W W1 W2 : World} (h : NewLt n fm W W1) (k : NewLt n fm W1 W2) : NewLt n fm W W2 := fun u h1 h2 h3 => h u h1 h2 (k u h1 h2 h3)
theorem NewLt.mono {n m fm : Nat} {W W1 : World} (h : NewLt n fm W W1) (hm : n ≤ m) : NewLt m fm W W1 := fun u h1 h2 h3 => h u h1 (by omega) h3
/-- what a step answers -/
def StpOut (f : Bool) (B rb : Nat) (l : List Ru) (lv : Value) (sm fm : Nat) (v : Value) (out w : List UInt8) (b : UInt8) (W : World) (e : Ending) (W' : World) : Prop :=
  ∃ v', e = .returned (.tuple #[v', .string (tr.bs (stp l w b).2)]) ∧ BufG f B v' (out ++ (stp l w b).1) W' ∧ Rw B rb l lv sm fm W' ∧ Gw fm W v W' v' ∧ NewLt (w.length + 1) fm W W'
theorem Rw.bufG {f : Bool} {B rb : Nat} {l : List Ru} {lv : Value} {sm fm : Nat} {W W' : World} {v v' : Value} {xs : List UInt8} (h : Rw B rb l lv sm fm W) (hu : BufG f B v xs W) (hG : Gr W v W' v') : Rw B rb l lv sm fm W' := by
  obtain ⟨e1, c1, n1⟩ := h.sobj
  obtain ⟨e2, c2, n2⟩ := h.fobj
  exact h.keep (Gw.below (Gw.of hG) hu h.bf) (hG.gr.block _ h.rl (hu.type h.box (by decide))) (hG.gr.block _ (Array.getElem?_eq_some_iff.1 n1).1 (hu.kind n1)) (hG.gr.block _ (Array.getElem?_eq_some_iff.1 n2).1 (hu.kind n2))
theorem BufG.text {ops : Array Oper} {rest : List Oper} {o : Oper} {a : Act} {Q : Exit → Act → World → Prop} {w : World} (hgd : o.guard = none) (sl x : Operand)
    (ho : o.op = .call { callee := .builtin .append, args := #[sl, x], argTypes := #[51, 9] })
    (f : Bool) (B : Nat) (v : Value) (xs : List UInt8) (hs : a.eval sl = v) (hb : BufG f B v xs w) (s : ByteArray) (hx : a.eval x = .string s) (hlen : xs.length + s.size ≤ 1000000)
    (h : ∀ v' w', BufG f B v' (xs ++ s.data.toList) w' → Gr w v w' v' → wpList Try.prog ops Q rest (a.put o.dst v') w') : wpList Try.prog ops Q (o :: rest) a w := by
  refine wpList_plain hgd fun K hK => ?_
  obtain ⟨v', w', hr, h2, h3⟩ := hb.run_text s hlen o.type
  unfold Oper.wp execOp
  simp only [ho, resolve, invoke, builtin, Sem.run_bind, Sem.run_pure, Result.andThen_ok, List.map_toArray, List.map_cons, List.map_nil, hs, hx, hr]
  exact hK _ _ (h v' w' h2 h3)
theorem BufG.byte {ops : Array Oper} {rest : List Oper} {o : Oper} {a : Act} {Q : Exit → Act → World → Prop} {w : World} (hgd : o.guard = none) (sl x : Operand)
    (ho : o.op = .call { callee := .builtin .append, args := #[sl, x], argTypes := #[51, 51] })
    (f : Bool) (B : Nat) (v : Value) (xs : List UInt8) (hs : a.eval sl = v) (hb : BufG f B v xs w) (b : UInt8) (hx : a.eval x = .slice (some ⟨w.heap.size, 0, none⟩) 1 1) (hlen : xs.length ≤ 900000)
    (h : ∀ v' w', BufG f B v' (xs ++ [b]) w' → Gr w v w' v' → wpList Try.prog ops Q rest (a.put o.dst v') w') : wpList Try.prog ops Q (o :: rest) a (w.alloc (.cells #[.int .u8 (b.toNat : Int)] 5)) := by
  refine wpList_plain hgd fun K hK => ?_
  obtain ⟨v', w', hr, h2, h3⟩ := hb.run_byte b hlen o.type
  unfold Oper.wp execOp
  simp only [ho, resolve, invoke, builtin, Sem.run_bind, Sem.run_pure, Result.andThen_ok, List.map_toArray, List.map_cons, List.map_nil, hs, hx, hr]
  exact hK _ _ (h v' w' h2 h3)
theorem found_iff {W : World} {fm n : Nat} {D : DataW Unit} (hD : W.ownsMap Try.prog 9 RF fm n D) (u : ByteArray) (hu : OkT u) : Found W fm u ↔ Maps.has D (kt u) = true := by
  obtain ⟨v, ps, hrun, hv⟩ := hD.look_ok law9 Try.underlying96 (zero106 W) (RF_of ⟨#[]⟩ ⟨#[]⟩) (key9 u hu)
  constructor
  · rintro ⟨x, hx⟩
    rw [hrun] at hx
    simp at hx
    exact hx.2
  · intro h
    rw [h] at hrun
    exact ⟨v, hrun⟩
theorem NewLt.same {B rb : Nat} {l : List Ru} {lv : Value} {sm fm n : Nat} {W W' : World} (h : Rw B rb l lv sm fm W) (e : W'.heap[fm]? = W.heap[fm]?) : NewLt n fm W W' := fun u h1 _ h3 => by
  obtain ⟨ks, D, f1, f2⟩ := h.fl
  have f1' : W'.ownsMap Try.prog 9 RF fm ks.length D := map_same f1 e
  rw [found_iff f1' u h1] at h3
  exact (found_iff f1 u h1).2 h3
end Go.Proofs.Ytlmodfeiphffcaa.wr

namespace Go.Proofs.Ytlmodfeiphffcaa.wr
open Go.ChangeShapes Go.WideShapes Go.ChangeAt Go.RowKit Go.Shelf Go.Maps
open tr
open mk (law9 OkT kt key9 kt_inj map_keep)
open ru (Ru Rus)
open ru.rw (waits whole stp fall states)
set_option linter.unusedVariables false

theorem conv_byte (W : World) (b : UInt8) : Sem.run Try.prog (convert 51 9 (.slice (some ⟨W.heap.size, 0, none⟩) 1 1)) (W.alloc (.cells #[.int .u8 (b.toNat : Int)] 5)) = .ok (.string ⟨#[b]⟩) (W.alloc (.cells #[.int .u8 (b.toNat : Int)] 5)) :=
  run_convert_bytes_back (P := Try.prog) _ 51 9 5 ⟨W.heap.size, 0, none⟩ 1 [b] Try.underlying51 Try.underlying5 Try.underlying9 fun j hj => by
    have : j = 0 := by simp at hj; exact hj
    subst this
    exact ow.new1 W (.int .u8 (b.toNat : Int)) 5 0 _ rfl
set_option maxHeartbeats 2000000 in
set_option maxRecDepth 100000 in
theorem step_wait (l : List Ru) (hg : ru.Good l) (f : Bool) (B rb : Nat) (lv : Value) (sm fm : Nat) (v : Value) (out : List UInt8) (W : World) (w : ByteArray) (b : UInt8) (hR : Rw B rb l lv sm fm W) (hB : BufG f B v out W) (hw : w.size ≤ 100) (hx : waits l (w.data.toList ++ [b]) = true) :
    Calls Try.prog 35 #[.pointer (some ⟨rb, 0, none⟩), v, .string w, .int .u8 (b.toNat : Int)] W (StpOut f B rb l lv sm fm v out w.data.toList b W) := by
  have hcv := conv_byte W b
  have BA := below_alloc W (.cells #[.int .u8 (b.toNat : Int)] 5)
  have KA := hR.later BA
  have c1 := KA.c1
  have hOk : OkT (w ++ (⟨#[b]⟩ : ByteArray)) := by unfold OkT; rw [ByteArray.size_append]; show w.size + 1 ≤ _; omega
  have hlk := KA.look (w ++ (⟨#[b]⟩ : ByteArray)) hOk
  have e1 : (w ++ (⟨#[b]⟩ : ByteArray)).data.toList = w.data.toList ++ [b] := by simp
  rw [e1, hx] at hlk
  have HS : Hid (stp l w.data.toList b = ([], w.data.toList ++ [b])) := ru.rw.stp_wait hg hx
  have HE : Hid (tr.bs (w.data.toList ++ [b]) = w ++ (⟨#[b]⟩ : ByteArray)) := by
    show _ = _
    apply ByteArray.ext; apply Array.toList_inj.1
    show w.data.toList ++ [b] = _
    rw [e1]
  have HKA := (show Hid _ from KA)
  have HB := (show Hid _ from hB)
  have HNL := (show Hid (∀ n W', W'.heap[fm]? = W.heap[fm]? → NewLt n fm W W') from fun n W' e => NewLt.same hR e)
  have HFO := (show Hid (∃ es c, W.heap[fm]? = some (.map es c)) from hR.fobj)
  obtain ⟨vg, vc, rfl, v1, v2⟩ := hB.form
  generalize (whole l (w.data.toList ++ [b])).isSome = wt at *
  generalize tr.bs (toOf l (w.data.toList ++ [b])) = tt at *
  clear hR hB KA e1
  go_enter Try.func35, Try.ntmps35
  go_wp2_with (fail)
  go_ret2
  have B2 := ru.chain BA (below_alloc (W.alloc (.cells #[.int .u8 (b.toNat : Int)] 5)) (.cells #[.bool true, .bool wt, .string tt] 100))
  exact ⟨.slice vg out.length vc, by rw [HS.out, HE.out]; rfl, by rw [HS.out, List.append_nil]; exact BufG.later (f := f) HB.out B2, HKA.out.later (below_alloc _ _), Gw.of (Gr.ahead B2 (Gr.refl _ _)), HNL.out _ _ (by obtain ⟨es, c, e⟩ := HFO.out; exact B2.block fm (Array.getElem?_eq_some_iff.1 e).1)⟩
set_option maxHeartbeats 2000000 in
set_option maxRecDepth 100000 in
theorem step_whole (l : List Ru) (hg : ru.Good l) (f : Bool) (B rb : Nat) (lv : Value) (sm fm : Nat) (v : Value) (out : List UInt8) (W : World) (w : ByteArray) (b : UInt8) (hR : Rw B rb l lv sm fm W) (hB : BufG f B v out W) (hw : w.size ≤ 100) (hout : out.length ≤ 100000) (hx : waits l (w.data.toList ++ [b]) = false) (r : Ru) (hr : whole l (w.data.toList ++ [b]) = some r) :
    Calls Try.prog 35 #[.pointer (some ⟨rb, 0, none⟩), v, .string w, .int .u8 (b.toNat : Int)] W (StpOut f B rb l lv sm fm v out w.data.toList b W) := by
  have hcv := conv_byte W b
  have BA := below_alloc W (.cells #[.int .u8 (b.toNat : Int)] 5)
  have KA := hR.later BA
  have c1 := KA.c1
  have hOk : OkT (w ++ (⟨#[b]⟩ : ByteArray)) := by unfold OkT; rw [ByteArray.size_append]; show w.size + 1 ≤ _; omega
  have hlk := KA.look (w ++ (⟨#[b]⟩ : ByteArray)) hOk
  have e1 : (w ++ (⟨#[b]⟩ : ByteArray)).data.toList = w.data.toList ++ [b] := by simp
  have e2 : toOf l (w.data.toList ++ [b]) = r.t := by unfold toOf; rw [hr]
  rw [e1, hx, hr, e2] at hlk
  simp only [Option.isSome_some] at hlk
  have htz : (tr.bs r.t).size ≤ 32 := by rw [bs_size]; exact (hg.pos (ru.rw.whole_some hr).1).2.2
  have HT : Hid ((tr.bs r.t).data.toList = r.t) := rfl
  have HS : Hid (stp l w.data.toList b = (r.t, [])) := ru.rw.stp_whole hg hx hr
  have HKA := (show Hid _ from KA)
  have HB := (show Hid _ from hB)
  have HNL := (show Hid (∀ n W', W'.heap[fm]? = W.heap[fm]? → NewLt n fm W W') from fun n W' e => NewLt.same hR e)
  have HFO := (show Hid (∃ es c, W.heap[fm]? = some (.map es c)) from hR.fobj)
  obtain ⟨vg, vc, rfl, v1, v2⟩ := hB.form
  generalize tr.bs r.t = tt at *
  have B2 := ru.chain BA (below_alloc (W.alloc (.cells #[.int .u8 (b.toNat : Int)] 5)) (.cells #[.bool false, .bool true, .string tt] 100))
  have hB2 : BufG f B (.slice vg out.length vc) out ((W.alloc (.cells #[.int .u8 (b.toNat : Int)] 5)).alloc (.cells #[.bool false, .bool true, .string tt] 100)) := hB.later B2
  have HK2 := (show Hid _ from KA.later (below_alloc _ (.cells #[.bool false, .bool true, .string tt] 100)))
  clear hR hB KA e1 HB HKA
  go_enter Try.func35, Try.ntmps35
  go_wp2_with (at_builtin; refine BufG.text (by rfl) (.tmp 32) (.tmp 34) (by rfl) f B _ out (by rfl) hB2 tt (by rfl) (by omega) ?_; intro v' w' hb' hG')
  go_ret2
  exact ⟨v', by rw [HS.out]; rfl, by rw [HS.out, ← HT.out]; exact hb', HK2.out.bufG hB2 hG', Gw.of (Gr.ahead B2 hG'), HNL.out _ _ (by obtain ⟨es, c, e⟩ := HFO.out; have e2 := B2.block fm (Array.getElem?_eq_some_iff.1 e).1; exact (hG'.gr.block fm (Nat.lt_of_lt_of_le (Array.getElem?_eq_some_iff.1 e).1 B2.size) (hB2.kind (e2.trans e))).trans e2)⟩
set_option maxHeartbeats 2000000 in
set_option maxRecDepth 100000 in
theorem step_none (l : List Ru) (hg : ru.Good l) (f : Bool) (B rb : Nat) (lv : Value) (sm fm : Nat) (v : Value) (out : List UInt8) (W : World) (b : UInt8) (hR : Rw B rb l lv sm fm W) (hB : BufG f B v out W) (hout : out.length ≤ 100000) (hx : waits l [b] = false) (hr : whole l [b] = none) :
    Calls Try.prog 35 #[.pointer (some ⟨rb, 0, none⟩), v, .string ⟨#[]⟩, .int .u8 (b.toNat : Int)] W (StpOut f B rb l lv sm fm v out [] b W) := by
  have hcv := conv_byte W b
  have BA := below_alloc W (.cells #[.int .u8 (b.toNat : Int)] 5)
  have KA := hR.later BA
  have c1 := KA.c1
  have hOk : OkT ((⟨#[]⟩ : ByteArray) ++ (⟨#[b]⟩ : ByteArray)) := by unfold OkT; rw [ByteArray.size_append]; show 0 + 1 ≤ _; omega
  have hlk := KA.look ((⟨#[]⟩ : ByteArray) ++ (⟨#[b]⟩ : ByteArray)) hOk
  have e1 : ((⟨#[]⟩ : ByteArray) ++ (⟨#[b]⟩ : ByteArray)).data.toList = [b] := by simp
  have e2 : toOf l [b] = [] := by unfold toOf; rw [hr]
  rw [e1, hx, hr, e2] at hlk
  simp only [Option.isSome_none] at hlk
  generalize tr.bs [] = tt at *
  have HS : Hid (stp l [] b = ([b], [])) := ru.rw.stp_none hg hx hr
  have HKA := (show Hid _ from KA)
  have HB := (show Hid _ from hB)
  have HNL := (show Hid (∀ n W', W'.heap[fm]? = W.heap[fm]? → NewLt n fm W W') from fun n W' e => NewLt.same hR e)
  have HFO := (show Hid (∃ es c, W.heap[fm]? = some (.map es c)) from hR.fobj)
  obtain ⟨vg, vc, rfl, v1, v2⟩ := hB.form
  have B2 := ru.chain BA (below_alloc (W.alloc (.cells #[.int .u8 (b.toNat : Int)] 5)) (.cells #[.bool false, .bool false, .string tt] 100))
  have hB2 : BufG f B (.slice vg out.length vc) out ((W.alloc (.cells #[.int .u8 (b.toNat : Int)] 5)).alloc (.cells #[.bool false, .bool false, .string tt] 100)) := hB.later B2
  have HK2 := (show Hid _ from KA.later (below_alloc _ (.cells #[.bool false, .bool false, .string tt] 100)))
  clear hR hB KA e1 HB HKA
  have hsz : ((W.alloc (.cells #[.int .u8 (b.toNat : Int)] 5)).alloc (.cells #[.bool false, .bool false, .string tt] 100)).heap.size = W.heap.size + 1 + 1 := by simp
  go_enter Try.func35, Try.ntmps35
  go_wp2_with (at_builtin; (refine BufG.byte (by rfl) (.tmp 39) (.tmp 41) (by rfl) f B _ out (by rfl) hB2 b (by rw [hsz]; rfl) (by omega) ?_; intro v' w' hb' hG'))
  go_ret2
  exact ⟨v', by rw [HS.out]; rfl, by rw [HS.out]; exact hb', HK2.out.bufG hB2 hG', Gw.of (Gr.ahead B2 hG'), HNL.out _ _ (by obtain ⟨es, c, e⟩ := HFO.out; have e2 := B2.block fm (Array.getElem?_eq_some_iff.1 e).1; exact (hG'.gr.block fm (Nat.lt_of_lt_of_le (Array.getElem?_eq_some_iff.1 e).1 B2.size) (hB2.kind (e2.trans e))).trans e2)⟩
end Go.Proofs.Ytlmodfeiphffcaa.wr

namespace Go.Proofs.Ytlmodfeiphffcaa.wr
open Go.ChangeShapes Go.WideShapes Go.ChangeAt Go.RowKit Go.Shelf Go.Maps
open tr
open mk (law9 OkT kt key9 kt_inj map_keep)
open ru (Ru Rus)
open ru.rw (waits whole stp fall states)
set_option linter.unusedVariables false

theorem look96 {W : World} {m n : Nat} {D : DataW Unit} {l : List Ru} {ks : List ByteArray} (hown : W.ownsMap Try.prog 9 RF m n D) (hF : IsFl l ks D) (u : ByteArray) (hu : u ∈ ks) :
    (Instr.lookup 96 (.map (some m)) (.string u) true).run Try.prog W = .ok (.tuple #[.agg #[.string (tr.bs (fall l u.data.toList).1), .string (tr.bs (fall l u.data.toList).2)], .bool true]) W := by
  have hok := (hF.ok u hu).1
  obtain ⟨v, ps, hrun, hv⟩ := hown.look_ok law9 Try.underlying96 (zero106 W) (RF_of ⟨#[]⟩ ⟨#[]⟩) (key9 u hok)
  have e0 : eF (⟨#[]⟩ : ByteArray).data.toList (⟨#[]⟩ : ByteArray).data.toList = eF [] [] := rfl
  rw [e0, hF.at' u hu] at hv
  rw [(hF.has u hok).2 hu] at hrun
  obtain ⟨p, w, rfl, hz⟩ := RF_inv hv
  obtain ⟨e1, e2⟩ := eF_inj (congrArg Prod.fst hz)
  have h1 : p = tr.bs (fall l u.data.toList).1 := by
    cases p with | mk a => cases a with | mk q => simp at e1; subst e1; rfl
  have h2 : w = tr.bs (fall l u.data.toList).2 := by
    cases w with | mk a => cases a with | mk q => simp at e2; subst e2; rfl
  rw [hrun, h1, h2]
theorem look96n {W : World} {m n : Nat} {D : DataW Unit} {l : List Ru} {ks : List ByteArray} (hown : W.ownsMap Try.prog 9 RF m n D) (hF : IsFl l ks D) (u : ByteArray) (hok : OkT u) (hu : u ∉ ks) :
    ∃ p w, (Instr.lookup 96 (.map (some m)) (.string u) true).run Try.prog W = .ok (.tuple #[.agg #[.string p, .string w], .bool false]) W := by
  obtain ⟨v, ps, hrun, hv⟩ := hown.look_ok law9 Try.underlying96 (zero106 W) (RF_of ⟨#[]⟩ ⟨#[]⟩) (key9 u hok)
  rw [show Maps.has D (kt u) = false from Bool.eq_false_iff.2 (fun h => hu ((hF.has u hok).1 h))] at hrun
  obtain ⟨p, w, rfl, hz⟩ := RF_inv hv
  exact ⟨p, w, hrun⟩
theorem nodup_snoc {α : Type} {l : List α} {x : α} (h : l.Nodup) (hx : x ∉ l) : (l ++ [x]).Nodup := by
  rw [List.nodup_append]
  exact ⟨h, by simp, fun a ha b hb e => by rw [List.mem_singleton.1 hb] at e; exact hx (e ▸ ha)⟩
/-- one text more of which it is known what became of it -/
theorem IsFl.put {l : List Ru} {ks : List ByteArray} {D : DataW Unit} (h : IsFl l ks D) (hT : Tidy D) (u : ByteArray) (hok : OkT u) (hw : waits l u.data.toList = true) (hu : u ∉ ks) (hlit : WideAt.IsKeyLit (kt u)) : IsFl l (ks ++ [u]) (D.put (kt u) (eF (fall l u.data.toList).1 (fall l u.data.toList).2)) := by
  refine ⟨nodup_snoc h.nd hu, fun x hx => ?_, fun x hx => ?_, fun x hx => ?_⟩
  · rcases List.mem_append.1 hx with hx | hx
    · exact h.ok x hx
    · rw [List.mem_singleton.1 hx]; exact ⟨hok, hw⟩
  · by_cases e : x = u
    · subst e
      simp [Maps.has_put_same hT.isMap hlit]
    · rw [Maps.has_put_other (fun e2 => e (kt_inj x u hx hok e2)), h.has x hx]
      simp [e]
  · rcases List.mem_append.1 hx with hx | hx
    · have hne : x ≠ u := fun e => hu (e ▸ hx)
      rw [atKey_put_other (fun e2 => hne (kt_inj x u (h.ok x hx).1 hok e2))]
      exact h.at' x hx
    · rw [List.mem_singleton.1 hx, atKey_put_same hT.isMap hlit]
end Go.Proofs.Ytlmodfeiphffcaa.wr
