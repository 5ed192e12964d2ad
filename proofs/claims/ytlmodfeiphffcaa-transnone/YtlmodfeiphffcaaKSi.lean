/-
  Contracts over this program: a state is left (maker[string].leave): the loop over the bytes.
-/
import Derived.Test.YtlmodfeiphffcaaM14
namespace Go.Proofs.Ytlmodfeiphffcaa.ms
open Go.ChangeShapes Go.WideShapes Go.ChangeAt Go.RowKit Go.Shelf Go.Maps
open tr
open mk (Kv kcells svs rcs MapN mapN_nil map_keep own_ne own_cells law9 zero3 OkT kt key9 kt_inj look83 info9)
open wr (Gw BufG Rw)
open ru (Ru)
set_option linter.unusedVariables false

theorem KI.offM {B kb : Nat} {f0 f1 : Value} {q : Kv} {d : Kq} {W : World} (k : KI B kb f0 f1 q d W) {g : Nat} {es : Array MapEntry} {c : Nat} (hg : W.heap[g]? = some (.map es c)) (h1 : g ≠ q.nm) (h2 : g ≠ q.tm) : ¬ Fp kb q d g := by
  rintro (h | h | h | h | h | h | h | h | ⟨x, hx, h⟩)
  · have := k.box; rw [← h, hg] at this; cases this
  · exact h1 h
  · exact h2 h
  · obtain ⟨cs, hc⟩ := own_cells k.os h; rw [hg] at hc; cases hc
  · obtain ⟨cs, hc⟩ := own_cells k.o0 h; rw [hg] at hc; cases hc
  · obtain ⟨cs, hc⟩ := own_cells k.o1 h; rw [hg] at hc; cases hc
  · obtain ⟨cs, hc⟩ := own_cells k.o2 h; rw [hg] at hc; cases hc
  · obtain ⟨cs, hc⟩ := own_cells k.o3 h; rw [hg] at hc; cases hc
  · have hi : ∃ l, IRow W x.1 l := by
      rcases List.mem_append.1 hx with hx | hx
      · exact ⟨_, k.i0 x hx⟩
      · exact ⟨_, k.i1 x hx⟩
    obtain ⟨l, hi⟩ := hi
    unfold IRow at hi
    rw [h, hg] at hi
    cases hi
theorem rw_set {B rb : Nat} {l : List Ru} {lv : Value} {sm fm : Nat} {W : World} (h : Rw B rb l lv sm fm W) {g : Nat} {cs : Array Value} {T : TypeId} {fr : Nat × Nat} (hg : W.heap[g]? = some (.cells cs T fr)) (hT : T ≠ 98) (hB : B ≤ g) (j : Nat) (u : Value) : Rw B rb l lv sm fm (W.setCell ⟨g, j, none⟩ u) := by
  obtain ⟨e1, c1, n1⟩ := h.sobj
  obtain ⟨e2, c2, n2⟩ := h.fobj
  refine h.keep ((Below.refl B W).setCell (p := ⟨g, j, none⟩) hB u) (Below.heap_setCell _ _ _ _ ?_) (Below.heap_setCell _ _ _ _ ?_) (Below.heap_setCell _ _ _ _ ?_)
  · exact cells_ne h.box hg (Ne.symm hT)
  · intro e
    have e' : sm = g := e
    rw [e', hg] at n1
    cases n1
  · intro e
    have e' : fm = g := e
    rw [e', hg] at n2
    cases n2
theorem buf_set {B : Nat} {v : Value} {xs : List UInt8} {W : World} (h : Buf B v xs W) {g : Nat} {cs : Array Value} {T : TypeId} {fr : Nat × Nat} (hg : W.heap[g]? = some (.cells cs T fr)) (hT : T ≠ 5) (i : Nat) (u : Value) : Buf B v xs (W.setCell ⟨g, i, none⟩ u) :=
  ⟨own_keep h.1 fun k ek => Below.heap_setCell _ _ _ _ (fun e => by subst e; exact ow.type h.1 hg hT ek.symm), by have := h.2; simpa [World.setCell] using this⟩
def CSt (l : List Ru) (s : ByteArray) (c : UInt8) (o : List UInt8) (x : ByteArray) : Prop := ru.rw.stp l s.data.toList c = (o, x.data.toList)
def CEr (l : List Ru) (s : ByteArray) (o : List UInt8) : Prop := ru.ap l s.data.toList = o
abbrev F0 (rb : Nat) : Value := .func (.func 35) #[.pointer (some ⟨rb, 0, none⟩)] #[]
abbrev F1 (rb : Nat) : Value := .func (.func 36) #[.pointer (some ⟨rb, 0, none⟩)] #[]
structure LI (B kb rb : Nat) (l : List Ru) (lv : Value) (sm fm : Nat) (q0 : Kv) (d0 : Kq) (gn gp : Nat) (s : ByteArray) (i : Nat) (v : Value) (xs : List UInt8) (sv v3 : Value) (lg : Nat) (sts : List ByteArray) (txs : List ByteArray) (rn rp : List Int) (W : World) : Prop where
  rw : Rw B rb l lv sm fm W
  ki : KI B kb (F0 rb) (F1 rb) { q0 with sv := sv, v3 := v3, lg := lg } { d0 with sts := sts, txs := txs } W
  ns : sm ≠ q0.nm ∧ sm ≠ q0.tm
  nf : fm ≠ q0.nm ∧ fm ≠ q0.tm
  bu : Buf B v xs W
  in0 : IRow W gn rn
  in1 : IRow W gp rp
  ne : gn ≠ gp
  o0 : q0.v2.ownBlock ≠ some gn ∧ ∀ x ∈ d0.r0 ++ d0.r1, x.1 ≠ gn
  o1 : q0.v2.ownBlock ≠ some gp ∧ ∀ x ∈ d0.r0 ++ d0.r1, x.1 ≠ gp
  b0 : B ≤ gn
  b1 : B ≤ gp
  rows : Rows (CSt l) sts txs s i rn rp
  adv : Adv (CSt l) (CEr l) s d0.sts d0.txs i sts txs
section
variable {B kb rb : Nat} {l : List Ru} {lv : Value} {sm fm : Nat} {q0 : Kv} {d0 : Kq} {gn gp : Nat} {s : ByteArray} {i : Nat} {v : Value} {xs : List UInt8} {sv v3 : Value} {lg : Nat} {sts : List ByteArray} {txs : List ByteArray} {rn rp : List Int} {W W' : World}
theorem LI.hb (h : LI B kb rb l lv sm fm q0 d0 gn gp s i v xs sv v3 lg sts txs rn rp W) : B ≤ W.heap.size := h.bu.2
theorem LI.later (h : LI B kb rb l lv sm fm q0 d0 gn gp s i v xs sv v3 lg sts txs rn rp W) (c : Below W.heap.size W W') : LI B kb rb l lv sm fm q0 d0 gn gp s i v xs sv v3 lg sts txs rn rp W' :=
  ⟨h.rw.later c, h.ki.later c, h.ns, h.nf, h.bu.later c, h.in0.later c, h.in1.later c, h.ne, h.o0, h.o1, h.b0, h.b1, h.rows, h.adv⟩
theorem LI.step (h : LI B kb rb l lv sm fm q0 d0 gn gp s i v xs sv v3 lg sts txs rn rp W) {u u' : Value} {o : List UInt8} (hu : BufG false B u [] W) (hG : Gw fm W u W' u') (hR : Rw B rb l lv sm fm W') (hb : BufG false B u' o W') : LI B kb rb l lv sm fm q0 d0 gn gp s i u' o sv v3 lg sts txs rn rp W' := by
  obtain ⟨es, c, hm⟩ := h.rw.fobj
  have off : ∀ {g : Nat} {cs : Array Value} {T : TypeId}, W.heap[g]? = some (.cells cs T (0, 0)) → T ≠ 5 → W'.heap[g]? = W.heap[g]? := fun hg hT => hG.block _ (Array.getElem?_eq_some_iff.1 hg).1 (hu.type hg hT) (fun e => by rw [e, hm] at hg; cases hg)
  exact ⟨hR, h.ki.gw hu hG (h.ki.offM hm h.nf.1 h.nf.2), h.ns, h.nf, hb.buf, h.in0.keep (off h.in0 (by decide)), h.in1.keep (off h.in1 (by decide)), h.ne, h.o0, h.o1, h.b0, h.b1, h.rows, h.adv⟩
/-- behind the state's number and the text's -/
theorem LI.nums (h : LI B kb rb l lv sm fm q0 d0 gn gp s i v xs sv v3 lg sts txs rn rp W) {W1 : World} {sv' v3' : Value} {lg' : Nat} {sts' : List ByteArray} {txs' : List ByteArray} {x : ByteArray} {t : ByteArray} {odd : Bool} {n k : Nat}
    (k1 : KI B kb (F0 rb) (F1 rb) { q0 with sv := sv', v3 := v3, lg := lg } { d0 with sts := sts', txs := txs } W1)
    (k2 : KI B kb (F0 rb) (F1 rb) { q0 with sv := sv', v3 := v3', lg := lg' } { d0 with sts := sts', txs := txs' } W')
    (e1 : sts'[n]? = some x) (e2 : sts' = sts ∨ (x ∉ sts ∧ sts' = sts ++ [x])) (e3 : txs'[k]? = some t) (e4 : txs' = txs ∨ (t ∉ txs ∧ txs' = txs ++ [t]))
    (h1 : ∀ g, g < W.heap.size → g ≠ kb → g ≠ q0.nm → sv.ownBlock ≠ some g → W1.heap[g]? = W.heap[g]?) (h2 : ∀ g, g < W1.heap.size → g ≠ kb → g ≠ q0.tm → v3.ownBlock ≠ some g → W'.heap[g]? = W1.heap[g]?)
    (z1 : W.heap.size ≤ W1.heap.size) (z2 : W1.heap.size ≤ W'.heap.size)
    (hbw : Below B W W') (hi : i < 256) (hs : CSt l s (UInt8.ofNat i) xs x) (ht : t.data.toList ++ (if odd = true then [UInt8.ofNat i] else []) = xs) (hl : odd = false → xs.getLast? ≠ some (UInt8.ofNat i)) :
    LI B kb rb l lv sm fm q0 d0 gn gp s (i + 1) v xs sv' v3' lg' sts' txs' (rn.set i (n : Int)) (rp.set i ((2 * k + odd.toNat : Nat) : Int)) ((W'.setCell ⟨gn, i, none⟩ (.int .i64 (n : Int))).setCell ⟨gp, i, none⟩ (.int .i64 ((2 * k + odd.toNat : Nat) : Int))) := by
  have off : ∀ {g : Nat} {cs : Array Value} {T : TypeId}, W.heap[g]? = some (.cells cs T (0, 0)) → T ≠ 103 → T ≠ 9 → W'.heap[g]? = W.heap[g]? := fun hg t1 t2 => by
    have l1 := (Array.getElem?_eq_some_iff.1 hg).1
    obtain ⟨o1, o2, o3⟩ := h.ki.offS hg t1 (.inl t2)
    have hg1 := (h1 _ l1 o1 o2 o3).trans hg
    obtain ⟨p1, p2, p3⟩ := k1.offT hg1 t1 t2
    exact (h2 _ (Nat.lt_of_lt_of_le l1 z1) p1 p2 p3).trans (h1 _ l1 o1 o2 o3)
  have offm : ∀ {g : Nat} {es : Array MapEntry} {c : Nat}, W.heap[g]? = some (.map es c) → g ≠ q0.nm → g ≠ q0.tm → W'.heap[g]? = W.heap[g]? := fun hg t1 t2 => by
    have l1 := (Array.getElem?_eq_some_iff.1 hg).1
    have f1 := h.ki.offM hg t1 t2
    have hg1 := h1 _ l1 (fun e => f1 (.inl e)) t1 (fun e => f1 (.inr (.inr (.inr (.inl e)))))
    have f2 := k1.offM (hg1.trans hg) t1 t2
    exact (h2 _ (Nat.lt_of_lt_of_le l1 z1) (fun e => f2 (.inl e)) t2 (fun e => f2 (.inr (.inr (.inr (.inr (.inr (.inr (.inr (.inl e))))))))) ).trans hg1
  have i0' : IRow W' gn rn := h.in0.keep (off h.in0 (by decide) (by decide))
  have i1' : IRow W' gp rp := h.in1.keep (off h.in1 (by decide) (by decide))
  have bu' : Buf B v xs W' := ⟨own_keep h.bu.1 fun g eg => by
    obtain ⟨cs, hc⟩ := own_cells h.bu.1 eg
    exact off hc (by decide) (by decide), Nat.le_trans h.hb (Nat.le_trans z1 z2)⟩
  have rw' : Rw B rb l lv sm fm W' := by
    obtain ⟨a1, a2, a3⟩ := h.rw.sobj
    obtain ⟨c1, c2, c3⟩ := h.rw.fobj
    exact h.rw.keep hbw (off h.rw.box (by decide) (by decide)) (offm a3 h.ns.1 h.ns.2) (offm c3 h.nf.1 h.nf.2)
  have hf0 : ¬ Fp kb { q0 with sv := sv', v3 := v3', lg := lg' } { d0 with sts := sts', txs := txs' } gn := k2.out i0' (.inr ⟨rfl, h.o0⟩)
  have hf1 : ¬ Fp kb { q0 with sv := sv', v3 := v3', lg := lg' } { d0 with sts := sts', txs := txs' } gp := k2.out i1' (.inr ⟨rfl, h.o1⟩)
  have j0 := i0'.put i (n : Int)
  have hl' : odd = false → t.data.toList.getLast? ≠ some (UInt8.ofNat i) := fun e => by
    have := hl e
    rw [← ht, e] at this
    simpa using this
  have adv' := h.adv.st e2 hs e4 ht hl'
  refine ⟨rw_set (rw_set rw' i0' (by decide) h.b0 i _) (i1'.other (Ne.symm h.ne) i _) (by decide) h.b1 i _, (k2.set hf0 i _).set hf1 i _, h.ns, h.nf, buf_set (buf_set bu' i0' (by decide) i _) ((i1'.other (Ne.symm h.ne) i _)) (by decide) i _, j0.other h.ne i _, (i1'.other (Ne.symm h.ne) i _).put i _, h.ne, h.o0, h.o1, h.b0, h.b1, ?_, adv'⟩
  have ps : sts <+: sts' := pre_of e2
  have pt : txs <+: txs' := pre_of e4
  exact (h.rows.mono ps pt).put hi ⟨n, k, odd, t, x, rfl, rfl, e1, e3, by rw [ht]; exact hs, hl'⟩
end
end Go.Proofs.Ytlmodfeiphffcaa.ms
