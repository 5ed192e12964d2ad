/-
  Contracts over this program: a state is left (maker.leave): the loop over the bytes.
-/
import Derived.Test.YtafcekognhkmgaaKh
namespace Go.Proofs.Ytafcekognhkmgaa.mk
open Go.ChangeShapes Go.WideShapes Go.ChangeAt Go.RowKit Go.Shelf Go.Maps
open tr
set_option linter.unusedVariables false

theorem cells_ne {W : World} {g g' : Nat} {cs cs' : Array Value} {T T' : TypeId} {fr fr' : Nat × Nat} (h1 : W.heap[g]? = some (.cells cs T fr)) (h2 : W.heap[g']? = some (.cells cs' T' fr')) (hne : T ≠ T') : g ≠ g' := fun e => by
  subst e
  rw [h1] at h2
  injection h2 with h2
  injection h2 with _ h _
  exact hne h
theorem pre_of {α : Type} {l l' : List α} {x : α} (h : l' = l ∨ (x ∉ l ∧ l' = l ++ [x])) : l <+: l' := by
  rcases h with e | ⟨_, e⟩
  · rw [e]; exact List.prefix_refl _
  · rw [e]; exact List.prefix_append _ _
def CSt (a b : Mc) (s : St) (c : UInt8) (o : List UInt8) (x : St) : Prop := x.1 = nx a s.1 c.toNat ∧ x.2 < b.next.length ∧ (go b s.2 (outp a s.1 c) = (o, x.2) ∨ Cut o (go b s.2 (outp a s.1 c)).1)
def CEr (a b : Mc) (s : St) (o : List UInt8) : Prop := total b s.2 (tx a (en a s.1)).data.toList = o ∨ Cut o (total b s.2 (tx a (en a s.1)).data.toList)
abbrev F0 (cb : Nat) : Value := .func (.func 42) #[.pointer (some ⟨cb, 0, none⟩)] #[]
abbrev F1 (cb : Nat) : Value := .func (.func 43) #[.pointer (some ⟨cb, 0, none⟩)] #[]
structure LI (B kb cb : Nat) (a : Mc) (pa : Mp) (b : Mc) (pb : Mp) (q0 : Kv) (d0 : Kq) (g3 gn gp : Nat) (s : St) (i : Nat) (v : Value) (xs : List UInt8) (sv v3 : Value) (lg : Nat) (sts : List St) (txs : List ByteArray) (rn rp : List Int) (W : World) : Prop where
  cn : Cn B W cb a pa b pb
  ki : KI B kb (F0 cb) (F1 cb) { q0 with sv := sv, v3 := v3, lg := lg } { d0 with sts := sts, txs := txs } W
  bu : Buf B v xs W
  c3 : W.heap[g3]? = some (.cells #[.int .i64 (s.1 : Int), .int .i64 (s.2 : Int)] 76 (0, 0))
  n3 : sv.ownBlock ≠ some g3
  in0 : IRow W gn rn
  in1 : IRow W gp rp
  ne : gn ≠ gp
  o0 : q0.v2.ownBlock ≠ some gn ∧ ∀ x ∈ d0.r0 ++ d0.r1, x.1 ≠ gn
  o1 : q0.v2.ownBlock ≠ some gp ∧ ∀ x ∈ d0.r0 ++ d0.r1, x.1 ≠ gp
  b0 : B ≤ gn
  b1 : B ≤ gp
  rows : Rows (CSt a b) sts txs s i rn rp
  adv : Adv (CSt a b) (CEr a b) s d0.sts d0.txs i sts txs
section
variable {B kb cb : Nat} {a : Mc} {pa : Mp} {b : Mc} {pb : Mp} {q0 : Kv} {d0 : Kq} {g3 gn gp : Nat} {s : St} {i : Nat} {v : Value} {xs : List UInt8} {sv v3 : Value} {lg : Nat} {sts : List St} {txs : List ByteArray} {rn rp : List Int} {W W' : World}
theorem LI.hb (h : LI B kb cb a pa b pb q0 d0 g3 gn gp s i v xs sv v3 lg sts txs rn rp W) : B ≤ W.heap.size := h.bu.2
theorem LI.later (h : LI B kb cb a pa b pb q0 d0 g3 gn gp s i v xs sv v3 lg sts txs rn rp W) (c : Below W.heap.size W W') : LI B kb cb a pa b pb q0 d0 g3 gn gp s i v xs sv v3 lg sts txs rn rp W' :=
  ⟨h.cn.low (c.mono h.hb), h.ki.later c, h.bu.later c, (c.block _ (Array.getElem?_eq_some_iff.1 h.c3).1).trans h.c3, h.n3, h.in0.later c, h.in1.later c, h.ne, h.o0, h.o1, h.b0, h.b1, h.rows, h.adv⟩
theorem LI.step (h : LI B kb cb a pa b pb q0 d0 g3 gn gp s i v xs sv v3 lg sts txs rn rp W) {u u' : Value} {o : List UInt8} (hu : Buf B u [] W) (hG : Gr W u W' u') (hb : Buf B u' o W') : LI B kb cb a pa b pb q0 d0 g3 gn gp s i u' o sv v3 lg sts txs rn rp W' := by
  have off : ∀ {g : Nat} {cs : Array Value} {T : TypeId}, W.heap[g]? = some (.cells cs T (0, 0)) → T ≠ 5 → W'.heap[g]? = W.heap[g]? := fun hg hT => hG.gr.block _ (Array.getElem?_eq_some_iff.1 hg).1 (ow.type hu.1 hg hT)
  exact ⟨h.cn.low (hG.below hu), h.ki.buf hu hG, hb, (off h.c3 (by decide)).trans h.c3, h.n3, h.in0.keep (off h.in0 (by decide)), h.in1.keep (off h.in1 (by decide)), h.ne, h.o0, h.o1, h.b0, h.b1, h.rows, h.adv⟩
theorem LI.set8 (h : LI B kb cb a pa b pb q0 d0 g3 gn gp s i v xs sv v3 lg sts txs rn rp W) {g8 : Nat} {cs : Array Value} (h8 : W.heap[g8]? = some (.cells cs 76 (0, 0))) (hB : B ≤ g8) (hf : ¬ Fp kb { q0 with sv := sv, v3 := v3, lg := lg } { d0 with sts := sts, txs := txs } g8) (h3 : g3 ≠ g8) (j : Nat) (u : Value) : LI B kb cb a pa b pb q0 d0 g3 gn gp s i v xs sv v3 lg sts txs rn rp (W.setCell ⟨g8, j, none⟩ u) := by
  have hn : ∀ {g : Nat} {l : List Int}, IRow W g l → g ≠ g8 := fun hi => cells_ne hi h8 (by decide)
  exact ⟨h.cn.low ((Below.refl B W).setCell (p := ⟨g8, j, none⟩) hB u), h.ki.set hf j u, h.bu.set h8 (by decide) j u, (Below.heap_setCell _ _ _ _ h3).trans h.c3, h.n3, h.in0.other (hn h.in0) j u, h.in1.other (hn h.in1) j u, h.ne, h.o0, h.o1, h.b0, h.b1, h.rows, h.adv⟩
/-- behind the state's number and the text's -/
theorem LI.nums (h : LI B kb cb a pa b pb q0 d0 g3 gn gp s i v xs sv v3 lg sts txs rn rp W) {W1 : World} {sv' v3' : Value} {lg' : Nat} {sts' : List St} {txs' : List ByteArray} {x : St} {t : ByteArray} {odd : Bool} {n k : Nat}
    (k1 : KI B kb (F0 cb) (F1 cb) { q0 with sv := sv', v3 := v3, lg := lg } { d0 with sts := sts', txs := txs } W1)
    (k2 : KI B kb (F0 cb) (F1 cb) { q0 with sv := sv', v3 := v3', lg := lg' } { d0 with sts := sts', txs := txs' } W')
    (e1 : sts'[n]? = some x) (e2 : sts' = sts ∨ (x ∉ sts ∧ sts' = sts ++ [x])) (e3 : txs'[k]? = some t) (e4 : txs' = txs ∨ (t ∉ txs ∧ txs' = txs ++ [t]))
    (h1 : ∀ g, g < W.heap.size → g ≠ kb → g ≠ q0.nm → sv.ownBlock ≠ some g → W1.heap[g]? = W.heap[g]?) (h2 : ∀ g, g < W1.heap.size → g ≠ kb → g ≠ q0.tm → v3.ownBlock ≠ some g → W'.heap[g]? = W1.heap[g]?)
    (z1 : W.heap.size ≤ W1.heap.size) (z2 : W1.heap.size ≤ W'.heap.size) (hw : sv'.ownBlock = sv.ownBlock ∨ ∀ g, sv'.ownBlock = some g → W.heap.size ≤ g)
    (hbw : Below B W W') (hi : i < 256) (hs : CSt a b s (UInt8.ofNat i) xs x) (ht : t.data.toList ++ (if odd = true then [UInt8.ofNat i] else []) = xs) :
    LI B kb cb a pa b pb q0 d0 g3 gn gp s (i + 1) v xs sv' v3' lg' sts' txs' (rn.set i (n : Int)) (rp.set i ((2 * k + odd.toNat : Nat) : Int)) ((W'.setCell ⟨gn, i, none⟩ (.int .i64 (n : Int))).setCell ⟨gp, i, none⟩ (.int .i64 ((2 * k + odd.toNat : Nat) : Int))) := by
  have off : ∀ {g : Nat} {cs : Array Value} {T : TypeId}, W.heap[g]? = some (.cells cs T (0, 0)) → T ≠ 113 → T ≠ 9 → (T ≠ 76 ∨ sv.ownBlock ≠ some g) → W'.heap[g]? = W.heap[g]? := fun hg t1 t2 t3 => by
    have l1 := (Array.getElem?_eq_some_iff.1 hg).1
    obtain ⟨o1, o2, o3⟩ := h.ki.offS hg t1 t3
    have hg1 := (h1 _ l1 o1 o2 o3).trans hg
    obtain ⟨p1, p2, p3⟩ := k1.offT hg1 t1 t2
    exact (h2 _ (Nat.lt_of_lt_of_le l1 z1) p1 p2 p3).trans (h1 _ l1 o1 o2 o3)
  have c3' := (off h.c3 (by decide) (by decide) (.inr h.n3)).trans h.c3
  have i0' : IRow W' gn rn := h.in0.keep (off h.in0 (by decide) (by decide) (.inl (by decide)))
  have i1' : IRow W' gp rp := h.in1.keep (off h.in1 (by decide) (by decide) (.inl (by decide)))
  have bu' : Buf B v xs W' := ⟨own_keep h.bu.1 fun g eg => by
    obtain ⟨cs, hc⟩ := own_cells h.bu.1 eg
    exact off hc (by decide) (by decide) (.inl (by decide)), Nat.le_trans h.hb (Nat.le_trans z1 z2)⟩
  have hf0 : ¬ Fp kb { q0 with sv := sv', v3 := v3', lg := lg' } { d0 with sts := sts', txs := txs' } gn := k2.out i0' (.inr ⟨rfl, h.o0⟩)
  have hf1 : ¬ Fp kb { q0 with sv := sv', v3 := v3', lg := lg' } { d0 with sts := sts', txs := txs' } gp := k2.out i1' (.inr ⟨rfl, h.o1⟩)
  have g3n : g3 ≠ gn := cells_ne c3' i0' (by decide)
  have g3p : g3 ≠ gp := cells_ne c3' i1' (by decide)
  have j0 := i0'.put i (n : Int)
  have adv' := h.adv.st e2 hs e4 ht
  refine ⟨(h.cn.low hbw).low (((Below.refl B W').setCell (p := ⟨gn, i, none⟩) h.b0 _).setCell (p := ⟨gp, i, none⟩) h.b1 _), (k2.set hf0 i _).set hf1 i _, (bu'.set i0' (by decide) i _).set ((i1'.other (Ne.symm h.ne) i _)) (by decide) i _, ?_, ?_, j0.other h.ne i _, (i1'.other (Ne.symm h.ne) i _).put i _, h.ne, h.o0, h.o1, h.b0, h.b1, ?_, adv'⟩
  · rw [Below.heap_setCell _ _ _ _ g3p, Below.heap_setCell _ _ _ _ g3n]; exact c3'
  · rcases hw with e | e
    · rw [e]; exact h.n3
    · intro e'
      have := e g3 e'
      have := (Array.getElem?_eq_some_iff.1 h.c3).1
      omega
  · have ps : sts <+: sts' := pre_of e2
    have pt : txs <+: txs' := pre_of e4
    exact (h.rows.mono ps pt).put hi ⟨n, k, odd, t, x, rfl, rfl, e1, e3, by rw [ht]; exact hs⟩
end
end Go.Proofs.Ytafcekognhkmgaa.mk
