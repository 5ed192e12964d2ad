/-
  Texts put together: Over this program: what stands while a state is left (maker.leave). Contracts over this program: a state is left (maker.leave): the loop over the bytes. Over this program: what is being made, with a row more.
-/
import Derived.Test.YtlmodfeiphffcaaKKg
import Derived.Test.YtlmodfeiphffcaaKKc
namespace Go.Proofs.Ytlmodfeiphffcaa.mk
open Go.ChangeShapes Go.WideShapes Go.ChangeAt Go.RowKit Go.Shelf Go.Maps
open tr
set_option linter.unusedVariables false

section
variable {B kb : Nat} {f0 f1 : Value} {q : Kv} {d : Kq} {W W' : World}
/-- a block that is kept by a state's and by a text's number -/
theorem KI.offS (k : KI B kb f0 f1 q d W) {g : Nat} {cs : Array Value} {T : TypeId} {fr : Nat × Nat} (hg : W.heap[g]? = some (.cells cs T fr)) (h1 : T ≠ 113) (h2 : T ≠ 76 ∨ q.sv.ownBlock ≠ some g) : g ≠ kb ∧ g ≠ q.nm ∧ q.sv.ownBlock ≠ some g := by
  have := k.cells hg
  refine ⟨this.2.2 h1, this.1, ?_⟩
  rcases h2 with h | h
  · exact fun e => ow.type k.os hg h e.symm
  · exact h
theorem KI.offT (k : KI B kb f0 f1 q d W) {g : Nat} {cs : Array Value} {T : TypeId} {fr : Nat × Nat} (hg : W.heap[g]? = some (.cells cs T fr)) (h1 : T ≠ 113) (h2 : T ≠ 9) : g ≠ kb ∧ g ≠ q.tm ∧ q.v3.ownBlock ≠ some g := by
  have := k.cells hg
  exact ⟨this.2.2 h1, this.2.1, fun e => ow.type k.o3 hg h2 e.symm⟩
/-- a block that does not belong to it -/
theorem KI.out (k : KI B kb f0 f1 q d W) {g : Nat} {cs : Array Value} {T : TypeId} {fr : Nat × Nat} (hg : W.heap[g]? = some (.cells cs T fr)) (hT : T = 5 ∨ T = 3 ∧ q.v2.ownBlock ≠ some g ∧ (∀ x ∈ d.r0 ++ d.r1, x.1 ≠ g)) : ¬ Fp kb q d g := by
  have hc := k.cells hg
  have n1 : T ≠ 113 ∧ T ≠ 76 ∧ T ≠ 23 ∧ T ≠ 9 := by
    rcases hT with h | ⟨h, _⟩ <;> subst h <;> decide
  rintro (h | h | h | h | h | h | h | h | ⟨x, hx, h⟩)
  · exact hc.2.2 n1.1 h
  · exact hc.1 h
  · exact hc.2.1 h
  · exact ow.type k.os hg n1.2.1 h.symm
  · exact ow.type k.o0 hg n1.2.2.1 h.symm
  · exact ow.type k.o1 hg n1.2.2.1 h.symm
  · rcases hT with e | ⟨e, h2, _⟩
    · exact ow.type k.o2 hg (by subst e; decide) h.symm
    · exact h2 h
  · exact ow.type k.o3 hg n1.2.2.2 h.symm
  · rcases hT with e | ⟨e, _, h2⟩
    · have hi : ∃ l, IRow W x.1 l := by
        rcases List.mem_append.1 hx with hx | hx
        · exact ⟨_, k.i0 x hx⟩
        · exact ⟨_, k.i1 x hx⟩
      obtain ⟨l, hi⟩ := hi
      unfold IRow at hi
      rw [h, hg] at hi
      cases hi
      exact absurd e (by decide)
    · exact h2 x hx h
theorem KI.buf (k : KI B kb f0 f1 q d W) {B2 : Nat} {v v' : Value} {xs : List UInt8} (hb : Buf B2 v xs W) (hG : Gr W v W' v') : KI B kb f0 f1 q d W' := k.keep fun g hg => by
  refine hG.gr.block g (k.fp hg).2 fun e => ?_
  obtain ⟨cs, hc⟩ := own_cells hb.1 e.symm
  exact k.out hc (.inl rfl) hg
theorem KI.set (k : KI B kb f0 f1 q d W) {g : Nat} (hg : ¬ Fp kb q d g) (i : Nat) (u : Value) : KI B kb f0 f1 q d (W.setCell ⟨g, i, none⟩ u) := k.keep fun g' h => Below.heap_setCell _ _ _ _ (fun e => hg (by have e2 : g' = g := e; rw [← e2]; exact h))
end
section
variable {B kb : Nat} {f0 f1 : Value} {q : Kv} {d : Kq} {s : St} {t : ByteArray} {W W' : World}
end
/-- an entry of a state's rows -/
def Ent (Stp : St → UInt8 → List UInt8 → St → Prop) (sts : List St) (txs : List ByteArray) (s : St) (c : Nat) (n p : Int) : Prop :=
  ∃ (i k : Nat) (odd : Bool) (t : ByteArray) (s' : St), n = (i : Int) ∧ p = ((2 * k + odd.toNat : Nat) : Int) ∧ sts[i]? = some s' ∧ txs[k]? = some t ∧ Stp s (UInt8.ofNat c) (t.data.toList ++ (if odd = true then [UInt8.ofNat c] else [])) s'
theorem pre_get {α : Type} {l l' : List α} (h : l <+: l') {i : Nat} {x : α} (e : l[i]? = some x) : l'[i]? = some x := by
  obtain ⟨r, rfl⟩ := h
  rw [List.getElem?_append_left (List.getElem?_eq_some_iff.1 e).1]
  exact e
theorem Ent.mono {Stp : St → UInt8 → List UInt8 → St → Prop} {sts sts' : List St} {txs txs' : List ByteArray} {s : St} {c : Nat} {n p : Int} (h : Ent Stp sts txs s c n p) (h1 : sts <+: sts') (h2 : txs <+: txs') : Ent Stp sts' txs' s c n p := by
  obtain ⟨i, k, odd, t, s', e1, e2, e3, e4, e5⟩ := h
  exact ⟨i, k, odd, t, s', e1, e2, pre_get h1 e3, pre_get h2 e4, e5⟩
/-- the state's rows up to a byte -/
def Rows (Stp : St → UInt8 → List UInt8 → St → Prop) (sts : List St) (txs : List ByteArray) (s : St) (b : Nat) (rn rp : List Int) : Prop := rn.length = 256 ∧ rp.length = 256 ∧ ∀ c, c < b → ∃ n p, rn[c]? = some n ∧ rp[c]? = some p ∧ Ent Stp sts txs s c n p
theorem Rows.mono {Stp : St → UInt8 → List UInt8 → St → Prop} {sts sts' : List St} {txs txs' : List ByteArray} {s : St} {b : Nat} {rn rp : List Int} (h : Rows Stp sts txs s b rn rp) (h1 : sts <+: sts') (h2 : txs <+: txs') : Rows Stp sts' txs' s b rn rp :=
  ⟨h.1, h.2.1, fun c hc => by obtain ⟨n, p, e1, e2, e3⟩ := h.2.2 c hc; exact ⟨n, p, e1, e2, e3.mono h1 h2⟩⟩
theorem Rows.put {Stp : St → UInt8 → List UInt8 → St → Prop} {sts : List St} {txs : List ByteArray} {s : St} {b : Nat} {rn rp : List Int} (h : Rows Stp sts txs s b rn rp) (hb : b < 256) {n p : Int} (e : Ent Stp sts txs s b n p) : Rows Stp sts txs s (b + 1) (rn.set b n) (rp.set b p) :=
  ⟨by rw [List.length_set]; exact h.1, by rw [List.length_set]; exact h.2.1, fun c hc => by
    by_cases e1 : c = b
    · subst e1
      exact ⟨n, p, by rw [List.getElem?_set_self (by rw [h.1]; exact hb)], by rw [List.getElem?_set_self (by rw [h.2.1]; exact hb)], e⟩
    · obtain ⟨n', p', a1, a2, a3⟩ := h.2.2 c (by omega)
      exact ⟨n', p', by rw [List.getElem?_set_ne (Ne.symm e1)]; exact a1, by rw [List.getElem?_set_ne (Ne.symm e1)]; exact a2, a3⟩⟩
/-- how far what is being made has come since -/
structure Adv (Stp : St → UInt8 → List UInt8 → St → Prop) (Er : St → List UInt8 → Prop) (s : St) (sts0 : List St) (txs0 : List ByteArray) (n : Nat) (sts : List St) (txs : List ByteArray) : Prop where
  ps : sts0 <+: sts
  pt : txs0 <+: txs
  nd : sts0.Nodup → sts.Nodup
  nt : txs0.Nodup → txs.Nodup
  ln : txs.length ≤ txs0.length + n
  ss : ∀ x ∈ sts, x ∈ sts0 ∨ ∃ c o, Stp s c o x
  tt : ∀ t ∈ txs, t ∈ txs0 ∨ (∃ c odd x, Stp s c (t.data.toList ++ (if odd = true then [c] else [])) x) ∨ Er s t.data.toList
  ll : sts.length ≤ sts0.length + n
theorem nodup_snoc {α : Type} {l : List α} {x : α} (h : l.Nodup) (hx : x ∉ l) : (l ++ [x]).Nodup := by
  rw [List.nodup_append]
  exact ⟨h, by simp, fun a ha b hb => by simp at hb; subst hb; exact fun e => hx (e ▸ ha)⟩
section
variable {Stp : St → UInt8 → List UInt8 → St → Prop} {Er : St → List UInt8 → Prop} {s : St} {sts0 sts : List St} {txs0 txs : List ByteArray} {n : Nat}
theorem Adv.refl : Adv Stp Er s sts0 txs0 0 sts0 txs0 := ⟨List.prefix_refl _, List.prefix_refl _, id, id, Nat.le_refl _, fun x h => .inl h, fun t h => .inl h, Nat.le_refl _⟩
theorem Adv.st (h : Adv Stp Er s sts0 txs0 n sts txs) {sts' : List St} {x : St} (hx : sts' = sts ∨ (x ∉ sts ∧ sts' = sts ++ [x])) {c : UInt8} {o : List UInt8} (hs : Stp s c o x) {txs' : List ByteArray} {t : ByteArray} (ht : txs' = txs ∨ (t ∉ txs ∧ txs' = txs ++ [t])) {odd : Bool} (ho : t.data.toList ++ (if odd = true then [c] else []) = o) : Adv Stp Er s sts0 txs0 (n + 1) sts' txs' := by
  have a1 : sts0 <+: sts' ∧ (sts0.Nodup → sts'.Nodup) ∧ sts'.length ≤ sts0.length + (n + 1) ∧ ∀ y ∈ sts', y ∈ sts0 ∨ ∃ c o, Stp s c o y := by
    rcases hx with rfl | ⟨h1, rfl⟩
    · exact ⟨h.ps, h.nd, by have := h.ll; omega, h.ss⟩
    · refine ⟨h.ps.trans (List.prefix_append _ _), fun e => nodup_snoc (h.nd e) h1, by have := h.ll; simp; omega, fun y hy => ?_⟩
      rcases List.mem_append.1 hy with hy | hy
      · exact h.ss y hy
      · rw [List.mem_singleton.1 hy]; exact .inr ⟨c, o, hs⟩
  have a2 : txs0 <+: txs' ∧ (txs0.Nodup → txs'.Nodup) ∧ txs'.length ≤ txs0.length + (n + 1) ∧ ∀ y ∈ txs', y ∈ txs0 ∨ (∃ c odd x, Stp s c (y.data.toList ++ (if odd = true then [c] else [])) x) ∨ Er s y.data.toList := by
    rcases ht with rfl | ⟨h1, rfl⟩
    · exact ⟨h.pt, h.nt, by have := h.ln; omega, h.tt⟩
    · refine ⟨h.pt.trans (List.prefix_append _ _), fun e => nodup_snoc (h.nt e) h1, by have := h.ln; simp; omega, fun y hy => ?_⟩
      rcases List.mem_append.1 hy with hy | hy
      · exact h.tt y hy
      · rw [List.mem_singleton.1 hy]; exact .inr (.inl ⟨c, odd, x, by rw [ho]; exact hs⟩)
  exact ⟨a1.1, a2.1, a1.2.1, a2.2.1, a2.2.2.1, a1.2.2.2, a2.2.2.2, a1.2.2.1⟩
theorem Adv.en (h : Adv Stp Er s sts0 txs0 n sts txs) {txs' : List ByteArray} {t : ByteArray} (ht : txs' = txs ∨ (t ∉ txs ∧ txs' = txs ++ [t])) (he : Er s t.data.toList) : Adv Stp Er s sts0 txs0 (n + 1) sts txs' := by
  rcases ht with rfl | ⟨h1, rfl⟩
  · exact ⟨h.ps, h.pt, h.nd, h.nt, by have := h.ln; omega, h.ss, h.tt, by have := h.ll; omega⟩
  · refine ⟨h.ps, h.pt.trans (List.prefix_append _ _), h.nd, fun e => nodup_snoc (h.nt e) h1, by have := h.ln; simp; omega, h.ss, fun y hy => ?_, by have := h.ll; omega⟩
    rcases List.mem_append.1 hy with hy | hy
    · exact h.tt y hy
    · rw [List.mem_singleton.1 hy]; exact .inr (.inr he)
end
end Go.Proofs.Ytlmodfeiphffcaa.mk

namespace Go.Proofs.Ytlmodfeiphffcaa.mk
open Go.ChangeShapes Go.WideShapes Go.ChangeAt Go.RowKit Go.Shelf Go.Maps
open tr
set_option linter.unusedVariables false

theorem cells_ne {W : World} {g g' : Nat} {cs cs' : Array Value} {T T' : TypeId} {fr fr' : Nat × Nat} (h1 : W.heap[g]? = some (.cells cs T fr)) (h2 : W.heap[g']? = some (.cells cs' T' fr')) (hne : T ≠ T') : g ≠ g' := fun e => by
  subst e
  rw [h1] at h2
  injection h2 with h2
  injection h2 with _ h _
  exact hne h
theorem pre_of {α : Type} {l l' : List α} {x : α} (h : l' = l ∨ (x ∉ l ∧ l' = l ++ [x])) : l <+: l' := by
  rcases h with e | ⟨_, e⟩
  · rw [e]; exact List.prefix_refl _
  · rw [e]; exact List.prefix_append _ _
def CSt (a b : Mc) (s : St) (c : UInt8) (o : List UInt8) (x : St) : Prop := x.1 = nx a s.1 c.toNat ∧ x.2 < b.next.length ∧ (go b s.2 (outp a s.1 c) = (o, x.2) ∨ Cut o (go b s.2 (outp a s.1 c)).1)
def CEr (a b : Mc) (s : St) (o : List UInt8) : Prop := total b s.2 (tx a (en a s.1)).data.toList = o ∨ Cut o (total b s.2 (tx a (en a s.1)).data.toList)
abbrev F0 (cb : Nat) : Value := .func (.func 40) #[.pointer (some ⟨cb, 0, none⟩)] #[]
abbrev F1 (cb : Nat) : Value := .func (.func 41) #[.pointer (some ⟨cb, 0, none⟩)] #[]
structure LI (B kb cb : Nat) (a : Mc) (pa : Mp) (b : Mc) (pb : Mp) (q0 : Kv) (d0 : Kq) (g3 gn gp : Nat) (s : St) (i : Nat) (v : Value) (xs : List UInt8) (sv v3 : Value) (lg : Nat) (sts : List St) (txs : List ByteArray) (rn rp : List Int) (W : World) : Prop where
  cn : Cn B W cb a pa b pb
  ki : KI B kb (F0 cb) (F1 cb) { q0 with sv := sv, v3 := v3, lg := lg } { d0 with sts := sts, txs := txs } W
  bu : Buf B v xs W
  c3 : W.heap[g3]? = some (.cells #[.int .i64 (s.1 : Int), .int .i64 (s.2 : Int)] 76 (0, 0))
  n3 : sv.ownBlock ≠ some g3
  in0 : IRow W gn rn
  in1 : IRow W gp rp
  ne : gn ≠ gp
  o0 : q0.v2.ownBlock ≠ some gn ∧ ∀ x ∈ d0.r0 ++ d0.r1, x.1 ≠ gn
  o1 : q0.v2.ownBlock ≠ some gp ∧ ∀ x ∈ d0.r0 ++ d0.r1, x.1 ≠ gp
  b0 : B ≤ gn
  b1 : B ≤ gp
  rows : Rows (CSt a b) sts txs s i rn rp
  adv : Adv (CSt a b) (CEr a b) s d0.sts d0.txs i sts txs
section
variable {B kb cb : Nat} {a : Mc} {pa : Mp} {b : Mc} {pb : Mp} {q0 : Kv} {d0 : Kq} {g3 gn gp : Nat} {s : St} {i : Nat} {v : Value} {xs : List UInt8} {sv v3 : Value} {lg : Nat} {sts : List St} {txs : List ByteArray} {rn rp : List Int} {W W' : World}
theorem LI.hb (h : LI B kb cb a pa b pb q0 d0 g3 gn gp s i v xs sv v3 lg sts txs rn rp W) : B ≤ W.heap.size := h.bu.2
theorem LI.later (h : LI B kb cb a pa b pb q0 d0 g3 gn gp s i v xs sv v3 lg sts txs rn rp W) (c : Below W.heap.size W W') : LI B kb cb a pa b pb q0 d0 g3 gn gp s i v xs sv v3 lg sts txs rn rp W' :=
  ⟨h.cn.low (c.mono h.hb), h.ki.later c, h.bu.later c, (c.block _ (Array.getElem?_eq_some_iff.1 h.c3).1).trans h.c3, h.n3, h.in0.later c, h.in1.later c, h.ne, h.o0, h.o1, h.b0, h.b1, h.rows, h.adv⟩
theorem LI.step (h : LI B kb cb a pa b pb q0 d0 g3 gn gp s i v xs sv v3 lg sts txs rn rp W) {u u' : Value} {o : List UInt8} (hu : Buf B u [] W) (hG : Gr W u W' u') (hb : Buf B u' o W') : LI B kb cb a pa b pb q0 d0 g3 gn gp s i u' o sv v3 lg sts txs rn rp W' := by
  have off : ∀ {g : Nat} {cs : Array Value} {T : TypeId}, W.heap[g]? = some (.cells cs T (0, 0)) → T ≠ 5 → W'.heap[g]? = W.heap[g]? := fun hg hT => hG.gr.block _ (Array.getElem?_eq_some_iff.1 hg).1 (ow.type hu.1 hg hT)
  exact ⟨h.cn.low (hG.below hu), h.ki.buf hu hG, hb, (off h.c3 (by decide)).trans h.c3, h.n3, h.in0.keep (off h.in0 (by decide)), h.in1.keep (off h.in1 (by decide)), h.ne, h.o0, h.o1, h.b0, h.b1, h.rows, h.adv⟩
theorem LI.set8 (h : LI B kb cb a pa b pb q0 d0 g3 gn gp s i v xs sv v3 lg sts txs rn rp W) {g8 : Nat} {cs : Array Value} (h8 : W.heap[g8]? = some (.cells cs 76 (0, 0))) (hB : B ≤ g8) (hf : ¬ Fp kb { q0 with sv := sv, v3 := v3, lg := lg } { d0 with sts := sts, txs := txs } g8) (h3 : g3 ≠ g8) (j : Nat) (u : Value) : LI B kb cb a pa b pb q0 d0 g3 gn gp s i v xs sv v3 lg sts txs rn rp (W.setCell ⟨g8, j, none⟩ u) := by
  have hn : ∀ {g : Nat} {l : List Int}, IRow W g l → g ≠ g8 := fun hi => cells_ne hi h8 (by decide)
  exact ⟨h.cn.low ((Below.refl B W).setCell (p := ⟨g8, j, none⟩) hB u), h.ki.set hf j u, h.bu.set h8 (by decide) j u, (Below.heap_setCell _ _ _ _ h3).trans h.c3, h.n3, h.in0.other (hn h.in0) j u, h.in1.other (hn h.in1) j u, h.ne, h.o0, h.o1, h.b0, h.b1, h.rows, h.adv⟩
/-- behind the state's number and the text's -/
theorem LI.nums (h : LI B kb cb a pa b pb q0 d0 g3 gn gp s i v xs sv v3 lg sts txs rn rp W) {W1 : World} {sv' v3' : Value} {lg' : Nat} {sts' : List St} {txs' : List ByteArray} {x : St} {t : ByteArray} {odd : Bool} {n k : Nat}
    (k1 : KI B kb (F0 cb) (F1 cb) { q0 with sv := sv', v3 := v3, lg := lg } { d0 with sts := sts', txs := txs } W1)
    (k2 : KI B kb (F0 cb) (F1 cb) { q0 with sv := sv', v3 := v3', lg := lg' } { d0 with sts := sts', txs := txs' } W')
    (e1 : sts'[n]? = some x) (e2 : sts' = sts ∨ (x ∉ sts ∧ sts' = sts ++ [x])) (e3 : txs'[k]? = some t) (e4 : txs' = txs ∨ (t ∉ txs ∧ txs' = txs ++ [t]))
    (h1 : ∀ g, g < W.heap.size → g ≠ kb → g ≠ q0.nm → sv.ownBlock ≠ some g → W1.heap[g]? = W.heap[g]?) (h2 : ∀ g, g < W1.heap.size → g ≠ kb → g ≠ q0.tm → v3.ownBlock ≠ some g → W'.heap[g]? = W1.heap[g]?)
    (z1 : W.heap.size ≤ W1.heap.size) (z2 : W1.heap.size ≤ W'.heap.size) (hw : sv'.ownBlock = sv.ownBlock ∨ ∀ g, sv'.ownBlock = some g → W.heap.size ≤ g)
    (hbw : Below B W W') (hi : i < 256) (hs : CSt a b s (UInt8.ofNat i) xs x) (ht : t.data.toList ++ (if odd = true then [UInt8.ofNat i] else []) = xs) :
    LI B kb cb a pa b pb q0 d0 g3 gn gp s (i + 1) v xs sv' v3' lg' sts' txs' (rn.set i (n : Int)) (rp.set i ((2 * k + odd.toNat : Nat) : Int)) ((W'.setCell ⟨gn, i, none⟩ (.int .i64 (n : Int))).setCell ⟨gp, i, none⟩ (.int .i64 ((2 * k + odd.toNat : Nat) : Int))) := by
  have off : ∀ {g : Nat} {cs : Array Value} {T : TypeId}, W.heap[g]? = some (.cells cs T (0, 0)) → T ≠ 113 → T ≠ 9 → (T ≠ 76 ∨ sv.ownBlock ≠ some g) → W'.heap[g]? = W.heap[g]? := fun hg t1 t2 t3 => by
    have l1 := (Array.getElem?_eq_some_iff.1 hg).1
    obtain ⟨o1, o2, o3⟩ := h.ki.offS hg t1 t3
    have hg1 := (h1 _ l1 o1 o2 o3).trans hg
    obtain ⟨p1, p2, p3⟩ := k1.offT hg1 t1 t2
    exact (h2 _ (Nat.lt_of_lt_of_le l1 z1) p1 p2 p3).trans (h1 _ l1 o1 o2 o3)
  have c3' := (off h.c3 (by decide) (by decide) (.inr h.n3)).trans h.c3
  have i0' : IRow W' gn rn := h.in0.keep (off h.in0 (by decide) (by decide) (.inl (by decide)))
  have i1' : IRow W' gp rp := h.in1.keep (off h.in1 (by decide) (by decide) (.inl (by decide)))
  have bu' : Buf B v xs W' := ⟨own_keep h.bu.1 fun g eg => by
    obtain ⟨cs, hc⟩ := own_cells h.bu.1 eg
    exact off hc (by decide) (by decide) (.inl (by decide)), Nat.le_trans h.hb (Nat.le_trans z1 z2)⟩
  have hf0 : ¬ Fp kb { q0 with sv := sv', v3 := v3', lg := lg' } { d0 with sts := sts', txs := txs' } gn := k2.out i0' (.inr ⟨rfl, h.o0⟩)
  have hf1 : ¬ Fp kb { q0 with sv := sv', v3 := v3', lg := lg' } { d0 with sts := sts', txs := txs' } gp := k2.out i1' (.inr ⟨rfl, h.o1⟩)
  have g3n : g3 ≠ gn := cells_ne c3' i0' (by decide)
  have g3p : g3 ≠ gp := cells_ne c3' i1' (by decide)
  have j0 := i0'.put i (n : Int)
  have adv' := h.adv.st e2 hs e4 ht
  refine ⟨(h.cn.low hbw).low (((Below.refl B W').setCell (p := ⟨gn, i, none⟩) h.b0 _).setCell (p := ⟨gp, i, none⟩) h.b1 _), (k2.set hf0 i _).set hf1 i _, (bu'.set i0' (by decide) i _).set ((i1'.other (Ne.symm h.ne) i _)) (by decide) i _, ?_, ?_, j0.other h.ne i _, (i1'.other (Ne.symm h.ne) i _).put i _, h.ne, h.o0, h.o1, h.b0, h.b1, ?_, adv'⟩
  · rw [Below.heap_setCell _ _ _ _ g3p, Below.heap_setCell _ _ _ _ g3n]; exact c3'
  · rcases hw with e | e
    · rw [e]; exact h.n3
    · intro e'
      have := e g3 e'
      have := (Array.getElem?_eq_some_iff.1 h.c3).1
      omega
  · have ps : sts <+: sts' := pre_of e2
    have pt : txs <+: txs' := pre_of e4
    exact (h.rows.mono ps pt).put hi ⟨n, k, odd, t, x, rfl, rfl, e1, e3, by rw [ht]; exact hs⟩
end
end Go.Proofs.Ytlmodfeiphffcaa.mk

namespace Go.Proofs.Ytlmodfeiphffcaa.mk
open Go.ChangeShapes Go.WideShapes Go.ChangeAt Go.RowKit Go.Shelf Go.Maps
open tr
set_option linter.unusedVariables false

theorem info23 : (Try.prog.info? 23).map (fun i => (i.zero, i.size, i.bytes)) = some (some (.slice none 0 0), 1, 24) := by kernel_rfl
section
variable {B kb : Nat} {f0 f1 : Value} {q : Kv} {d : Kq} {W W' : World}
theorem KI.push (k : KI B kb f0 f1 q d W) {ex : Nat → Prop} (hex : ∀ g, ex g → ∃ cs, W.heap[g]? = some (.cells cs 23 (0, 0)) ∨ W.heap[g]? = some (.cells cs 3 (0, 0)))
    (hh : ∀ g, g < W.heap.size → g ≠ kb → ¬ ex g → W'.heap[g]? = W.heap[g]?) :
    (W'.ownsRow B 76 2 q.sv d.sts.length (scs d.sts)) ∧ (W'.ownsRow B 9 1 q.v3 d.txs.length (svs d.txs)) ∧ (∃ D, W'.ownsMap Try.prog 76 (plainElem (H := Unit) Try.prog 3) q.nm d.sts.length D ∧ MapN kp OkS d.sts D) ∧ (∃ D, W'.ownsMap Try.prog 9 (plainElem (H := Unit) Try.prog 3) q.tm d.txs.length D ∧ MapN kt OkT d.txs D) := by
  have nex : ∀ {g : Nat} {cs : Array Value} {T : TypeId}, W.heap[g]? = some (.cells cs T (0, 0)) → T ≠ 23 → T ≠ 3 → ¬ ex g := fun hg h1 h2 he => by
    obtain ⟨cs', h | h⟩ := hex _ he
    · exact cells_ne hg h h1 rfl
    · exact cells_ne hg h h2 rfl
  have row : ∀ {e sz n : Nat} {v : Value} {xs : List Value}, W.ownsRow B e sz v n xs → e ≠ 113 → e ≠ 23 → e ≠ 3 → W'.ownsRow B e sz v n xs := fun h h1 h2 h3 => ow.keep h fun g eg => by
    obtain ⟨cs, hc⟩ := own_cells h eg
    exact hh g (ow.lt h eg).2 ((k.cells hc).2.2 h1) (nex hc h2 h3)
  have mp : ∀ {g : Nat} {es : Array MapEntry} {c : Nat}, W.heap[g]? = some (.map es c) → W'.heap[g]? = W.heap[g]? := fun hg => hh _ (Array.getElem?_eq_some_iff.1 hg).1 (fun e => by rw [e, k.box] at hg; cases hg) (fun he => by
    obtain ⟨cs', h | h⟩ := hex _ he <;> rw [hg] at h <;> cases h)
  obtain ⟨D1, m1, m2⟩ := k.mn
  obtain ⟨D2, m3, m4⟩ := k.mt
  obtain ⟨e1, c1, n1⟩ := k.nobj
  obtain ⟨e2, c2, n2⟩ := k.tobj
  exact ⟨row k.os (by decide) (by decide) (by decide), row k.o3 (by decide) (by decide) (by decide), ⟨D1, map_keep m1 (mp n1), m2⟩, ⟨D2, map_keep m3 (mp n2), m4⟩⟩
theorem mem3 {α : Type} {l m : List α} {x y : α} (h : x ∈ (l ++ [y]) ++ m) : x ∈ l ++ m ∨ x = y := by
  simp at h ⊢
  rcases h with h | h | h
  · exact .inl (.inl h)
  · exact .inr h
  · exact .inl (.inr h)
theorem mem4 {α : Type} {l m : List α} {x y : α} (h : x ∈ l ++ (m ++ [y])) : x ∈ l ++ m ∨ x = y := by
  simp at h ⊢
  rcases h with h | h | h
  · exact .inl (.inl h)
  · exact .inl (.inr h)
  · exact .inr h
theorem KI.push0 (k : KI B kb f0 f1 q d W) {v : Value} {gn : Nat} {rn : List Int} (hi : IRow W gn rn) (hB : B ≤ gn) (h2 : q.v2.ownBlock ≠ some gn)
    (hh : ∀ g, g < W.heap.size → g ≠ kb → q.v0.ownBlock ≠ some g → W'.heap[g]? = W.heap[g]?)
    (hk : W'.heap[kb]? = some (.cells (kcells f0 f1 { q with v0 := v }) 113 (0, 0)))
    (ho : W'.ownsRow B 23 1 v (d.r0 ++ [(gn, rn)]).length (rcs (d.r0 ++ [(gn, rn)])))
    (hw : v.ownBlock = q.v0.ownBlock ∨ ∀ g, v.ownBlock = some g → W.heap.size ≤ g) : KI B kb f0 f1 { q with v0 := v } { d with r0 := d.r0 ++ [(gn, rn)] } W' := by
  obtain ⟨p1, p2, p3, p4⟩ := k.push (ex := fun g => q.v0.ownBlock = some g) (fun g e => by obtain ⟨cs, h⟩ := own_cells k.o0 e; exact ⟨cs, .inl h⟩) hh
  have ir : ∀ {g : Nat} {l : List Int}, IRow W g l → IRow W' g l := fun h => h.keep (hh _ h.lt ((k.cells h).2.2 (by decide)) (fun e => ow.type k.o0 h (by decide) e.symm))
  refine ⟨hk, p1, ho, ow.keep k.o1 (fun g eg => ?_), ow.keep k.o2 (fun g eg => ?_), p2, p3, p4, fun x hx => ?_, fun x hx => ir (k.i1 x hx), k.nt, fun g eg e1 => ?_, fun x hx => ?_, k.s3, k.bk, k.bn, k.bt, fun x hx => ?_, k.ls, k.lt, k.lx⟩
  · obtain ⟨cs, hc⟩ := own_cells k.o1 eg
    exact hh g (ow.lt k.o1 eg).2 ((k.cells hc).2.2 (by decide)) (fun e => k.n01 g e eg)
  · obtain ⟨cs, hc⟩ := own_cells k.o2 eg
    exact hh g (ow.lt k.o2 eg).2 ((k.cells hc).2.2 (by decide)) (fun e => ow.type k.o0 hc (by decide) e.symm)
  · rcases List.mem_append.1 hx with h | h
    · exact ir (k.i0 x h)
    · rw [List.mem_singleton.1 h]; exact ir hi
  · rcases hw with e | e
    · exact k.n01 g (e ▸ eg) e1
    · have := e g eg
      have := (ow.lt k.o1 e1).2
      omega
  · rcases mem3 hx with h | rfl
    · exact k.n2 x h
    · exact h2
  · rcases mem3 hx with h | rfl
    · exact k.br x h
    · exact hB
theorem KI.push1 (k : KI B kb f0 f1 q d W) {v : Value} {gn : Nat} {rn : List Int} (hi : IRow W gn rn) (hB : B ≤ gn) (h2 : q.v2.ownBlock ≠ some gn)
    (hh : ∀ g, g < W.heap.size → g ≠ kb → q.v1.ownBlock ≠ some g → W'.heap[g]? = W.heap[g]?)
    (hk : W'.heap[kb]? = some (.cells (kcells f0 f1 { q with v1 := v }) 113 (0, 0)))
    (ho : W'.ownsRow B 23 1 v (d.r1 ++ [(gn, rn)]).length (rcs (d.r1 ++ [(gn, rn)])))
    (hw : v.ownBlock = q.v1.ownBlock ∨ ∀ g, v.ownBlock = some g → W.heap.size ≤ g) : KI B kb f0 f1 { q with v1 := v } { d with r1 := d.r1 ++ [(gn, rn)] } W' := by
  obtain ⟨p1, p2, p3, p4⟩ := k.push (ex := fun g => q.v1.ownBlock = some g) (fun g e => by obtain ⟨cs, h⟩ := own_cells k.o1 e; exact ⟨cs, .inl h⟩) hh
  have ir : ∀ {g : Nat} {l : List Int}, IRow W g l → IRow W' g l := fun h => h.keep (hh _ h.lt ((k.cells h).2.2 (by decide)) (fun e => ow.type k.o1 h (by decide) e.symm))
  refine ⟨hk, p1, ow.keep k.o0 (fun g eg => ?_), ho, ow.keep k.o2 (fun g eg => ?_), p2, p3, p4, fun x hx => ir (k.i0 x hx), fun x hx => ?_, k.nt, fun g eg e1 => ?_, fun x hx => ?_, k.s3, k.bk, k.bn, k.bt, fun x hx => ?_, k.ls, k.lt, k.lx⟩
  · obtain ⟨cs, hc⟩ := own_cells k.o0 eg
    exact hh g (ow.lt k.o0 eg).2 ((k.cells hc).2.2 (by decide)) (k.n01 g eg)
  · obtain ⟨cs, hc⟩ := own_cells k.o2 eg
    exact hh g (ow.lt k.o2 eg).2 ((k.cells hc).2.2 (by decide)) (fun e => ow.type k.o1 hc (by decide) e.symm)
  · rcases List.mem_append.1 hx with h | h
    · exact ir (k.i1 x h)
    · rw [List.mem_singleton.1 h]; exact ir hi
  · rcases hw with e | e
    · exact k.n01 g eg (e ▸ e1)
    · have := e g e1
      have := (ow.lt k.o0 eg).2
      omega
  · rcases mem4 hx with h | rfl
    · exact k.n2 x h
    · exact h2
  · rcases mem4 hx with h | rfl
    · exact k.br x h
    · exact hB
theorem KI.push2 (k : KI B kb f0 f1 q d W) {v : Value} {e : Nat}
    (hh : ∀ g, g < W.heap.size → g ≠ kb → q.v2.ownBlock ≠ some g → W'.heap[g]? = W.heap[g]?)
    (hk : W'.heap[kb]? = some (.cells (kcells f0 f1 { q with v2 := v }) 113 (0, 0)))
    (ho : W'.ownsRow B 3 1 v (d.fn ++ [e]).length (icl (d.fn ++ [e])))
    (hw : v.ownBlock = q.v2.ownBlock ∨ ∀ g, v.ownBlock = some g → W.heap.size ≤ g) : KI B kb f0 f1 { q with v2 := v } { d with fn := d.fn ++ [e] } W' := by
  obtain ⟨p1, p2, p3, p4⟩ := k.push (ex := fun g => q.v2.ownBlock = some g) (fun g e => by obtain ⟨cs, h⟩ := own_cells k.o2 e; exact ⟨cs, .inr h⟩) hh
  have ir : ∀ (x : Nat × List Int), x ∈ d.r0 ++ d.r1 → IRow W x.1 x.2 → IRow W' x.1 x.2 := fun x hx h => h.keep (hh _ h.lt ((k.cells h).2.2 (by decide)) (k.n2 x hx))
  refine ⟨hk, p1, ow.keep k.o0 (fun g eg => ?_), ow.keep k.o1 (fun g eg => ?_), ho, p2, p3, p4, fun x hx => ir x (List.mem_append_left _ hx) (k.i0 x hx), fun x hx => ir x (List.mem_append_right _ hx) (k.i1 x hx), k.nt, k.n01, fun x hx e1 => ?_, k.s3, k.bk, k.bn, k.bt, k.br, k.ls, k.lt, k.lx⟩
  · obtain ⟨cs, hc⟩ := own_cells k.o0 eg
    exact hh g (ow.lt k.o0 eg).2 ((k.cells hc).2.2 (by decide)) (fun e => ow.type k.o2 hc (by decide) e.symm)
  · obtain ⟨cs, hc⟩ := own_cells k.o1 eg
    exact hh g (ow.lt k.o1 eg).2 ((k.cells hc).2.2 (by decide)) (fun e => ow.type k.o2 hc (by decide) e.symm)
  · rcases hw with e2 | e2
    · exact k.n2 x hx (e2 ▸ e1)
    · have := e2 x.1 e1
      have := (k.fp (.inr (.inr (.inr (.inr (.inr (.inr (.inr (.inr ⟨x, hx, rfl⟩))))))))).2
      omega
/-- an append, and its store into a cell of the maker -/
theorem pushed {W2 : World} {v : Value} {e n : Nat} {xs : List Value} {u : Value} {g' cap' j : Nat} (k : KI B kb f0 f1 q d W) (ho : W.ownsRow B e 1 v n xs) (he : e ≠ 113)
    (h2 : W2.ownsRow B e 1 (.slice (some ⟨g', 0, none⟩) (n + 1) cap') (n + 1) (xs ++ [u])) (hg : (W.alloc (.cells #[u] e)).grownBy W2 v.ownBlock) (hw : some g' = v.ownBlock ∨ (W.alloc (.cells #[u] e)).heap.size ≤ g') :
    W2.heap[kb]? = some (.cells (kcells f0 f1 q) 113 (0, 0)) ∧ (∀ g, g < W.heap.size → g ≠ kb → v.ownBlock ≠ some g → (W2.setCell ⟨kb, j, none⟩ (.slice (some ⟨g', 0, none⟩) (n + 1) cap')).heap[g]? = W.heap[g]?) ∧ (W2.setCell ⟨kb, j, none⟩ (.slice (some ⟨g', 0, none⟩) (n + 1) cap')).ownsRow B e 1 (.slice (some ⟨g', 0, none⟩) (n + 1) cap') (n + 1) (xs ++ [u]) ∧ ((Value.slice (some ⟨g', 0, none⟩) (n + 1) cap').ownBlock = v.ownBlock ∨ ∀ g, (Value.slice (some ⟨g', 0, none⟩) (n + 1) cap').ownBlock = some g → W.heap.size ≤ g) ∧ Below B W (W2.setCell ⟨kb, j, none⟩ (.slice (some ⟨g', 0, none⟩) (n + 1) cap')) := by
  have ba := below_alloc W (.cells #[u] e)
  have x2 : W2.heap[kb]? = some (.cells (kcells f0 f1 q) 113 (0, 0)) := (hg.block kb (Nat.lt_of_lt_of_le k.kl ba.size) (ow.type ho k.box he.symm)).trans ((ba.block kb k.kl).trans k.box)
  refine ⟨x2, fun g h1 h3 h4 => ?_, ow.keep h2 fun g eg => Below.heap_setCell _ _ _ _ (fun e => by have e' : g = kb := e; subst e'; exact ow.type h2 x2 he.symm eg.symm), ?_, ?_⟩
  · rw [Below.heap_setCell _ _ _ _ h3, hg.block g (Nat.lt_of_lt_of_le h1 ba.size) (fun e => h4 e.symm), ba.block g h1]
  · rcases hw with e | e
    · exact .inl e
    · refine .inr fun g eg => ?_
      simp [Value.ownBlock] at eg
      have := ba.size
      omega
  · have hB : B ≤ W.heap.size := Nat.le_trans k.bk (Nat.le_of_lt k.kl)
    exact (((Below.refl B W).trans (ba.mono hB)).grown hg (Nat.le_trans hB ba.size) (fun g eg => (ow.lt ho eg).1)).setCell (p := ⟨kb, j, none⟩) k.bk _
end
end Go.Proofs.Ytlmodfeiphffcaa.mk
