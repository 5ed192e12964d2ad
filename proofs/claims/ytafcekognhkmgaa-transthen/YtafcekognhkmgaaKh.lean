/-
  Over this program: what stands while a state is left (maker.leave).
-/
import Derived.Test.YtafcekognhkmgaaKg
import Derived.Test.YtafcekognhkmgaaKc
namespace Go.Proofs.Ytafcekognhkmgaa.mk
open Go.ChangeShapes Go.WideShapes Go.ChangeAt Go.RowKit Go.Shelf Go.Maps
open tr
set_option linter.unusedVariables false

section
variable {B kb : Nat} {f0 f1 : Value} {q : Kv} {d : Kq} {W W' : World}
/-- a block that is kept by a state's and by a text's number -/
theorem KI.offS (k : KI B kb f0 f1 q d W) {g : Nat} {cs : Array Value} {T : TypeId} {fr : Nat × Nat} (hg : W.heap[g]? = some (.cells cs T fr)) (h1 : T ≠ 113) (h2 : T ≠ 76 ∨ q.sv.ownBlock ≠ some g) : g ≠ kb ∧ g ≠ q.nm ∧ q.sv.ownBlock ≠ some g := by
  have := k.cells hg
  refine ⟨this.2.2 h1, this.1, ?_⟩
  rcases h2 with h | h
  · exact fun e => ow.type k.os hg h e.symm
  · exact h
theorem KI.offT (k : KI B kb f0 f1 q d W) {g : Nat} {cs : Array Value} {T : TypeId} {fr : Nat × Nat} (hg : W.heap[g]? = some (.cells cs T fr)) (h1 : T ≠ 113) (h2 : T ≠ 9) : g ≠ kb ∧ g ≠ q.tm ∧ q.v3.ownBlock ≠ some g := by
  have := k.cells hg
  exact ⟨this.2.2 h1, this.2.1, fun e => ow.type k.o3 hg h2 e.symm⟩
/-- a block that does not belong to it -/
theorem KI.out (k : KI B kb f0 f1 q d W) {g : Nat} {cs : Array Value} {T : TypeId} {fr : Nat × Nat} (hg : W.heap[g]? = some (.cells cs T fr)) (hT : T = 5 ∨ T = 3 ∧ q.v2.ownBlock ≠ some g ∧ (∀ x ∈ d.r0 ++ d.r1, x.1 ≠ g)) : ¬ Fp kb q d g := by
  have hc := k.cells hg
  have n1 : T ≠ 113 ∧ T ≠ 76 ∧ T ≠ 23 ∧ T ≠ 9 := by
    rcases hT with h | ⟨h, _⟩ <;> subst h <;> decide
  rintro (h | h | h | h | h | h | h | h | ⟨x, hx, h⟩)
  · exact hc.2.2 n1.1 h
  · exact hc.1 h
  · exact hc.2.1 h
  · exact ow.type k.os hg n1.2.1 h.symm
  · exact ow.type k.o0 hg n1.2.2.1 h.symm
  · exact ow.type k.o1 hg n1.2.2.1 h.symm
  · rcases hT with e | ⟨e, h2, _⟩
    · exact ow.type k.o2 hg (by subst e; decide) h.symm
    · exact h2 h
  · exact ow.type k.o3 hg n1.2.2.2 h.symm
  · rcases hT with e | ⟨e, _, h2⟩
    · have hi : ∃ l, IRow W x.1 l := by
        rcases List.mem_append.1 hx with hx | hx
        · exact ⟨_, k.i0 x hx⟩
        · exact ⟨_, k.i1 x hx⟩
      obtain ⟨l, hi⟩ := hi
      unfold IRow at hi
      rw [h, hg] at hi
      cases hi
      exact absurd e (by decide)
    · exact h2 x hx h
theorem KI.buf (k : KI B kb f0 f1 q d W) {B2 : Nat} {v v' : Value} {xs : List UInt8} (hb : Buf B2 v xs W) (hG : Gr W v W' v') : KI B kb f0 f1 q d W' := k.keep fun g hg => by
  refine hG.gr.block g (k.fp hg).2 fun e => ?_
  obtain ⟨cs, hc⟩ := own_cells hb.1 e.symm
  exact k.out hc (.inl rfl) hg
theorem KI.set (k : KI B kb f0 f1 q d W) {g : Nat} (hg : ¬ Fp kb q d g) (i : Nat) (u : Value) : KI B kb f0 f1 q d (W.setCell ⟨g, i, none⟩ u) := k.keep fun g' h => Below.heap_setCell _ _ _ _ (fun e => hg (by have e2 : g' = g := e; rw [← e2]; exact h))
end
section
variable {B kb : Nat} {f0 f1 : Value} {q : Kv} {d : Kq} {s : St} {t : ByteArray} {W W' : World}
end
/-- an entry of a state's rows -/
def Ent (Stp : St → UInt8 → List UInt8 → St → Prop) (sts : List St) (txs : List ByteArray) (s : St) (c : Nat) (n p : Int) : Prop :=
  ∃ (i k : Nat) (odd : Bool) (t : ByteArray) (s' : St), n = (i : Int) ∧ p = ((2 * k + odd.toNat : Nat) : Int) ∧ sts[i]? = some s' ∧ txs[k]? = some t ∧ Stp s (UInt8.ofNat c) (t.data.toList ++ (if odd = true then [UInt8.ofNat c] else [])) s'
theorem pre_get {α : Type} {l l' : List α} (h : l <+: l') {i : Nat} {x : α} (e : l[i]? = some x) : l'[i]? = some x := by
  obtain ⟨r, rfl⟩ := h
  rw [List.getElem?_append_left (List.getElem?_eq_some_iff.1 e).1]
  exact e
theorem Ent.mono {Stp : St → UInt8 → List UInt8 → St → Prop} {sts sts' : List St} {txs txs' : List ByteArray} {s : St} {c : Nat} {n p : Int} (h : Ent Stp sts txs s c n p) (h1 : sts <+: sts') (h2 : txs <+: txs') : Ent Stp sts' txs' s c n p := by
  obtain ⟨i, k, odd, t, s', e1, e2, e3, e4, e5⟩ := h
  exact ⟨i, k, odd, t, s', e1, e2, pre_get h1 e3, pre_get h2 e4, e5⟩
/-- the state's rows up to a byte -/
def Rows (Stp : St → UInt8 → List UInt8 → St → Prop) (sts : List St) (txs : List ByteArray) (s : St) (b : Nat) (rn rp : List Int) : Prop := rn.length = 256 ∧ rp.length = 256 ∧ ∀ c, c < b → ∃ n p, rn[c]? = some n ∧ rp[c]? = some p ∧ Ent Stp sts txs s c n p
theorem Rows.mono {Stp : St → UInt8 → List UInt8 → St → Prop} {sts sts' : List St} {txs txs' : List ByteArray} {s : St} {b : Nat} {rn rp : List Int} (h : Rows Stp sts txs s b rn rp) (h1 : sts <+: sts') (h2 : txs <+: txs') : Rows Stp sts' txs' s b rn rp :=
  ⟨h.1, h.2.1, fun c hc => by obtain ⟨n, p, e1, e2, e3⟩ := h.2.2 c hc; exact ⟨n, p, e1, e2, e3.mono h1 h2⟩⟩
theorem Rows.put {Stp : St → UInt8 → List UInt8 → St → Prop} {sts : List St} {txs : List ByteArray} {s : St} {b : Nat} {rn rp : List Int} (h : Rows Stp sts txs s b rn rp) (hb : b < 256) {n p : Int} (e : Ent Stp sts txs s b n p) : Rows Stp sts txs s (b + 1) (rn.set b n) (rp.set b p) :=
  ⟨by rw [List.length_set]; exact h.1, by rw [List.length_set]; exact h.2.1, fun c hc => by
    by_cases e1 : c = b
    · subst e1
      exact ⟨n, p, by rw [List.getElem?_set_self (by rw [h.1]; exact hb)], by rw [List.getElem?_set_self (by rw [h.2.1]; exact hb)], e⟩
    · obtain ⟨n', p', a1, a2, a3⟩ := h.2.2 c (by omega)
      exact ⟨n', p', by rw [List.getElem?_set_ne (Ne.symm e1)]; exact a1, by rw [List.getElem?_set_ne (Ne.symm e1)]; exact a2, a3⟩⟩
/-- how far what is being made has come since -/
structure Adv (Stp : St → UInt8 → List UInt8 → St → Prop) (Er : St → List UInt8 → Prop) (s : St) (sts0 : List St) (txs0 : List ByteArray) (n : Nat) (sts : List St) (txs : List ByteArray) : Prop where
  ps : sts0 <+: sts
  pt : txs0 <+: txs
  nd : sts0.Nodup → sts.Nodup
  nt : txs0.Nodup → txs.Nodup
  ln : txs.length ≤ txs0.length + n
  ss : ∀ x ∈ sts, x ∈ sts0 ∨ ∃ c o, Stp s c o x
  tt : ∀ t ∈ txs, t ∈ txs0 ∨ (∃ c odd x, Stp s c (t.data.toList ++ (if odd = true then [c] else [])) x) ∨ Er s t.data.toList
  ll : sts.length ≤ sts0.length + n
theorem nodup_snoc {α : Type} {l : List α} {x : α} (h : l.Nodup) (hx : x ∉ l) : (l ++ [x]).Nodup := by
  rw [List.nodup_append]
  exact ⟨h, by simp, fun a ha b hb => by simp at hb; subst hb; exact fun e => hx (e ▸ ha)⟩
section
variable {Stp : St → UInt8 → List UInt8 → St → Prop} {Er : St → List UInt8 → Prop} {s : St} {sts0 sts : List St} {txs0 txs : List ByteArray} {n : Nat}
theorem Adv.refl : Adv Stp Er s sts0 txs0 0 sts0 txs0 := ⟨List.prefix_refl _, List.prefix_refl _, id, id, Nat.le_refl _, fun x h => .inl h, fun t h => .inl h, Nat.le_refl _⟩
theorem Adv.st (h : Adv Stp Er s sts0 txs0 n sts txs) {sts' : List St} {x : St} (hx : sts' = sts ∨ (x ∉ sts ∧ sts' = sts ++ [x])) {c : UInt8} {o : List UInt8} (hs : Stp s c o x) {txs' : List ByteArray} {t : ByteArray} (ht : txs' = txs ∨ (t ∉ txs ∧ txs' = txs ++ [t])) {odd : Bool} (ho : t.data.toList ++ (if odd = true then [c] else []) = o) : Adv Stp Er s sts0 txs0 (n + 1) sts' txs' := by
  have a1 : sts0 <+: sts' ∧ (sts0.Nodup → sts'.Nodup) ∧ sts'.length ≤ sts0.length + (n + 1) ∧ ∀ y ∈ sts', y ∈ sts0 ∨ ∃ c o, Stp s c o y := by
    rcases hx with rfl | ⟨h1, rfl⟩
    · exact ⟨h.ps, h.nd, by have := h.ll; omega, h.ss⟩
    · refine ⟨h.ps.trans (List.prefix_append _ _), fun e => nodup_snoc (h.nd e) h1, by have := h.ll; simp; omega, fun y hy => ?_⟩
      rcases List.mem_append.1 hy with hy | hy
      · exact h.ss y hy
      · rw [List.mem_singleton.1 hy]; exact .inr ⟨c, o, hs⟩
  have a2 : txs0 <+: txs' ∧ (txs0.Nodup → txs'.Nodup) ∧ txs'.length ≤ txs0.length + (n + 1) ∧ ∀ y ∈ txs', y ∈ txs0 ∨ (∃ c odd x, Stp s c (y.data.toList ++ (if odd = true then [c] else [])) x) ∨ Er s y.data.toList := by
    rcases ht with rfl | ⟨h1, rfl⟩
    · exact ⟨h.pt, h.nt, by have := h.ln; omega, h.tt⟩
    · refine ⟨h.pt.trans (List.prefix_append _ _), fun e => nodup_snoc (h.nt e) h1, by have := h.ln; simp; omega, fun y hy => ?_⟩
      rcases List.mem_append.1 hy with hy | hy
      · exact h.tt y hy
      · rw [List.mem_singleton.1 hy]; exact .inr (.inl ⟨c, odd, x, by rw [ho]; exact hs⟩)
  exact ⟨a1.1, a2.1, a1.2.1, a2.2.1, a2.2.2.1, a1.2.2.2, a2.2.2.2, a1.2.2.1⟩
theorem Adv.en (h : Adv Stp Er s sts0 txs0 n sts txs) {txs' : List ByteArray} {t : ByteArray} (ht : txs' = txs ∨ (t ∉ txs ∧ txs' = txs ++ [t])) (he : Er s t.data.toList) : Adv Stp Er s sts0 txs0 (n + 1) sts txs' := by
  rcases ht with rfl | ⟨h1, rfl⟩
  · exact ⟨h.ps, h.pt, h.nd, h.nt, by have := h.ln; omega, h.ss, h.tt, by have := h.ll; omega⟩
  · refine ⟨h.ps, h.pt.trans (List.prefix_append _ _), h.nd, fun e => nodup_snoc (h.nt e) h1, by have := h.ln; simp; omega, h.ss, fun y hy => ?_, by have := h.ll; omega⟩
    rcases List.mem_append.1 hy with hy | hy
    · exact h.tt y hy
    · rw [List.mem_singleton.1 hy]; exact .inr (.inr he)
end
end Go.Proofs.Ytafcekognhkmgaa.mk
