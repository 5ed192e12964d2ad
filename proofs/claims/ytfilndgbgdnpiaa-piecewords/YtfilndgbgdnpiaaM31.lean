/-
  Texts put together: Over this program: the rows of a builder hold the edges of its nfa. Over this program: an edge is put into the rows of a builder. Over this program: the classes are put into a builder, and read again. Over this program: how a builder's map begins. Plain mathematics: the classes of an nfa's edges. Over this program: a builder that is being made, between two edges.
-/
import Derived.Test.YtfilndgbgdnpiaaM30
import Derived.Deep.MidRow
import Derived.Lib.LazyBuf
import Derived.Test.YtfilndgbgdnpiaaM23
namespace Go.Proofs.Ytfilndgbgdnpiaa.bd
open Go.Sort Go.ChangeShapes Go.WideShapes Go.ChangeAt Go.RowKit Go.Maps
open df (Kp Row iv In IntsV Owns)
open nf (Nfa Ed Rt EdAt Eds nfaV)
open st (Q4 none4 Fits has nth jn sig Blk)
set_option linter.unusedVariables false
set_option maxRecDepth 10000

def esAt (l : List Ed) (s : Nat) : List Ed := l.filter fun e => !e.free && decide (e.fr = (s : Int))
def fsAt (l : List Ed) (s : Nat) : List Int := (l.filter fun e => e.free && decide (e.fr = (s : Int))).map (·.to)
def parts (l : List Ed) : List Q4 := (l.filter fun e => !e.free).map nf.setOf
theorem esAt_len (l : List Ed) (s : Nat) : (esAt l s).length ≤ l.length := List.length_filter_le _ _
theorem fsAt_len (l : List Ed) (s : Nat) : (fsAt l s).length ≤ l.length := by unfold fsAt; rw [List.length_map]; exact List.length_filter_le _ _
theorem esAt_free (l : List Ed) (y : Ed) (h : y.free = true) : esAt (l ++ [y]) = esAt l := by
  funext s; simp [esAt, List.filter_append, h]
theorem fsAt_over (l : List Ed) (y : Ed) (h : y.free = false) : fsAt (l ++ [y]) = fsAt l := by
  funext s; simp [fsAt, List.filter_append, h]
theorem esAt_over (l : List Ed) (y : Ed) (h : y.free = false) (s : Nat) (hs : y.fr = (s : Int)) : esAt (l ++ [y]) = up (esAt l) s (esAt l s ++ [y]) := by
  funext j
  by_cases e : j = s
  · subst e; rw [up_same]; simp [esAt, List.filter_append, h, hs]
  · rw [up_ne _ _ e]
    have : ¬ y.fr = (j : Int) := by omega
    simp [esAt, List.filter_append, this]
theorem fsAt_free (l : List Ed) (y : Ed) (h : y.free = true) (s : Nat) (hs : y.fr = (s : Int)) : fsAt (l ++ [y]) = up (fsAt l) s (fsAt l s ++ [y.to]) := by
  funext j
  by_cases e : j = s
  · subst e; rw [up_same]; simp [fsAt, List.filter_append, h, hs]
  · rw [up_ne _ _ e]
    have : ¬ y.fr = (j : Int) := by omega
    simp [fsAt, List.filter_append, this]
theorem parts_free (l : List Ed) (y : Ed) (h : y.free = true) : parts (l ++ [y]) = parts l := by simp [parts, List.filter_append, h]
theorem parts_over (l : List Ed) (y : Ed) (h : y.free = false) : parts (l ++ [y]) = parts l ++ [nf.setOf y] := by simp [parts, List.filter_append, h]
theorem parts_len (l : List Ed) : (parts l).length ≤ l.length := by unfold parts; rw [List.length_map]; exact List.length_filter_le _ _
theorem edg_at (x : Nfa) (n : Nat) : Edg x n (esAt x.edges) := fun s _ e => by
  unfold esAt
  rw [List.mem_filter]
  simp
theorem tgt_at (x : Nfa) (n : Nat) : Tgt x n (fsAt x.edges) := fun s _ t => by
  unfold fsAt
  simp only [List.mem_map, List.mem_filter, Bool.and_eq_true, decide_eq_true_eq]
  exact ⟨fun ⟨e, ⟨h1, h2, h3⟩, h4⟩ => ⟨e, h1, h2, h3, h4⟩, fun ⟨e, h1, h2, h3, h4⟩ => ⟨e, ⟨h1, h2, h3⟩, h4⟩⟩
theorem Nb.start {B ob fb n : Nat} {w : World} (ho : w.heap[ob]? = some (.cells ((List.range n).map fun _ => Value.slice none 0 0).toArray 29 (0, 0))) (hf : w.heap[fb]? = some (.cells ((List.range n).map fun _ => Value.slice none 0 0).toArray 39 (0, 0))) (h1 : B ≤ ob) (h2 : B ≤ fb) : Nb B ob fb n (fun _ => .slice none 0 0) (fun _ => .slice none 0 0) (esAt []) (fsAt []) w :=
  ⟨ho, hf, fun _ _ => ow.nil _ _ _ _, fun _ _ => ow.nil _ _ _ _, fun _ _ _ _ _ e => (by cases e), fun _ _ _ _ _ e => (by cases e), h1, h2⟩
section
variable {B ob fb n : Nat} {Vo Vf : Nat → Value} {Es : Nat → List Ed} {Fs : Nat → List Int} {w : World}
/-- the blocks of both rows, and of what they hold -/
def Mine (ob fb n : Nat) (Vo Vf : Nat → Value) (g : Nat) : Prop := g = ob ∨ g = fb ∨ (∃ s, s < n ∧ (Vo s).ownBlock = some g) ∨ ∃ s, s < n ∧ (Vf s).ownBlock = some g
theorem Nb.ovr (h : Nb B ob fb n Vo Vf Es Fs w) (hn : n ≤ 1000000) {X : Nat → Prop} (hX : ∀ g, Mine ob fb n Vo Vf g → X g) : Ovr X w ob n n Es :=
  ⟨Nat.le_refl _, by omega, hX ob (.inl rfl), fun s hs => by
    obtain ⟨o, c, e, r⟩ := own_edges (X := X) (h.oo s hs) (fun g hg => hX g (.inr (.inr (.inl ⟨s, hs, hg.symm⟩))))
    exact ⟨o, c, (h.oc hs).trans (by rw [e]), r⟩⟩
theorem Nb.fre (h : Nb B ob fb n Vo Vf Es Fs w) (hn : n ≤ 1000000) {X : Nat → Prop} (hX : ∀ g, Mine ob fb n Vo Vf g → X g) : Fre X w fb n n Fs :=
  ⟨Nat.le_refl _, by omega, hX fb (.inr (.inl rfl)), fun s hs => by
    refine ⟨Vf s, h.fc hs, ?_⟩
    have o1 := h.ff s hs
    have hx : ∀ g, some g = (Vf s).ownBlock → X g := fun g hg => hX g (.inr (.inr (.inr ⟨s, hs, hg.symm⟩)))
    obtain ⟨o, c, e, _, _⟩ := ow.form o1
    rw [e] at o1 hx ⊢
    exact ⟨o, c, rfl, nf.own_row o1 hx⟩⟩
end
end Go.Proofs.Ytfilndgbgdnpiaa.bd

namespace Go.Proofs.Ytfilndgbgdnpiaa.bd
open Go.Sort Go.ChangeShapes Go.WideShapes Go.ChangeAt Go.RowKit Go.Maps
open df (Kp Row iv In IntsV Owns)
open nf (Nfa Ed Rt EdAt Eds nfaV)
open st (Q4 none4 Fits has nth jn sig Blk)
set_option linter.unusedVariables false
set_option maxRecDepth 10000

section
variable {Q : Exit → Act → World → Prop} {a0 : Act} {id : Nat} {W : World} {B b p ob fb n s : Nat} {Vo Vf : Nat → Value} {l : List Ed} {y : Ed} {h : Hd} {vs vm vn va : Value}
/-- what of memory stays -/
structure Stay (B ob fb n : Nat) (Vo Vf Vo' Vf' : Nat → Value) (W w' : World) : Prop where
  os : w'.os = W.os
  tape : w'.tape = W.tape
  output : w'.output = W.output
  size : W.heap.size ≤ w'.heap.size
  block : ∀ g, g < W.heap.size → ¬ Mine ob fb n Vo Vf g → w'.heap[g]? = W.heap[g]?
  mine : ∀ g, Mine ob fb n Vo' Vf' g → Mine ob fb n Vo Vf g ∨ W.heap.size ≤ g
theorem mine_upF {v : Value} {g : Nat} (hg : Mine ob fb n Vo (up Vf s v) g) : Mine ob fb n Vo Vf g ∨ v.ownBlock = some g := by
  rcases hg with e | e | e | ⟨u, hu, e⟩
  · exact .inl (.inl e)
  · exact .inl (.inr (.inl e))
  · exact .inl (.inr (.inr (.inl e)))
  · by_cases x : u = s
    · subst x; rw [up_same] at e; exact .inr e
    · rw [up_ne _ _ x] at e; exact .inl (.inr (.inr (.inr ⟨u, hu, e⟩)))
theorem mine_upO {v : Value} {g : Nat} (hg : Mine ob fb n (up Vo s v) Vf g) : Mine ob fb n Vo Vf g ∨ v.ownBlock = some g := by
  rcases hg with e | e | ⟨u, hu, e⟩ | e
  · exact .inl (.inl e)
  · exact .inl (.inr (.inl e))
  · by_cases x : u = s
    · subst x; rw [up_same] at e; exact .inr e
    · rw [up_ne _ _ x] at e; exact .inl (.inr (.inr (.inl ⟨u, hu, e⟩)))
  · exact .inl (.inr (.inr (.inr e)))
theorem put_free (hsz : a0.tmps.size = 118) (e3 : a0.eval (.tmp 3) = .pointer (some ⟨b, 0, none⟩)) (e6 : a0.eval (.tmp 6) = .pointer (some ⟨p, 0, none⟩)) (k : Nb B ob fb n Vo Vf (esAt l) (fsAt l) W) (kb : BBox W b h vs vm vn va) (hvf : h.vf = .slice (some ⟨fb, 0, none⟩) n n) (hE : EBox W p y) (hp : ¬ Mine ob fb n Vo Vf p) (hB : B ≤ W.heap.size) (hl : l.length ≤ 1000000) (hs : s < n) (hfr : y.fr = (s : Int)) (hy : y.free = true)
    (fin : ∀ vals Vf' w', Nb B ob fb n Vo Vf' (esAt (l ++ [y])) (fsAt (l ++ [y])) w' → Stay B ob fb n Vo Vf Vo Vf' W w' → Q .normal (dw.fold ops41_8.toList 0 vals a0) w') : (Code.region id ops41_8 true).wp Try.prog Q a0 W := by
  have np : some p ≠ (Vf s).ownBlock := fun e => hp (.inr (.inr (.inr ⟨s, hs, e.symm⟩)))
  have nb : some b ≠ (Vf s).ownBlock := ow.type (k.ff s hs) kb.blk (by decide)
  refine reg41_8 hsz ⟨b, fb, n, s, p, y, Vf s⟩ e3 e6 (B := B) (kk := (fsAt l s).length) (xs := (fsAt l s).map (Value.int .i64)) hB (Nat.le_trans (fsAt_len l s) hl) hs hfr hE ?_ ?_ ?_ ?_ ?_ ?_ ?_
  · intro w1 w hb hg
    exact (hg.block p (hE.later hb).lt np).trans (hE.later hb)
  · intro w hb
    exact (kb.keep (hb.block b kb.lt)).c5.trans (by rw [hvf])
  · intro w1 w hb hg
    have k1 := kb.keep (hb.block b kb.lt)
    exact (k1.keep (hg.block b k1.lt nb)).c5.trans (by rw [hvf])
  · intro w hb
    exact (k.later hb).fc hs
  · intro w hb
    exact (k.later hb).ff s hs
  · intro w1 w hb hg
    have k1 := k.later hb
    have e := hg.block fb k1.flt (ow.type (k1.ff s hs) k1.frow (by decide))
    exact ⟨(World.cell?_of_block e).trans (k1.fc hs), Lib.frozen_of_heap (e.trans k1.frow) s⟩
  · intro vals g cap w1 w2 hb ho hg hn
    have k1 := k.later hb
    have k2 := k1.putF hs (t := y.to) (k' := (fsAt l s).length + 1) rfl (by have ho' := ho; unfold Owns; rw [List.length_append, List.map_append]; exact ho') hg hn
    rw [← fsAt_free l y hy s hfr, ← esAt_free l y hy] at k2
    refine fin vals _ _ k2 ⟨hg.os.trans hb.os, hg.tape.trans hb.tape, hg.output.trans hb.output, ?_, ?_, ?_⟩
    · have := hb.size; have := hg.size; simpa using (by omega : W.heap.size ≤ w2.heap.size)
    · intro j hj hm
      have h1 : j ≠ fb := fun e => hm (.inr (.inl e))
      have h2 : some j ≠ (Vf s).ownBlock := fun e => hm (.inr (.inr (.inr ⟨s, hs, e.symm⟩)))
      rw [Below.heap_setCell _ _ _ j h1, hg.block j (Nat.lt_of_lt_of_le hj hb.size) h2, hb.block j hj]
    · intro j hj
      rcases mine_upF hj with e | e
      · exact .inl e
      · have e2 : g = j := Option.some.inj e
        subst e2
        rcases hn with e3 | e3
        · exact .inl (.inr (.inr (.inr ⟨s, hs, e3.symm⟩)))
        · exact .inr (Nat.le_trans hb.size e3)
theorem put_over (hsz : a0.tmps.size = 118) (e3 : a0.eval (.tmp 3) = .pointer (some ⟨b, 0, none⟩)) (e6 : a0.eval (.tmp 6) = .pointer (some ⟨p, 0, none⟩)) (k : Nb B ob fb n Vo Vf (esAt l) (fsAt l) W) (kb : BBox W b h vs vm vn va) (hvo : h.vo = .slice (some ⟨ob, 0, none⟩) n n) (hE : EBox W p y) (hp : ¬ Mine ob fb n Vo Vf p) (hB : B ≤ W.heap.size) (hl : l.length ≤ 1000000) (hs : s < n) (hfr : y.fr = (s : Int)) (hy : y.free = false)
    (fin : ∀ vals Vo' w', Nb B ob fb n Vo' Vf (esAt (l ++ [y])) (fsAt (l ++ [y])) w' → Stay B ob fb n Vo Vf Vo' Vf W w' → Q .normal (dw.fold ops41_9.toList 0 vals a0) w') : (Code.region id ops41_9 true).wp Try.prog Q a0 W := by
  have np : some p ≠ (Vo s).ownBlock := fun e => hp (.inr (.inr (.inl ⟨s, hs, e.symm⟩)))
  have nb : some b ≠ (Vo s).ownBlock := ow.type (k.oo s hs) kb.blk (by decide)
  refine reg41_9 hsz ⟨b, ob, n, s, p, y, Vo s⟩ e3 e6 (B := B) (kk := (esAt l s).length) (xs := c7 (esAt l s)) hB (Nat.le_trans (esAt_len l s) hl) hs hfr hE ?_ ?_ ?_ ?_ ?_ ?_ ?_
  · intro w1 w hb hg
    exact (hg.block p (hE.later hb).lt np).trans (hE.later hb)
  · intro w hb
    exact (kb.keep (hb.block b kb.lt)).c4.trans (by rw [hvo])
  · intro w1 w hb hg
    have k1 := kb.keep (hb.block b kb.lt)
    exact (k1.keep (hg.block b k1.lt nb)).c4.trans (by rw [hvo])
  · intro w hb
    exact (k.later hb).oc hs
  · intro w hb
    exact (k.later hb).oo s hs
  · intro w1 w hb hg
    have k1 := k.later hb
    have e := hg.block ob k1.olt (ow.type (k1.oo s hs) k1.orow (by decide))
    exact ⟨(World.cell?_of_block e).trans (k1.oc hs), Lib.frozen_of_heap (e.trans k1.orow) s⟩
  · intro vals g cap w1 w2 hb ho hg hn
    have k1 := k.later hb
    have k2 := k1.putO hs (y := y) (k' := (esAt l s).length + 1) rfl ho hg hn
    rw [← fsAt_over l y hy, ← esAt_over l y hy s hfr] at k2
    refine fin vals _ _ k2 ⟨hg.os.trans hb.os, hg.tape.trans hb.tape, hg.output.trans hb.output, ?_, ?_, ?_⟩
    · have := hb.size; have := hg.size; simpa using (by omega : W.heap.size ≤ w2.heap.size)
    · intro j hj hm
      have h1 : j ≠ ob := fun e => hm (.inl e)
      have h2 : some j ≠ (Vo s).ownBlock := fun e => hm (.inr (.inr (.inl ⟨s, hs, e.symm⟩)))
      rw [Below.heap_setCell _ _ _ j h1, hg.block j (Nat.lt_of_lt_of_le hj hb.size) h2, hb.block j hj]
    · intro j hj
      rcases mine_upO hj with e | e
      · exact .inl e
      · have e2 : g = j := Option.some.inj e
        subst e2
        rcases hn with e3 | e3
        · exact .inl (.inr (.inr (.inl ⟨s, hs, e3.symm⟩)))
        · exact .inr (Nat.le_trans hb.size e3)
end
end Go.Proofs.Ytfilndgbgdnpiaa.bd

namespace Go.Proofs.Ytfilndgbgdnpiaa.bd
open Go.Sort Go.ChangeShapes Go.WideShapes Go.ChangeAt Go.RowKit Go.Maps
open st (Q4 none4 Fits has nth jn sig Blk)
set_option linter.unusedVariables false
set_option maxRecDepth 10000

theorem set_cells (b : Nat) (t : TypeId) : ∀ (xs mid pre post : List Value) (W : World), mid.length = xs.length → W.heap[b]? = some (.cells (pre ++ (mid ++ post)).toArray t (0, 0)) → (W.setCells b pre.length xs).heap[b]? = some (.cells (pre ++ (xs ++ post)).toArray t (0, 0))
  | [], [], pre, post, W, _, h => h
  | x :: xs, m :: mid, pre, post, W, hl, h => by
    have h1 := nf.set_heap W b _ t pre.length x h
    rw [List.setIfInBounds_toArray] at h1
    have e : (pre ++ (m :: mid ++ post)).set pre.length x = (pre ++ [x]) ++ (mid ++ post) := by
      rw [List.set_append_right _ _ (Nat.le_refl _), Nat.sub_self]
      simp
    rw [e] at h1
    have h2 := set_cells b t xs mid (pre ++ [x]) post _ (by simpa using hl) h1
    rw [List.length_append] at h2
    have e2 : pre ++ (x :: xs ++ post) = (pre ++ [x]) ++ (xs ++ post) := by simp
    rw [e2]
    exact h2
theorem cells_other (b : Nat) : ∀ (xs : List Value) (o : Nat) (W : World) (j : Nat), j ≠ b → (W.setCells b o xs).heap[j]? = W.heap[j]?
  | [], _, _, _, _ => rfl
  | x :: xs, o, W, j, hj => (cells_other b xs (o + 1) _ j hj).trans (Below.heap_setCell _ _ _ j hj)
section
variable {W : World} {b : Nat} {h : Hd} {vs vm vn va : Value}
theorem BBox.setCl (k : BBox W b h vs vm vn va) (xs : List Value) (hx : xs.length = 256) : BBox (W.setCells b 9 xs) b { h with cl := xs } vs vm vn va :=
  ⟨set_cells b 87 xs h.cl [.int .i64 h.n, .int .i64 h.s, .int .i64 h.e, .slice h.eo h.em h.ec, h.vo, h.vf, h.vl, vs, vm] [vn, va] W (k.cl.trans hx.symm) k.blk, hx⟩
theorem cl_at (pre cl post : List Value) (j : Nat) (v : Value) (hv : cl[j]? = some v) : (pre ++ (cl ++ post))[pre.length + j]? = some v := by
  have hj := (List.getElem?_eq_some_iff.1 hv).1
  rw [List.getElem?_append_right (Nat.le_add_right _ _), Nat.add_sub_cancel_left, List.getElem?_append_left hj]
  exact hv
theorem BBox.classes (k : BBox W b h vs vm vn va) : W.rangeAt b 9 h.cl := fun j v hv => by
  rw [Lib.cell_of_heap k.blk, List.getElem?_toArray]
  exact cl_at [.int .i64 h.n, .int .i64 h.s, .int .i64 h.e, .slice h.eo h.em h.ec, h.vo, h.vf, h.vl, vs, vm] h.cl [vn, va] j v hv
theorem BBox.there (k : BBox W b h vs vm vn va) : W.there b 9 256 := fun j hj => by
  refine ⟨?_, k.fz _⟩
  have hl : j < h.cl.length := by rw [k.cl]; exact hj
  rw [k.classes j _ (List.getElem?_eq_getElem hl)]
  rfl
end
end Go.Proofs.Ytfilndgbgdnpiaa.bd

namespace Go.Proofs.Ytfilndgbgdnpiaa.bd
open Go.Sort Go.ChangeShapes Go.WideShapes Go.ChangeAt Go.RowKit Go.Maps
open st (Q4 none4 Fits has nth jn sig Blk)
set_option linter.unusedVariables false

theorem sig_off (n : Nat) : sig (List.replicate n none4) 0 = off n := by
  refine List.ext_getElem (by rw [st.sig_length]; simp [off]) fun i h1 h2 => ?_
  have hi : i < n := by rw [st.sig_length] at h1; simpa using h1
  have e : (sig (List.replicate n none4) 0)[i] = has (nth (List.replicate n none4) i) 0 := by rw [← st.sig_at _ 0 i (by simpa using hi), List.getD_eq_getElem?_getD, List.getElem?_eq_getElem h1]; rfl
  rw [e, nth_get _ _ (by simpa using hi), List.getElem_replicate, st.has_none]
  simp [off]
theorem map_start (n : Nat) : MapOk n [] ((.map [] : DataW Unit).put (.string (txt (off n))) (.lit (.int .i64 (-1)))) := by
  have hm : WideAt.IsKeyLit (.string (txt (off n))) := trivial
  refine ⟨fun τ ht => ?_, ?_, fun k τ hk => by simp at hk⟩
  · by_cases e : τ = off n
    · subst e
      rw [has_put_same isMap_empty hm]
      simp
    · rw [has_put_other (fun e2 => e (txt_inj (by rw [ht, off_len]) (Lit.string.inj e2)))]
      simp [e]
      rfl
  · rw [atKey_put_same isMap_empty hm]
/-- an entry of a map that is written out -/
theorem insert_own (w : World) {ops : Array Oper} {rest : List Oper} {o : Oper} {a : Act} {Q : Exit → Act → World → Prop} (hg : o.guard = none) (m x v : Operand) (hop : o.op = Op.insert 85 m x v) (b n : Nat) (D : DataW Unit)
    (hm : a.eval m = .map (some b)) (hown : w.ownsMap Try.prog 9 (plainElem (H := Unit) Try.prog 3) b n D) (hn : n < maxLen) (key val : Value) (kl : Lit) (hx : a.eval x = key) (hv : a.eval v = val) (hkey : keyOf Try.prog 9 key = some kl)
    (d : DataW Unit) (ps : List MemPlace) (hval : plainElem (H := Unit) Try.prog 3 val = some (d, ps))
    (hK : ∀ w', w'.ownsMap Try.prog 9 (plainElem (H := Unit) Try.prog 3) b (n + 1) (D.put kl d) → w.grownBy w' (some b) → wpList Try.prog ops Q rest (a.put o.dst undef) w') :
    wpList Try.prog ops Q (o :: rest) a w := by
  refine wpList_plain hg fun K' hK' => ?_
  obtain ⟨w', hrun, r1, r2⟩ := hown.update st.law9 Try.underlying85 hn hkey hval
  unfold Oper.wp
  simp [execOp, hop, hm, hx, hv, hrun, Result.andThen]
  exact hK' _ _ (hK w' r1 r2)
end Go.Proofs.Ytfilndgbgdnpiaa.bd

namespace Go.Proofs.Ytfilndgbgdnpiaa.bd
open nf (Nfa Ed Rt hasE)
open st (like repsBy clsBy tbl)
set_option linter.unusedVariables false

theorem parts_mem {l : List Ed} {e : Ed} (h : e ∈ l) (hf : e.free = false) : nf.setOf e ∈ parts l := List.mem_map_of_mem (List.mem_filter.2 ⟨h, by simp [hf]⟩)
theorem cls_same {N : Nat} (hN : N = 256) (x : Nfa) (b : Nat) (hb : b < 256) : ∃ y, (repsBy (like (parts x.edges)) N)[clsBy (like (parts x.edges)) b]? = some y ∧ ∀ e ∈ x.edges, e.free = false → hasE e b = hasE e y := by
  obtain ⟨hlt, h1, _⟩ := st.cls_in hN (like (parts x.edges)) (st.like_refl _) b hb
  exact ⟨_, List.getElem?_eq_getElem hlt, fun e he hf => st.like_has h1 (parts_mem he hf)⟩
theorem cls_own {N : Nat} (hN : N = 256) (x : Nfa) (c y : Nat) (h : (repsBy (like (parts x.edges)) N)[c]? = some y) : clsBy (like (parts x.edges)) y = c := by
  obtain ⟨hc, e⟩ := List.getElem?_eq_some_iff.1 h
  rw [← e]
  exact st.cls_rep hN _ (st.like_refl _) (st.like_trans _) c hc
theorem reps_pos {N : Nat} (hN : N = 256) (x : Nfa) : 1 ≤ (repsBy (like (parts x.edges)) N).length := by
  obtain ⟨y, h, _⟩ := cls_same hN x 0 (by omega)
  have := (List.getElem?_eq_some_iff.1 h).1
  omega
theorem reps_most {N : Nat} (hN : N = 256) (x : Nfa) : (repsBy (like (parts x.edges)) N).length ≤ 256 := by
  have := st.repsBy_length (like (parts x.edges)) N; omega
theorem reps_byte {N : Nat} (hN : N = 256) (x : Nfa) : ∀ y ∈ repsBy (like (parts x.edges)) N, y < 256 := fun y hy => by
  have := st.repsBy_lt _ _ y hy; omega
/-- whether a byte's class is a new one -/
theorem cls_new (x : Nfa) (i : Nat) : (clsBy (like (parts x.edges)) i = (repsBy (like (parts x.edges)) i).length ∧ repsBy (like (parts x.edges)) (i + 1) = repsBy (like (parts x.edges)) i ++ [i]) ∨ (clsBy (like (parts x.edges)) i < (repsBy (like (parts x.edges)) i).length ∧ repsBy (like (parts x.edges)) (i + 1) = repsBy (like (parts x.edges)) i) := by
  cases h : (repsBy (like (parts x.edges)) i).any (fun c => like (parts x.edges) i c)
  · exact .inl ⟨st.clsBy_out (st.like_refl _ _) h, st.repsBy_out h⟩
  · exact .inr ⟨(st.clsBy_in h).2, st.repsBy_in h⟩
theorem cls_byte (x : Nfa) (i : Nat) (hi : i < 256) : clsBy (like (parts x.edges)) i < 256 := by
  have := st.clsBy_lt (like (parts x.edges)) i (st.like_refl _ _); omega
/-- the classes' least bytes, the bytes' classes -/
def lsOf (x : Nfa) : List Nat := repsBy (like (parts x.edges)) 256
def xsOf (x : Nfa) : List Nat := tbl (like (parts x.edges)) 256
theorem xs_len (x : Nfa) : (xsOf x).length = 256 := st.tbl_length _ 256 (Nat.le_refl _)
theorem xs_at (x : Nfa) (b : Nat) (h : b < 256) : (xsOf x)[b]? = some (clsBy (like (parts x.edges)) b) := st.tbl_at _ b h
theorem ls_same (x : Nfa) (b : Nat) (hb : b < 256) : ∃ y, (lsOf x)[clsBy (like (parts x.edges)) b]? = some y ∧ ∀ e ∈ x.edges, e.free = false → hasE e b = hasE e y := cls_same rfl x b hb
theorem ls_own (x : Nfa) (c y : Nat) (h : (lsOf x)[c]? = some y) : clsBy (like (parts x.edges)) y = c := cls_own rfl x c y h
theorem ls_pos (x : Nfa) : 1 ≤ (lsOf x).length := reps_pos rfl x
theorem ls_most (x : Nfa) : (lsOf x).length ≤ 256 := reps_most rfl x
theorem ls_byte (x : Nfa) : ∀ y ∈ lsOf x, y < 256 := reps_byte rfl x
theorem parts_fit {l : List Ed} (h : ∀ e ∈ l, nf.Fits e) : ∀ q ∈ parts l, st.Fits q := fun q hq => by
  unfold parts at hq
  obtain ⟨e, he, rfl⟩ := List.mem_map.1 hq
  exact nf.fits_of (h e (List.mem_filter.1 he).1)
end Go.Proofs.Ytfilndgbgdnpiaa.bd

namespace Go.Proofs.Ytfilndgbgdnpiaa.bd
open Go.Sort Go.ChangeShapes Go.WideShapes Go.ChangeAt Go.RowKit Go.Maps
open df (Kp Row iv In IntsV Owns)
open nf (Nfa Ed Rt EdAt Eds nfaV)
open st (Q4 none4 Fits has nth jn sig Blk OwnSets)
set_option linter.unusedVariables false
set_option maxRecDepth 10000

structure L1 (W : World) (h : Hd) (n b mb ob fb : Nat) (D : DataW Unit) (l : List Ed) (pl : List Q4) (v : Value) (Vo Vf : Nat → Value) (wr : World) : Prop where
  be : Below W.heap.size W wr
  bx : BBox wr b h (.slice none 0 0) (.map (some mb)) (.slice none 0 0) (.slice none 0 0)
  mp : wr.ownsMap Try.prog 9 (plainElem (H := Unit) Try.prog 3) mb 1 D
  nb : Nb W.heap.size ob fb n Vo Vf (esAt l) (fsAt l) wr
  pr : OwnSets W.heap.size wr v pl
  bb : W.heap.size ≤ b
  bm : W.heap.size ≤ mb
section
variable {W w w1 w2 w' : World} {h : Hd} {n b mb ob fb : Nat} {D : DataW Unit} {l l' : List Ed} {pl : List Q4} {v : Value} {Vo Vf Vo' Vf' : Nat → Value}
theorem own_map_lt (k : w.ownsMap Try.prog 9 (plainElem (H := Unit) Try.prog 3) mb 1 D) : mb < w.heap.size := by
  obtain ⟨es, clock, hb, _⟩ := k
  exact (Array.getElem?_eq_some_iff.1 hb).1
theorem L1.later (k : L1 W h n b mb ob fb D l pl v Vo Vf w) (c : Below w.heap.size w w') : L1 W h n b mb ob fb D l pl v Vo Vf w' :=
  ⟨st.chain k.be c, k.bx.keep (c.block _ k.bx.lt), map_keep k.mp (c.block _ (own_map_lt k.mp)), k.nb.later c, ow.later k.pr c, k.bb, k.bm⟩
theorem L1.box_not (k : L1 W h n b mb ob fb D l pl v Vo Vf w) : ¬ Mine ob fb n Vo Vf b := k.nb.apart k.bx.blk (by decide)
theorem L1.map_not (k : L1 W h n b mb ob fb D l pl v Vo Vf w) : ¬ Mine ob fb n Vo Vf mb := by
  obtain ⟨es, clock, hb, _⟩ := k.mp
  rintro (rfl | rfl | ⟨s, hs, e⟩ | ⟨s, hs, e⟩)
  · have := k.nb.orow; rw [hb] at this; cases this
  · have := k.nb.frow; rw [hb] at this; cases this
  · exact ow.kind (k.nb.oo s hs) hb rfl e.symm
  · exact ow.kind (k.nb.ff s hs) hb rfl e.symm
theorem L1.row_not (k : L1 W h n b mb ob fb D l pl v Vo Vf w) (g : Nat) (hg : v.ownBlock = some g) : ¬ Mine ob fb n Vo Vf g := by
  rintro (rfl | rfl | ⟨s, hs, e⟩ | ⟨s, hs, e⟩)
  · exact ow.type k.pr k.nb.orow (by decide) hg.symm
  · exact ow.type k.pr k.nb.frow (by decide) hg.symm
  · exact own_ne k.pr (k.nb.oo s hs) (by decide) g hg e.symm
  · exact own_ne k.pr (k.nb.ff s hs) (by decide) g hg e.symm
theorem L1.stay (k : L1 W h n b mb ob fb D l pl v Vo Vf w) (q : Nb W.heap.size ob fb n Vo' Vf' (esAt l') (fsAt l') w') (s : Stay W.heap.size ob fb n Vo Vf Vo' Vf' w w') : L1 W h n b mb ob fb D l' pl v Vo' Vf' w' :=
  ⟨⟨s.os.trans k.be.os, s.tape.trans k.be.tape, s.output.trans k.be.output, Nat.le_trans k.be.size s.size, fun g hg => (s.block g (Nat.lt_of_lt_of_le hg k.be.size) (fun m => by have := (k.nb.lt m).1; omega)).trans (k.be.block g hg)⟩,
   k.bx.keep (s.block _ k.bx.lt k.box_not), map_keep k.mp (s.block _ (own_map_lt k.mp) k.map_not), q, ow.keep k.pr (fun g e => s.block g (ow.lt k.pr e).2 (k.row_not g e)), k.bb, k.bm⟩
theorem L1.app (k : L1 W h n b mb ob fb D l pl v Vo Vf w) {q : Q4} {g' cap' : Nat} (ho : w'.ownsRow W.heap.size 25 4 (.slice (some ⟨g', 0, none⟩) (pl.length + 1) cap') (pl.length + 1) (st.cells4 pl ++ [Value.int .u64 q.a, .int .u64 q.b, .int .u64 q.c, .int .u64 q.d])) (hg : w.grownBy w' v.ownBlock) :
    L1 W h n b mb ob fb D l (pl ++ [q]) (.slice (some ⟨g', 0, none⟩) (pl.length + 1) cap') Vo Vf w' := by
  have n1 : some b ≠ v.ownBlock := ow.type k.pr k.bx.blk (by decide)
  have n2 : some mb ≠ v.ownBlock := by
    obtain ⟨es, clock, hb, _⟩ := k.mp
    exact ow.kind k.pr hb rfl
  refine ⟨k.be.grown hg k.be.size (fun g e => (ow.lt k.pr e).1), k.bx.keep (hg.block _ k.bx.lt n1), map_keep k.mp (hg.block _ (own_map_lt k.mp) n2), k.nb.keep (fun g m => hg.block g (k.nb.lt m).2 (fun e => k.row_not g e.symm m)), ?_, k.bb, k.bm⟩
  unfold OwnSets
  rw [st.cells4_append, List.length_append]
  exact ho
theorem L1.start {w3 w5 w6 : World} {hh : Hd} (hn : n ≤ 1000000) (c1 : Below W.heap.size W w2) (ho : w2.heap[ob]? = some (.cells ((List.range n).map fun _ => Value.slice none 0 0).toArray 29 (0, 0))) (hf : w2.heap[fb]? = some (.cells ((List.range n).map fun _ => Value.slice none 0 0).toArray 39 (0, 0)))
    (lo : W.heap.size ≤ ob) (lf : W.heap.size ≤ fb) (lb : W.heap.size ≤ b) (e3 : w3 = w2.alloc (.map #[] 0)) (c5 : Below w3.heap.size w3 w5) (g6 : w5.grownBy w6 (some w2.heap.size)) (k6 : BBox w6 b hh (.slice none 0 0) (.map none) (.slice none 0 0) (.slice none 0 0)) (hm : w6.ownsMap Try.prog 9 (plainElem (H := Unit) Try.prog 3) w2.heap.size 1 D) :
    L1 W hh n b w2.heap.size ob fb D [] [] (.slice none 0 0) (fun _ => .slice none 0 0) (fun _ => .slice none 0 0) (w6.setCell ⟨b, 8, none⟩ (.map (some w2.heap.size))) := by
  have s3 : w3.heap.size = w2.heap.size + 1 := by rw [e3]; simp
  have h36 : ∀ g, g < w2.heap.size → w6.heap[g]? = w2.heap[g]? := fun g hg => by
    rw [g6.block g (by have := c5.size; omega) (fun e => by have := Option.some.inj e; omega), c5.block g (by omega), e3]
    exact Below.heap_alloc _ _ _ hg
  have lt_ob := (Array.getElem?_eq_some_iff.1 ho).1
  have lt_fb := (Array.getElem?_eq_some_iff.1 hf).1
  have n1 : ob ≠ b := fun e => by have h1 := (h36 ob lt_ob).trans ho; rw [e, k6.blk] at h1; injection h1 with h1; injection h1 with _ h1; exact absurd h1 (by decide)
  have n2 : fb ≠ b := fun e => by have h1 := (h36 fb lt_fb).trans hf; rw [e, k6.blk] at h1; injection h1 with h1; injection h1 with _ h1; exact absurd h1 (by decide)
  have n3 : w2.heap.size ≠ b := fun e => by
    obtain ⟨es, clock, hb, _⟩ := hm
    rw [e, k6.blk] at hb
    cases hb
  have hs : ∀ g, g ≠ b → (w6.setCell ⟨b, 8, none⟩ (.map (some w2.heap.size))).heap[g]? = w6.heap[g]? := fun g hg => Below.heap_setCell _ _ _ g hg
  have c3 : Below W.heap.size W w3 := by rw [e3]; exact c1.alloc c1.size _
  have c6 : Below W.heap.size W w6 := (st.chain c3 c5).grown g6 (st.chain c3 c5).size (fun g e => by have := Option.some.inj e; have := c1.size; omega)
  refine ⟨c6.setCell (p := ⟨b, 8, none⟩) lb _, k6.set8 _, map_keep hm (hs _ n3), ?_, ow.nil _ _ _ _, lb, c1.size⟩
  exact Nb.start ((hs ob n1).trans ((h36 ob lt_ob).trans ho)) ((hs fb n2).trans ((h36 fb lt_fb).trans hf)) lo lf
end
/-- the same, while the least bytes are gathered -/
structure L2 (W : World) (h : Hd) (n b mb ob fb : Nat) (D : DataW Unit) (l : List Ed) (Vo Vf : Nat → Value) (ls : List Nat) (vl : Value) (wr : World) : Prop where
  be : Below W.heap.size W wr
  bx : BBox wr b { h with vl := vl } (.slice none 0 0) (.map (some mb)) (.slice none 0 0) (.slice none 0 0)
  mp : wr.ownsMap Try.prog 9 (plainElem (H := Unit) Try.prog 3) mb 1 D
  nb : Nb W.heap.size ob fb n Vo Vf (esAt l) (fsAt l) wr
  lr : wr.ownsRow W.heap.size 5 1 vl ls.length (ls.map fun y : Nat => Value.int .u8 (y : Int))
  bb : W.heap.size ≤ b
  bm : W.heap.size ≤ mb
section
variable {W w w1 w2 w' : World} {h : Hd} {n b mb ob fb : Nat} {D : DataW Unit} {l l' : List Ed} {pl : List Q4} {v vl : Value} {Vo Vf : Nat → Value} {ls : List Nat}
theorem L1.next (k : L1 W h n b mb ob fb D l pl v Vo Vf w) (hvl : h.vl = .slice none 0 0) (c : Below w.heap.size w w1) (xs : List Value) (hx : xs.length = 256) : L2 W { h with cl := xs } n b mb ob fb D l Vo Vf [] (.slice none 0 0) (w1.setCells b 9 xs) := by
  have k1 := k.later c
  have hs : ∀ g, g ≠ b → (w1.setCells b 9 xs).heap[g]? = w1.heap[g]? := fun g hg => cells_other b xs 9 w1 g hg
  have kb := k1.bx.setCl xs hx
  have e : ({ h with cl := xs } : Hd) = { ({ h with cl := xs } : Hd) with vl := .slice none 0 0 } := by rw [← hvl]
  have mm := k1.map_not
  have hb2 : ∀ (xs : List Value) (o : Nat) (u : World), Below W.heap.size W u → Below W.heap.size W (u.setCells b o xs) := by
    intro xs
    induction xs with
    | nil => intro o u hu; exact hu
    | cons y ys ih => intro o u hu; exact ih _ _ (hu.setCell (p := ⟨b, o, none⟩) k.bb _)
  have nm : mb ≠ b := fun e => by
    obtain ⟨es, clock, hb, _⟩ := k1.mp
    rw [e, k1.bx.blk] at hb
    cases hb
  exact ⟨hb2 xs 9 w1 k1.be, by rw [← e]; exact kb, map_keep k1.mp (hs _ nm), k1.nb.keep (fun g m => hs g (fun e => k1.box_not (e ▸ m))), ow.nil _ _ _ _, k.bb, k.bm⟩
theorem L2.app (k : L2 W h n b mb ob fb D l Vo Vf ls vl w) (c : Below w.heap.size w w1) {i g' cap' : Nat} (ho : w'.ownsRow W.heap.size 5 1 (.slice (some ⟨g', 0, none⟩) (ls.length + 1) cap') (ls.length + 1) ((ls.map fun y : Nat => Value.int .u8 (y : Int)) ++ [Value.int .u8 (i : Int)])) (hg : w1.grownBy w' vl.ownBlock) :
    BBox w' b { h with vl := vl } (.slice none 0 0) (.map (some mb)) (.slice none 0 0) (.slice none 0 0) ∧ L2 W h n b mb ob fb D l Vo Vf (ls ++ [i]) (.slice (some ⟨g', 0, none⟩) (ls.length + 1) cap') (w'.setCell ⟨b, 6, none⟩ (.slice (some ⟨g', 0, none⟩) (ls.length + 1) cap')) := by
  have lr1 := ow.later k.lr c
  have bx1 := k.bx.keep (c.block _ k.bx.lt)
  have mp1 := map_keep k.mp (c.block _ (own_map_lt k.mp))
  have nb1 := k.nb.later c
  have n1 : some b ≠ vl.ownBlock := ow.type lr1 bx1.blk (by decide)
  have n2 : some mb ≠ vl.ownBlock := by
    obtain ⟨es, clock, hb, _⟩ := mp1
    exact ow.kind lr1 hb rfl
  have nm : mb ≠ b := fun e => by
    obtain ⟨es, clock, hb, _⟩ := mp1
    rw [e, bx1.blk] at hb
    cases hb
  have nr : ∀ g, Mine ob fb n Vo Vf g → some g ≠ vl.ownBlock := by
    rintro g (rfl | rfl | ⟨s, hs, e⟩ | ⟨s, hs, e⟩)
    · exact ow.type lr1 nb1.orow (by decide)
    · exact ow.type lr1 nb1.frow (by decide)
    · exact fun e2 => own_ne lr1 (nb1.oo s hs) (by decide) g e2.symm e.symm
    · exact fun e2 => own_ne lr1 (nb1.ff s hs) (by decide) g e2.symm e.symm
  have bx2 := bx1.keep (hg.block _ bx1.lt n1)
  have nb2 := nb1.keep (w' := w') (fun g m => hg.block g (nb1.lt m).2 (nr g m))
  have hs : ∀ g, g ≠ b → (w'.setCell ⟨b, 6, none⟩ (.slice (some ⟨g', 0, none⟩) (ls.length + 1) cap')).heap[g]? = w'.heap[g]? := fun g hg => Below.heap_setCell _ _ _ g hg
  have be2 : Below W.heap.size W w' := (st.chain k.be c).grown hg (st.chain k.be c).size (fun g e => (ow.lt k.lr e).1)
  refine ⟨bx2, be2.setCell (p := ⟨b, 6, none⟩) k.bb _, bx2.set6 _, map_keep (map_keep mp1 (hg.block _ (own_map_lt mp1) n2)) (hs _ nm), nb2.keep (fun g m => hs g (fun e => nb2.apart bx2.blk (by decide) (e ▸ m))), ?_, k.bb, k.bm⟩
  rw [List.length_append, List.map_append]
  exact ow.keep ho fun g e => hs g (fun e2 => ow.type ho bx2.blk (by decide) (by rw [← e2]; exact e.symm))
end
theorem own_bytes {X : Nat → Prop} {w : World} {B : Nat} {o : Option Addr} {c : Nat} {ls : List Nat} (h : w.ownsRow B 5 1 (.slice o ls.length c) ls.length (ls.map fun y : Nat => Value.int .u8 (y : Int))) (hx : ∀ g, some g = (Value.slice o ls.length c).ownBlock → X g) : Row X w (fun y : Nat => Value.int .u8 (y : Int)) o c ls := by
  obtain ⟨g, cap, e, h1, h2⟩ := ow.form h
  simp only [Value.slice.injEq, true_and] at e
  obtain ⟨rfl, rfl⟩ := e
  refine ⟨h1, h2, fun i hi => ?_⟩
  obtain ⟨g', cap', e1, e2, e3⟩ := ow.cell h i (by simpa using hi)
  simp only [Value.slice.injEq, true_and] at e1
  obtain ⟨rfl, rfl⟩ := e1
  refine ⟨g', 0, rfl, hx g' rfl, ?_⟩
  rw [Nat.zero_add, e3]
  simp
/-- a builder that was just made -/
structure Made (W : World) (x : Nfa) (n e : Nat) (eo : Option Addr) (ec : Nat) (W' : World) (b mb : Nat) (h : Hd) (ob fb : Nat) (lo : Option Addr) (lc : Nat) (X : Nat → Prop) (D : DataW Unit) (ls xs : List Nat) : Prop where
  bs : Bst X X W' W.heap.size b mb h n e [] [] (.slice none 0 0) (.slice none 0 0) (.slice none 0 0) [] 1 D
  nt : Net X W' h n (esAt x.edges) (fsAt x.edges) ls ob n fb n lo lc
  hn : h.n = x.n
  hs : h.s = x.s
  he : h.e = x.e
  eo : h.eo = eo
  em : h.em = x.edges.length
  ec : h.ec = ec
  cl : h.cl = xs.map fun y : Nat => Value.int .u8 (y : Int)
  be : Below W.heap.size W W'
theorem L2.made {W w : World} {x : Nfa} {n e : Nat} (R1 : Rt x n) (he : x.e = (e : Int)) {eo : Option Addr} {ec b mb ob fb : Nat} {Vo Vf : Nat → Value} {lo : Option Addr} {lc : Nat} {ls xs : List Nat} {h : Hd} {D : DataW Unit} (hD : MapOk n [] D)
    (hh : h = { hd0 n x.s x.e eo x.edges.length ec n ob fb with cl := xs.map fun y : Nat => Value.int .u8 (y : Int) }) (k : L2 W h n b mb ob fb D x.edges Vo Vf ls (.slice lo ls.length lc) w) :
    ∃ h X, Made W x n e eo ec w b mb h ob fb lo lc X D ls xs := by
  have hn2 := R1.n2
  have hee := R1.e
  have mlt := own_map_lt k.mp
  have nm : mb ≠ b := fun e => by
    obtain ⟨es, clock, hb, _⟩ := k.mp
    rw [e, k.bx.blk] at hb
    cases hb
  have m1 : ∀ g, Mine ob fb n Vo Vf g → g ≠ mb := by
    obtain ⟨es, clock, hb, _⟩ := k.mp
    rintro g (rfl | rfl | ⟨s, hs, e⟩ | ⟨s, hs, e⟩) rfl
    · have := k.nb.orow; rw [hb] at this; cases this
    · have := k.nb.frow; rw [hb] at this; cases this
    · exact ow.kind (k.nb.oo s hs) hb rfl e.symm
    · exact ow.kind (k.nb.ff s hs) hb rfl e.symm
  have m2 : ∀ g, some g = (Value.slice lo ls.length lc).ownBlock → g ≠ mb := by
    obtain ⟨es, clock, hb, _⟩ := k.mp
    rintro g e rfl
    exact ow.kind k.lr hb rfl e
  have a1 : ∀ g, (Mine ob fb n Vo Vf g ∨ some g = (Value.slice lo ls.length lc).ownBlock) → g < w.heap.size ∧ g ≠ b ∧ g ≠ mb := by
    intro g hg
    rcases hg with hg | hg
    · exact ⟨(k.nb.lt hg).2, fun e => k.nb.apart k.bx.blk (by decide) (e ▸ hg), m1 g hg⟩
    · exact ⟨(ow.lt k.lr hg.symm).2, fun e => ow.type k.lr k.bx.blk (by decide) (e ▸ hg), m2 g hg⟩
  have bu : Bu (fun g => Mine ob fb n Vo Vf g ∨ some g = (Value.slice lo ls.length lc).ownBlock) w W.heap.size b mb { h with vl := .slice lo ls.length lc } (.slice none 0 0) (.slice none 0 0) (.slice none 0 0) [] [] [] 1 D :=
    ⟨k.bx, k.mp, ow.nil _ _ _ _, ow.nil _ _ _ _, ow.nil _ _ _ _, (fun g e => by cases e), k.bb, k.bm, fun g hg => ⟨(a1 g hg).1, (a1 g hg).2.1, (a1 g hg).2.2, by simp [Value.ownBlock], by simp [Value.ownBlock], by simp [Value.ownBlock]⟩⟩
  have e1 : h.n = (n : Int) := by rw [hh]; rfl
  have e2 : h.e = x.e := by rw [hh]; rfl
  have hx1 := R1.hx
  refine ⟨{ h with vl := .slice lo ls.length lc }, _, ⟨bu, rws_nil _ _, fun _ h => h, hD, by simp, e1, e2.trans he, by omega, hn2, fun σ hσ => by cases hσ⟩, ⟨by rw [hh]; rfl, k.nb.ovr (by omega) (fun g h => .inl h), by rw [hh]; rfl, k.nb.fre (by omega) (fun g h => .inl h), rfl, own_bytes k.lr (fun g h => .inr h)⟩, by rw [hx1]; exact e1, by rw [hh]; rfl, e2, by rw [hh]; rfl, by rw [hh]; rfl, by rw [hh]; rfl, by rw [hh], k.be⟩
end Go.Proofs.Ytfilndgbgdnpiaa.bd
