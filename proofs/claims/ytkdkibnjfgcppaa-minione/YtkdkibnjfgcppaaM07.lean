/-
  Texts put together: Over this program: the rows of a builder hold the edges of its nfa. Over this program: an edge is put into the rows of a builder. Over this program: the classes are put into a builder, and read again. Over this program: how a builder's map begins. Plain mathematics: the classes of an nfa's edges. Over this program: a builder that is being made, between two edges. Contracts over this program: a builder is made (newBuilder). Over this program: dfa.Build, between two rows; what it hands back. Contracts over this program: a dfa is built of an nfa (dfa.Build). A tree in memory: a value of the type of trees that reads, in a world, as a tree; what carries it on. Contracts over this program: the nfa's builder: full, state, free, over. Contracts over this program: the nfa's builder: over. Contracts over this program: whether a tree has at most so many levels and nodes (regex.fits). Contracts over this program: how deep a tree is, how many nodes it has, whether it is an expression's (the document's Deep, Nodes, one, every, Right; regex.rightNode, right, Right). Contracts over this program: whether one node may be (regex.rightNode): what its parts say. Contracts over this program: whether one node may be (regex.rightNode): a set. Contracts over this program: whether one node may be (regex.rightNode): one behind the other. Contracts over this program: whether one node may be (regex.rightNode): one of them. Contracts over this program: whether one node may be (regex.rightNode): again and again. Contracts over this program: whether one node may be (the document's one): a set, again and again. Contracts over this program: whether one node may be (the document's one): one behind the other. Contracts over this program: whether one node may be (the document's one): one of them. Contracts over this program: whether a tree is an expression's, how deep it is, how many nodes it has (regex.right, Right; the document's every, Deep, Nodes, Right). Contracts over this program: how deep a tree is and how many nodes it has, up to so many (the document's Deep, Nodes); Right, the program's and the document's. Contracts over this program: the nfa's builder: one; what laying a tree asks and gives. Contracts over this program: the nfa's builder: row. Contracts over this program: the nfa's builder: upTo. Contracts over this program: the nfa's builder: again. Contracts over this program: the nfa's builder: lay, kind by kind. Contracts over this program: the nfa's builder: lay of a repetition; lay as a whole. Contracts over this program: nfa.Build. Contracts over this program: nfa.Build of an expression that may be.
-/
import Derived.Test.YtkdkibnjfgcppaaM06
import Derived.Deep.MidRow
import Derived.Lib.LazyBuf
import Derived.Test.YtkdkibnjfgcppaaM05
import Derived.Test.YtkdkibnjfgcppaaKDe
import Derived.Test.YtkdkibnjfgcppaaM04
import Derived.Test.YtkdkibnjfgcppaaRows
import Derived.WalkKit
import Derived.ChangeAt
import Derived.ChangeShapes
import Derived.WalkLawsBesides
import Derived.Laws.IdiomArrays
import Derived.Deep.Slices
import Derived.SizedLaws
import Derived.ChangeOld
import Derived.Below
import Derived.Lib.OthersKept
import Derived.Test.YtkdkibnjfgcppaaKAp
import Derived.Deep.RegionLaw
import Derived.ChangeKeysEq
import Derived.Deep.RegionHeld3
import Derived.Deep.QuietTactic
import Derived.Deep.RegionWith
import Derived.Laws.ResultCell
import Derived.Laws.Tables
namespace Go.Proofs.Ytkdkibnjfgcppaa.bd
open Go.Sort Go.ChangeShapes Go.WideShapes Go.ChangeAt Go.RowKit Go.Maps
open df (Kp Row iv In IntsV Owns)
open nf (Nfa Ed Rt EdAt Eds nfaV)
open st (Q4 none4 Fits has nth jn sig Blk)
set_option linter.unusedVariables false
set_option maxRecDepth 10000

def esAt (l : List Ed) (s : Nat) : List Ed := l.filter fun e => !e.free && decide (e.fr = (s : Int))
def fsAt (l : List Ed) (s : Nat) : List Int := (l.filter fun e => e.free && decide (e.fr = (s : Int))).map (·.to)
def parts (l : List Ed) : List Q4 := (l.filter fun e => !e.free).map nf.setOf
theorem esAt_len (l : List Ed) (s : Nat) : (esAt l s).length ≤ l.length := List.length_filter_le _ _
theorem fsAt_len (l : List Ed) (s : Nat) : (fsAt l s).length ≤ l.length := by unfold fsAt; rw [List.length_map]; exact List.length_filter_le _ _
theorem esAt_free (l : List Ed) (y : Ed) (h : y.free = true) : esAt (l ++ [y]) = esAt l := by
  funext s; simp [esAt, List.filter_append, h]
theorem fsAt_over (l : List Ed) (y : Ed) (h : y.free = false) : fsAt (l ++ [y]) = fsAt l := by
  funext s; simp [fsAt, List.filter_append, h]
theorem esAt_over (l : List Ed) (y : Ed) (h : y.free = false) (s : Nat) (hs : y.fr = (s : Int)) : esAt (l ++ [y]) = up (esAt l) s (esAt l s ++ [y]) := by
  funext j
  by_cases e : j = s
  · subst e; rw [up_same]; simp [esAt, List.filter_append, h, hs]
  · rw [up_ne _ _ e]
    have : ¬ y.fr = (j : Int) := by omega
    simp [esAt, List.filter_append, this]
theorem fsAt_free (l : List Ed) (y : Ed) (h : y.free = true) (s : Nat) (hs : y.fr = (s : Int)) : fsAt (l ++ [y]) = up (fsAt l) s (fsAt l s ++ [y.to]) := by
  funext j
  by_cases e : j = s
  · subst e; rw [up_same]; simp [fsAt, List.filter_append, h, hs]
  · rw [up_ne _ _ e]
    have : ¬ y.fr = (j : Int) := by omega
    simp [fsAt, List.filter_append, this]
theorem parts_free (l : List Ed) (y : Ed) (h : y.free = true) : parts (l ++ [y]) = parts l := by simp [parts, List.filter_append, h]
theorem parts_over (l : List Ed) (y : Ed) (h : y.free = false) : parts (l ++ [y]) = parts l ++ [nf.setOf y] := by simp [parts, List.filter_append, h]
theorem parts_len (l : List Ed) : (parts l).length ≤ l.length := by unfold parts; rw [List.length_map]; exact List.length_filter_le _ _
theorem edg_at (x : Nfa) (n : Nat) : Edg x n (esAt x.edges) := fun s _ e => by
  unfold esAt
  rw [List.mem_filter]
  simp
theorem tgt_at (x : Nfa) (n : Nat) : Tgt x n (fsAt x.edges) := fun s _ t => by
  unfold fsAt
  simp only [List.mem_map, List.mem_filter, Bool.and_eq_true, decide_eq_true_eq]
  exact ⟨fun ⟨e, ⟨h1, h2, h3⟩, h4⟩ => ⟨e, h1, h2, h3, h4⟩, fun ⟨e, h1, h2, h3, h4⟩ => ⟨e, ⟨h1, h2, h3⟩, h4⟩⟩
theorem Nb.start {B ob fb n : Nat} {w : World} (ho : w.heap[ob]? = some (.cells ((List.range n).map fun _ => Value.slice none 0 0).toArray 50 (0, 0))) (hf : w.heap[fb]? = some (.cells ((List.range n).map fun _ => Value.slice none 0 0).toArray 39 (0, 0))) (h1 : B ≤ ob) (h2 : B ≤ fb) : Nb B ob fb n (fun _ => .slice none 0 0) (fun _ => .slice none 0 0) (esAt []) (fsAt []) w :=
  ⟨ho, hf, fun _ _ => ow.nil _ _ _ _, fun _ _ => ow.nil _ _ _ _, fun _ _ _ _ _ e => (by cases e), fun _ _ _ _ _ e => (by cases e), h1, h2⟩
section
variable {B ob fb n : Nat} {Vo Vf : Nat → Value} {Es : Nat → List Ed} {Fs : Nat → List Int} {w : World}
/-- the blocks of both rows, and of what they hold -/
def Mine (ob fb n : Nat) (Vo Vf : Nat → Value) (g : Nat) : Prop := g = ob ∨ g = fb ∨ (∃ s, s < n ∧ (Vo s).ownBlock = some g) ∨ ∃ s, s < n ∧ (Vf s).ownBlock = some g
theorem Nb.ovr (h : Nb B ob fb n Vo Vf Es Fs w) (hn : n ≤ 1000000) {X : Nat → Prop} (hX : ∀ g, Mine ob fb n Vo Vf g → X g) : Ovr X w ob n n Es :=
  ⟨Nat.le_refl _, by omega, hX ob (.inl rfl), fun s hs => by
    obtain ⟨o, c, e, r⟩ := own_edges (X := X) (h.oo s hs) (fun g hg => hX g (.inr (.inr (.inl ⟨s, hs, hg.symm⟩))))
    exact ⟨o, c, (h.oc hs).trans (by rw [e]), r⟩⟩
theorem Nb.fre (h : Nb B ob fb n Vo Vf Es Fs w) (hn : n ≤ 1000000) {X : Nat → Prop} (hX : ∀ g, Mine ob fb n Vo Vf g → X g) : Fre X w fb n n Fs :=
  ⟨Nat.le_refl _, by omega, hX fb (.inr (.inl rfl)), fun s hs => by
    refine ⟨Vf s, h.fc hs, ?_⟩
    have o1 := h.ff s hs
    have hx : ∀ g, some g = (Vf s).ownBlock → X g := fun g hg => hX g (.inr (.inr (.inr ⟨s, hs, hg.symm⟩)))
    obtain ⟨o, c, e, _, _⟩ := ow.form o1
    rw [e] at o1 hx ⊢
    exact ⟨o, c, rfl, nf.own_row o1 hx⟩⟩
end
end Go.Proofs.Ytkdkibnjfgcppaa.bd

namespace Go.Proofs.Ytkdkibnjfgcppaa.bd
open Go.Sort Go.ChangeShapes Go.WideShapes Go.ChangeAt Go.RowKit Go.Maps
open df (Kp Row iv In IntsV Owns)
open nf (Nfa Ed Rt EdAt Eds nfaV)
open st (Q4 none4 Fits has nth jn sig Blk)
set_option linter.unusedVariables false
set_option maxRecDepth 10000

section
variable {Q : Exit → Act → World → Prop} {a0 : Act} {id : Nat} {W : World} {B b p ob fb n s : Nat} {Vo Vf : Nat → Value} {l : List Ed} {y : Ed} {h : Hd} {vs vm vn va : Value}
/-- what of memory stays -/
structure Stay (B ob fb n : Nat) (Vo Vf Vo' Vf' : Nat → Value) (W w' : World) : Prop where
  os : w'.os = W.os
  tape : w'.tape = W.tape
  output : w'.output = W.output
  size : W.heap.size ≤ w'.heap.size
  block : ∀ g, g < W.heap.size → ¬ Mine ob fb n Vo Vf g → w'.heap[g]? = W.heap[g]?
  mine : ∀ g, Mine ob fb n Vo' Vf' g → Mine ob fb n Vo Vf g ∨ W.heap.size ≤ g
theorem mine_upF {v : Value} {g : Nat} (hg : Mine ob fb n Vo (up Vf s v) g) : Mine ob fb n Vo Vf g ∨ v.ownBlock = some g := by
  rcases hg with e | e | e | ⟨u, hu, e⟩
  · exact .inl (.inl e)
  · exact .inl (.inr (.inl e))
  · exact .inl (.inr (.inr (.inl e)))
  · by_cases x : u = s
    · subst x; rw [up_same] at e; exact .inr e
    · rw [up_ne _ _ x] at e; exact .inl (.inr (.inr (.inr ⟨u, hu, e⟩)))
theorem mine_upO {v : Value} {g : Nat} (hg : Mine ob fb n (up Vo s v) Vf g) : Mine ob fb n Vo Vf g ∨ v.ownBlock = some g := by
  rcases hg with e | e | ⟨u, hu, e⟩ | e
  · exact .inl (.inl e)
  · exact .inl (.inr (.inl e))
  · by_cases x : u = s
    · subst x; rw [up_same] at e; exact .inr e
    · rw [up_ne _ _ x] at e; exact .inl (.inr (.inr (.inl ⟨u, hu, e⟩)))
  · exact .inl (.inr (.inr (.inr e)))
theorem put_free (hsz : a0.tmps.size = 118) (e3 : a0.eval (.tmp 3) = .pointer (some ⟨b, 0, none⟩)) (e6 : a0.eval (.tmp 6) = .pointer (some ⟨p, 0, none⟩)) (k : Nb B ob fb n Vo Vf (esAt l) (fsAt l) W) (kb : BBox W b h vs vm vn va) (hvf : h.vf = .slice (some ⟨fb, 0, none⟩) n n) (hE : EBox W p y) (hp : ¬ Mine ob fb n Vo Vf p) (hB : B ≤ W.heap.size) (hl : l.length ≤ 1000000) (hs : s < n) (hfr : y.fr = (s : Int)) (hy : y.free = true)
    (fin : ∀ vals Vf' w', Nb B ob fb n Vo Vf' (esAt (l ++ [y])) (fsAt (l ++ [y])) w' → Stay B ob fb n Vo Vf Vo Vf' W w' → Q .normal (dw.fold ops41_8.toList 0 vals a0) w') : (Code.region id ops41_8 true).wp Try.prog Q a0 W := by
  have np : some p ≠ (Vf s).ownBlock := fun e => hp (.inr (.inr (.inr ⟨s, hs, e.symm⟩)))
  have nb : some b ≠ (Vf s).ownBlock := ow.type (k.ff s hs) kb.blk (by decide)
  refine reg41_8 hsz ⟨b, fb, n, s, p, y, Vf s⟩ e3 e6 (B := B) (kk := (fsAt l s).length) (xs := (fsAt l s).map (Value.int .i64)) hB (Nat.le_trans (fsAt_len l s) hl) hs hfr hE ?_ ?_ ?_ ?_ ?_ ?_ ?_
  · intro w1 w hb hg
    exact (hg.block p (hE.later hb).lt np).trans (hE.later hb)
  · intro w hb
    exact (kb.keep (hb.block b kb.lt)).c5.trans (by rw [hvf])
  · intro w1 w hb hg
    have k1 := kb.keep (hb.block b kb.lt)
    exact (k1.keep (hg.block b k1.lt nb)).c5.trans (by rw [hvf])
  · intro w hb
    exact (k.later hb).fc hs
  · intro w hb
    exact (k.later hb).ff s hs
  · intro w1 w hb hg
    have k1 := k.later hb
    have e := hg.block fb k1.flt (ow.type (k1.ff s hs) k1.frow (by decide))
    exact ⟨(World.cell?_of_block e).trans (k1.fc hs), Lib.frozen_of_heap (e.trans k1.frow) s⟩
  · intro vals g cap w1 w2 hb ho hg hn
    have k1 := k.later hb
    have k2 := k1.putF hs (t := y.to) (k' := (fsAt l s).length + 1) rfl (by have ho' := ho; unfold Owns; rw [List.length_append, List.map_append]; exact ho') hg hn
    rw [← fsAt_free l y hy s hfr, ← esAt_free l y hy] at k2
    refine fin vals _ _ k2 ⟨hg.os.trans hb.os, hg.tape.trans hb.tape, hg.output.trans hb.output, ?_, ?_, ?_⟩
    · have := hb.size; have := hg.size; simpa using (by omega : W.heap.size ≤ w2.heap.size)
    · intro j hj hm
      have h1 : j ≠ fb := fun e => hm (.inr (.inl e))
      have h2 : some j ≠ (Vf s).ownBlock := fun e => hm (.inr (.inr (.inr ⟨s, hs, e.symm⟩)))
      rw [Below.heap_setCell _ _ _ j h1, hg.block j (Nat.lt_of_lt_of_le hj hb.size) h2, hb.block j hj]
    · intro j hj
      rcases mine_upF hj with e | e
      · exact .inl e
      · have e2 : g = j := Option.some.inj e
        subst e2
        rcases hn with e3 | e3
        · exact .inl (.inr (.inr (.inr ⟨s, hs, e3.symm⟩)))
        · exact .inr (Nat.le_trans hb.size e3)
theorem put_over (hsz : a0.tmps.size = 118) (e3 : a0.eval (.tmp 3) = .pointer (some ⟨b, 0, none⟩)) (e6 : a0.eval (.tmp 6) = .pointer (some ⟨p, 0, none⟩)) (k : Nb B ob fb n Vo Vf (esAt l) (fsAt l) W) (kb : BBox W b h vs vm vn va) (hvo : h.vo = .slice (some ⟨ob, 0, none⟩) n n) (hE : EBox W p y) (hp : ¬ Mine ob fb n Vo Vf p) (hB : B ≤ W.heap.size) (hl : l.length ≤ 1000000) (hs : s < n) (hfr : y.fr = (s : Int)) (hy : y.free = false)
    (fin : ∀ vals Vo' w', Nb B ob fb n Vo' Vf (esAt (l ++ [y])) (fsAt (l ++ [y])) w' → Stay B ob fb n Vo Vf Vo' Vf W w' → Q .normal (dw.fold ops41_9.toList 0 vals a0) w') : (Code.region id ops41_9 true).wp Try.prog Q a0 W := by
  have np : some p ≠ (Vo s).ownBlock := fun e => hp (.inr (.inr (.inl ⟨s, hs, e.symm⟩)))
  have nb : some b ≠ (Vo s).ownBlock := ow.type (k.oo s hs) kb.blk (by decide)
  refine reg41_9 hsz ⟨b, ob, n, s, p, y, Vo s⟩ e3 e6 (B := B) (kk := (esAt l s).length) (xs := c7 (esAt l s)) hB (Nat.le_trans (esAt_len l s) hl) hs hfr hE ?_ ?_ ?_ ?_ ?_ ?_ ?_
  · intro w1 w hb hg
    exact (hg.block p (hE.later hb).lt np).trans (hE.later hb)
  · intro w hb
    exact (kb.keep (hb.block b kb.lt)).c4.trans (by rw [hvo])
  · intro w1 w hb hg
    have k1 := kb.keep (hb.block b kb.lt)
    exact (k1.keep (hg.block b k1.lt nb)).c4.trans (by rw [hvo])
  · intro w hb
    exact (k.later hb).oc hs
  · intro w hb
    exact (k.later hb).oo s hs
  · intro w1 w hb hg
    have k1 := k.later hb
    have e := hg.block ob k1.olt (ow.type (k1.oo s hs) k1.orow (by decide))
    exact ⟨(World.cell?_of_block e).trans (k1.oc hs), Lib.frozen_of_heap (e.trans k1.orow) s⟩
  · intro vals g cap w1 w2 hb ho hg hn
    have k1 := k.later hb
    have k2 := k1.putO hs (y := y) (k' := (esAt l s).length + 1) rfl ho hg hn
    rw [← fsAt_over l y hy, ← esAt_over l y hy s hfr] at k2
    refine fin vals _ _ k2 ⟨hg.os.trans hb.os, hg.tape.trans hb.tape, hg.output.trans hb.output, ?_, ?_, ?_⟩
    · have := hb.size; have := hg.size; simpa using (by omega : W.heap.size ≤ w2.heap.size)
    · intro j hj hm
      have h1 : j ≠ ob := fun e => hm (.inl e)
      have h2 : some j ≠ (Vo s).ownBlock := fun e => hm (.inr (.inr (.inl ⟨s, hs, e.symm⟩)))
      rw [Below.heap_setCell _ _ _ j h1, hg.block j (Nat.lt_of_lt_of_le hj hb.size) h2, hb.block j hj]
    · intro j hj
      rcases mine_upO hj with e | e
      · exact .inl e
      · have e2 : g = j := Option.some.inj e
        subst e2
        rcases hn with e3 | e3
        · exact .inl (.inr (.inr (.inl ⟨s, hs, e3.symm⟩)))
        · exact .inr (Nat.le_trans hb.size e3)
end
end Go.Proofs.Ytkdkibnjfgcppaa.bd

namespace Go.Proofs.Ytkdkibnjfgcppaa.bd
open Go.Sort Go.ChangeShapes Go.WideShapes Go.ChangeAt Go.RowKit Go.Maps
open st (Q4 none4 Fits has nth jn sig Blk)
set_option linter.unusedVariables false
set_option maxRecDepth 10000

theorem set_cells (b : Nat) (t : TypeId) : ∀ (xs mid pre post : List Value) (W : World), mid.length = xs.length → W.heap[b]? = some (.cells (pre ++ (mid ++ post)).toArray t (0, 0)) → (W.setCells b pre.length xs).heap[b]? = some (.cells (pre ++ (xs ++ post)).toArray t (0, 0))
  | [], [], pre, post, W, _, h => h
  | x :: xs, m :: mid, pre, post, W, hl, h => by
    have h1 := nf.set_heap W b _ t pre.length x h
    rw [List.setIfInBounds_toArray] at h1
    have e : (pre ++ (m :: mid ++ post)).set pre.length x = (pre ++ [x]) ++ (mid ++ post) := by
      rw [List.set_append_right _ _ (Nat.le_refl _), Nat.sub_self]
      simp
    rw [e] at h1
    have h2 := set_cells b t xs mid (pre ++ [x]) post _ (by simpa using hl) h1
    rw [List.length_append] at h2
    have e2 : pre ++ (x :: xs ++ post) = (pre ++ [x]) ++ (xs ++ post) := by simp
    rw [e2]
    exact h2
theorem cells_other (b : Nat) : ∀ (xs : List Value) (o : Nat) (W : World) (j : Nat), j ≠ b → (W.setCells b o xs).heap[j]? = W.heap[j]?
  | [], _, _, _, _ => rfl
  | x :: xs, o, W, j, hj => (cells_other b xs (o + 1) _ j hj).trans (Below.heap_setCell _ _ _ j hj)
section
variable {W : World} {b : Nat} {h : Hd} {vs vm vn va : Value}
theorem BBox.setCl (k : BBox W b h vs vm vn va) (xs : List Value) (hx : xs.length = 256) : BBox (W.setCells b 9 xs) b { h with cl := xs } vs vm vn va :=
  ⟨set_cells b 77 xs h.cl [.int .i64 h.n, .int .i64 h.s, .int .i64 h.e, .slice h.eo h.em h.ec, h.vo, h.vf, h.vl, vs, vm] [vn, va] W (k.cl.trans hx.symm) k.blk, hx⟩
theorem cl_at (pre cl post : List Value) (j : Nat) (v : Value) (hv : cl[j]? = some v) : (pre ++ (cl ++ post))[pre.length + j]? = some v := by
  have hj := (List.getElem?_eq_some_iff.1 hv).1
  rw [List.getElem?_append_right (Nat.le_add_right _ _), Nat.add_sub_cancel_left, List.getElem?_append_left hj]
  exact hv
theorem BBox.classes (k : BBox W b h vs vm vn va) : W.rangeAt b 9 h.cl := fun j v hv => by
  rw [Lib.cell_of_heap k.blk, List.getElem?_toArray]
  exact cl_at [.int .i64 h.n, .int .i64 h.s, .int .i64 h.e, .slice h.eo h.em h.ec, h.vo, h.vf, h.vl, vs, vm] h.cl [vn, va] j v hv
theorem BBox.there (k : BBox W b h vs vm vn va) : W.there b 9 256 := fun j hj => by
  refine ⟨?_, k.fz _⟩
  have hl : j < h.cl.length := by rw [k.cl]; exact hj
  rw [k.classes j _ (List.getElem?_eq_getElem hl)]
  rfl
end
end Go.Proofs.Ytkdkibnjfgcppaa.bd

namespace Go.Proofs.Ytkdkibnjfgcppaa.bd
open Go.Sort Go.ChangeShapes Go.WideShapes Go.ChangeAt Go.RowKit Go.Maps
open st (Q4 none4 Fits has nth jn sig Blk)
set_option linter.unusedVariables false

theorem sig_off (n : Nat) : sig (List.replicate n none4) 0 = off n := by
  refine List.ext_getElem (by rw [st.sig_length]; simp [off]) fun i h1 h2 => ?_
  have hi : i < n := by rw [st.sig_length] at h1; simpa using h1
  have e : (sig (List.replicate n none4) 0)[i] = has (nth (List.replicate n none4) i) 0 := by rw [← st.sig_at _ 0 i (by simpa using hi), List.getD_eq_getElem?_getD, List.getElem?_eq_getElem h1]; rfl
  rw [e, nth_get _ _ (by simpa using hi), List.getElem_replicate, st.has_none]
  simp [off]
theorem map_start (n : Nat) : MapOk n [] ((.map [] : DataW Unit).put (.string (txt (off n))) (.lit (.int .i64 (-1)))) := by
  have hm : WideAt.IsKeyLit (.string (txt (off n))) := trivial
  refine ⟨fun τ ht => ?_, ?_, fun k τ hk => by simp at hk⟩
  · by_cases e : τ = off n
    · subst e
      rw [has_put_same isMap_empty hm]
      simp
    · rw [has_put_other (fun e2 => e (txt_inj (by rw [ht, off_len]) (Lit.string.inj e2)))]
      simp [e]
      rfl
  · rw [atKey_put_same isMap_empty hm]
/-- an entry of a map that is written out -/
theorem insert_own (w : World) {ops : Array Oper} {rest : List Oper} {o : Oper} {a : Act} {Q : Exit → Act → World → Prop} (hg : o.guard = none) (m x v : Operand) (hop : o.op = Op.insert 75 m x v) (b n : Nat) (D : DataW Unit)
    (hm : a.eval m = .map (some b)) (hown : w.ownsMap Try.prog 9 (plainElem (H := Unit) Try.prog 3) b n D) (hn : n < maxLen) (key val : Value) (kl : Lit) (hx : a.eval x = key) (hv : a.eval v = val) (hkey : keyOf Try.prog 9 key = some kl)
    (d : DataW Unit) (ps : List MemPlace) (hval : plainElem (H := Unit) Try.prog 3 val = some (d, ps))
    (hK : ∀ w', w'.ownsMap Try.prog 9 (plainElem (H := Unit) Try.prog 3) b (n + 1) (D.put kl d) → w.grownBy w' (some b) → wpList Try.prog ops Q rest (a.put o.dst undef) w') :
    wpList Try.prog ops Q (o :: rest) a w := by
  refine wpList_plain hg fun K' hK' => ?_
  obtain ⟨w', hrun, r1, r2⟩ := hown.update st.law9 Try.underlying75 hn hkey hval
  unfold Oper.wp
  simp [execOp, hop, hm, hx, hv, hrun, Result.andThen]
  exact hK' _ _ (hK w' r1 r2)
end Go.Proofs.Ytkdkibnjfgcppaa.bd

namespace Go.Proofs.Ytkdkibnjfgcppaa.bd
open nf (Nfa Ed Rt hasE)
open st (like repsBy clsBy tbl)
set_option linter.unusedVariables false

theorem parts_mem {l : List Ed} {e : Ed} (h : e ∈ l) (hf : e.free = false) : nf.setOf e ∈ parts l := List.mem_map_of_mem (List.mem_filter.2 ⟨h, by simp [hf]⟩)
theorem cls_same {N : Nat} (hN : N = 256) (x : Nfa) (b : Nat) (hb : b < 256) : ∃ y, (repsBy (like (parts x.edges)) N)[clsBy (like (parts x.edges)) b]? = some y ∧ ∀ e ∈ x.edges, e.free = false → hasE e b = hasE e y := by
  obtain ⟨hlt, h1, _⟩ := st.cls_in hN (like (parts x.edges)) (st.like_refl _) b hb
  exact ⟨_, List.getElem?_eq_getElem hlt, fun e he hf => st.like_has h1 (parts_mem he hf)⟩
theorem cls_own {N : Nat} (hN : N = 256) (x : Nfa) (c y : Nat) (h : (repsBy (like (parts x.edges)) N)[c]? = some y) : clsBy (like (parts x.edges)) y = c := by
  obtain ⟨hc, e⟩ := List.getElem?_eq_some_iff.1 h
  rw [← e]
  exact st.cls_rep hN _ (st.like_refl _) (st.like_trans _) c hc
theorem reps_pos {N : Nat} (hN : N = 256) (x : Nfa) : 1 ≤ (repsBy (like (parts x.edges)) N).length := by
  obtain ⟨y, h, _⟩ := cls_same hN x 0 (by omega)
  have := (List.getElem?_eq_some_iff.1 h).1
  omega
theorem reps_most {N : Nat} (hN : N = 256) (x : Nfa) : (repsBy (like (parts x.edges)) N).length ≤ 256 := by
  have := st.repsBy_length (like (parts x.edges)) N; omega
theorem reps_byte {N : Nat} (hN : N = 256) (x : Nfa) : ∀ y ∈ repsBy (like (parts x.edges)) N, y < 256 := fun y hy => by
  have := st.repsBy_lt _ _ y hy; omega
/-- whether a byte's class is a new one -/
theorem cls_new (x : Nfa) (i : Nat) : (clsBy (like (parts x.edges)) i = (repsBy (like (parts x.edges)) i).length ∧ repsBy (like (parts x.edges)) (i + 1) = repsBy (like (parts x.edges)) i ++ [i]) ∨ (clsBy (like (parts x.edges)) i < (repsBy (like (parts x.edges)) i).length ∧ repsBy (like (parts x.edges)) (i + 1) = repsBy (like (parts x.edges)) i) := by
  cases h : (repsBy (like (parts x.edges)) i).any (fun c => like (parts x.edges) i c)
  · exact .inl ⟨st.clsBy_out (st.like_refl _ _) h, st.repsBy_out h⟩
  · exact .inr ⟨(st.clsBy_in h).2, st.repsBy_in h⟩
theorem cls_byte (x : Nfa) (i : Nat) (hi : i < 256) : clsBy (like (parts x.edges)) i < 256 := by
  have := st.clsBy_lt (like (parts x.edges)) i (st.like_refl _ _); omega
/-- the classes' least bytes, the bytes' classes -/
def lsOf (x : Nfa) : List Nat := repsBy (like (parts x.edges)) 256
def xsOf (x : Nfa) : List Nat := tbl (like (parts x.edges)) 256
theorem xs_len (x : Nfa) : (xsOf x).length = 256 := st.tbl_length _ 256 (Nat.le_refl _)
theorem xs_at (x : Nfa) (b : Nat) (h : b < 256) : (xsOf x)[b]? = some (clsBy (like (parts x.edges)) b) := st.tbl_at _ b h
theorem ls_same (x : Nfa) (b : Nat) (hb : b < 256) : ∃ y, (lsOf x)[clsBy (like (parts x.edges)) b]? = some y ∧ ∀ e ∈ x.edges, e.free = false → hasE e b = hasE e y := cls_same rfl x b hb
theorem ls_own (x : Nfa) (c y : Nat) (h : (lsOf x)[c]? = some y) : clsBy (like (parts x.edges)) y = c := cls_own rfl x c y h
theorem ls_pos (x : Nfa) : 1 ≤ (lsOf x).length := reps_pos rfl x
theorem ls_most (x : Nfa) : (lsOf x).length ≤ 256 := reps_most rfl x
theorem ls_byte (x : Nfa) : ∀ y ∈ lsOf x, y < 256 := reps_byte rfl x
theorem parts_fit {l : List Ed} (h : ∀ e ∈ l, nf.Fits e) : ∀ q ∈ parts l, st.Fits q := fun q hq => by
  unfold parts at hq
  obtain ⟨e, he, rfl⟩ := List.mem_map.1 hq
  exact nf.fits_of (h e (List.mem_filter.1 he).1)
end Go.Proofs.Ytkdkibnjfgcppaa.bd

namespace Go.Proofs.Ytkdkibnjfgcppaa.bd
open Go.Sort Go.ChangeShapes Go.WideShapes Go.ChangeAt Go.RowKit Go.Maps
open df (Kp Row iv In IntsV Owns)
open nf (Nfa Ed Rt EdAt Eds nfaV)
open st (Q4 none4 Fits has nth jn sig Blk OwnSets)
set_option linter.unusedVariables false
set_option maxRecDepth 10000

structure L1 (W : World) (h : Hd) (n b mb ob fb : Nat) (D : DataW Unit) (l : List Ed) (pl : List Q4) (v : Value) (Vo Vf : Nat → Value) (wr : World) : Prop where
  be : Below W.heap.size W wr
  bx : BBox wr b h (.slice none 0 0) (.map (some mb)) (.slice none 0 0) (.slice none 0 0)
  mp : wr.ownsMap Try.prog 9 (plainElem (H := Unit) Try.prog 3) mb 1 D
  nb : Nb W.heap.size ob fb n Vo Vf (esAt l) (fsAt l) wr
  pr : OwnSets W.heap.size wr v pl
  bb : W.heap.size ≤ b
  bm : W.heap.size ≤ mb
section
variable {W w w1 w2 w' : World} {h : Hd} {n b mb ob fb : Nat} {D : DataW Unit} {l l' : List Ed} {pl : List Q4} {v : Value} {Vo Vf Vo' Vf' : Nat → Value}
theorem own_map_lt (k : w.ownsMap Try.prog 9 (plainElem (H := Unit) Try.prog 3) mb 1 D) : mb < w.heap.size := by
  obtain ⟨es, clock, hb, _⟩ := k
  exact (Array.getElem?_eq_some_iff.1 hb).1
theorem L1.later (k : L1 W h n b mb ob fb D l pl v Vo Vf w) (c : Below w.heap.size w w') : L1 W h n b mb ob fb D l pl v Vo Vf w' :=
  ⟨st.chain k.be c, k.bx.keep (c.block _ k.bx.lt), map_keep k.mp (c.block _ (own_map_lt k.mp)), k.nb.later c, ow.later k.pr c, k.bb, k.bm⟩
theorem L1.box_not (k : L1 W h n b mb ob fb D l pl v Vo Vf w) : ¬ Mine ob fb n Vo Vf b := k.nb.apart k.bx.blk (by decide)
theorem L1.map_not (k : L1 W h n b mb ob fb D l pl v Vo Vf w) : ¬ Mine ob fb n Vo Vf mb := by
  obtain ⟨es, clock, hb, _⟩ := k.mp
  rintro (rfl | rfl | ⟨s, hs, e⟩ | ⟨s, hs, e⟩)
  · have := k.nb.orow; rw [hb] at this; cases this
  · have := k.nb.frow; rw [hb] at this; cases this
  · exact ow.kind (k.nb.oo s hs) hb rfl e.symm
  · exact ow.kind (k.nb.ff s hs) hb rfl e.symm
theorem L1.row_not (k : L1 W h n b mb ob fb D l pl v Vo Vf w) (g : Nat) (hg : v.ownBlock = some g) : ¬ Mine ob fb n Vo Vf g := by
  rintro (rfl | rfl | ⟨s, hs, e⟩ | ⟨s, hs, e⟩)
  · exact ow.type k.pr k.nb.orow (by decide) hg.symm
  · exact ow.type k.pr k.nb.frow (by decide) hg.symm
  · exact own_ne k.pr (k.nb.oo s hs) (by decide) g hg e.symm
  · exact own_ne k.pr (k.nb.ff s hs) (by decide) g hg e.symm
theorem L1.stay (k : L1 W h n b mb ob fb D l pl v Vo Vf w) (q : Nb W.heap.size ob fb n Vo' Vf' (esAt l') (fsAt l') w') (s : Stay W.heap.size ob fb n Vo Vf Vo' Vf' w w') : L1 W h n b mb ob fb D l' pl v Vo' Vf' w' :=
  ⟨⟨s.os.trans k.be.os, s.tape.trans k.be.tape, s.output.trans k.be.output, Nat.le_trans k.be.size s.size, fun g hg => (s.block g (Nat.lt_of_lt_of_le hg k.be.size) (fun m => by have := (k.nb.lt m).1; omega)).trans (k.be.block g hg)⟩,
   k.bx.keep (s.block _ k.bx.lt k.box_not), map_keep k.mp (s.block _ (own_map_lt k.mp) k.map_not), q, ow.keep k.pr (fun g e => s.block g (ow.lt k.pr e).2 (k.row_not g e)), k.bb, k.bm⟩
theorem L1.app (k : L1 W h n b mb ob fb D l pl v Vo Vf w) {q : Q4} {g' cap' : Nat} (ho : w'.ownsRow W.heap.size 45 4 (.slice (some ⟨g', 0, none⟩) (pl.length + 1) cap') (pl.length + 1) (st.cells4 pl ++ [Value.int .u64 q.a, .int .u64 q.b, .int .u64 q.c, .int .u64 q.d])) (hg : w.grownBy w' v.ownBlock) :
    L1 W h n b mb ob fb D l (pl ++ [q]) (.slice (some ⟨g', 0, none⟩) (pl.length + 1) cap') Vo Vf w' := by
  have n1 : some b ≠ v.ownBlock := ow.type k.pr k.bx.blk (by decide)
  have n2 : some mb ≠ v.ownBlock := by
    obtain ⟨es, clock, hb, _⟩ := k.mp
    exact ow.kind k.pr hb rfl
  refine ⟨k.be.grown hg k.be.size (fun g e => (ow.lt k.pr e).1), k.bx.keep (hg.block _ k.bx.lt n1), map_keep k.mp (hg.block _ (own_map_lt k.mp) n2), k.nb.keep (fun g m => hg.block g (k.nb.lt m).2 (fun e => k.row_not g e.symm m)), ?_, k.bb, k.bm⟩
  unfold OwnSets
  rw [st.cells4_append, List.length_append]
  exact ho
theorem L1.start {w3 w5 w6 : World} {hh : Hd} (hn : n ≤ 1000000) (c1 : Below W.heap.size W w2) (ho : w2.heap[ob]? = some (.cells ((List.range n).map fun _ => Value.slice none 0 0).toArray 50 (0, 0))) (hf : w2.heap[fb]? = some (.cells ((List.range n).map fun _ => Value.slice none 0 0).toArray 39 (0, 0)))
    (lo : W.heap.size ≤ ob) (lf : W.heap.size ≤ fb) (lb : W.heap.size ≤ b) (e3 : w3 = w2.alloc (.map #[] 0)) (c5 : Below w3.heap.size w3 w5) (g6 : w5.grownBy w6 (some w2.heap.size)) (k6 : BBox w6 b hh (.slice none 0 0) (.map none) (.slice none 0 0) (.slice none 0 0)) (hm : w6.ownsMap Try.prog 9 (plainElem (H := Unit) Try.prog 3) w2.heap.size 1 D) :
    L1 W hh n b w2.heap.size ob fb D [] [] (.slice none 0 0) (fun _ => .slice none 0 0) (fun _ => .slice none 0 0) (w6.setCell ⟨b, 8, none⟩ (.map (some w2.heap.size))) := by
  have s3 : w3.heap.size = w2.heap.size + 1 := by rw [e3]; simp
  have h36 : ∀ g, g < w2.heap.size → w6.heap[g]? = w2.heap[g]? := fun g hg => by
    rw [g6.block g (by have := c5.size; omega) (fun e => by have := Option.some.inj e; omega), c5.block g (by omega), e3]
    exact Below.heap_alloc _ _ _ hg
  have lt_ob := (Array.getElem?_eq_some_iff.1 ho).1
  have lt_fb := (Array.getElem?_eq_some_iff.1 hf).1
  have n1 : ob ≠ b := fun e => by have h1 := (h36 ob lt_ob).trans ho; rw [e, k6.blk] at h1; injection h1 with h1; injection h1 with _ h1; exact absurd h1 (by decide)
  have n2 : fb ≠ b := fun e => by have h1 := (h36 fb lt_fb).trans hf; rw [e, k6.blk] at h1; injection h1 with h1; injection h1 with _ h1; exact absurd h1 (by decide)
  have n3 : w2.heap.size ≠ b := fun e => by
    obtain ⟨es, clock, hb, _⟩ := hm
    rw [e, k6.blk] at hb
    cases hb
  have hs : ∀ g, g ≠ b → (w6.setCell ⟨b, 8, none⟩ (.map (some w2.heap.size))).heap[g]? = w6.heap[g]? := fun g hg => Below.heap_setCell _ _ _ g hg
  have c3 : Below W.heap.size W w3 := by rw [e3]; exact c1.alloc c1.size _
  have c6 : Below W.heap.size W w6 := (st.chain c3 c5).grown g6 (st.chain c3 c5).size (fun g e => by have := Option.some.inj e; have := c1.size; omega)
  refine ⟨c6.setCell (p := ⟨b, 8, none⟩) lb _, k6.set8 _, map_keep hm (hs _ n3), ?_, ow.nil _ _ _ _, lb, c1.size⟩
  exact Nb.start ((hs ob n1).trans ((h36 ob lt_ob).trans ho)) ((hs fb n2).trans ((h36 fb lt_fb).trans hf)) lo lf
end
/-- the same, while the least bytes are gathered -/
structure L2 (W : World) (h : Hd) (n b mb ob fb : Nat) (D : DataW Unit) (l : List Ed) (Vo Vf : Nat → Value) (ls : List Nat) (vl : Value) (wr : World) : Prop where
  be : Below W.heap.size W wr
  bx : BBox wr b { h with vl := vl } (.slice none 0 0) (.map (some mb)) (.slice none 0 0) (.slice none 0 0)
  mp : wr.ownsMap Try.prog 9 (plainElem (H := Unit) Try.prog 3) mb 1 D
  nb : Nb W.heap.size ob fb n Vo Vf (esAt l) (fsAt l) wr
  lr : wr.ownsRow W.heap.size 5 1 vl ls.length (ls.map fun y : Nat => Value.int .u8 (y : Int))
  bb : W.heap.size ≤ b
  bm : W.heap.size ≤ mb
section
variable {W w w1 w2 w' : World} {h : Hd} {n b mb ob fb : Nat} {D : DataW Unit} {l l' : List Ed} {pl : List Q4} {v vl : Value} {Vo Vf : Nat → Value} {ls : List Nat}
theorem L1.next (k : L1 W h n b mb ob fb D l pl v Vo Vf w) (hvl : h.vl = .slice none 0 0) (c : Below w.heap.size w w1) (xs : List Value) (hx : xs.length = 256) : L2 W { h with cl := xs } n b mb ob fb D l Vo Vf [] (.slice none 0 0) (w1.setCells b 9 xs) := by
  have k1 := k.later c
  have hs : ∀ g, g ≠ b → (w1.setCells b 9 xs).heap[g]? = w1.heap[g]? := fun g hg => cells_other b xs 9 w1 g hg
  have kb := k1.bx.setCl xs hx
  have e : ({ h with cl := xs } : Hd) = { ({ h with cl := xs } : Hd) with vl := .slice none 0 0 } := by rw [← hvl]
  have mm := k1.map_not
  have hb2 : ∀ (xs : List Value) (o : Nat) (u : World), Below W.heap.size W u → Below W.heap.size W (u.setCells b o xs) := by
    intro xs
    induction xs with
    | nil => intro o u hu; exact hu
    | cons y ys ih => intro o u hu; exact ih _ _ (hu.setCell (p := ⟨b, o, none⟩) k.bb _)
  have nm : mb ≠ b := fun e => by
    obtain ⟨es, clock, hb, _⟩ := k1.mp
    rw [e, k1.bx.blk] at hb
    cases hb
  exact ⟨hb2 xs 9 w1 k1.be, by rw [← e]; exact kb, map_keep k1.mp (hs _ nm), k1.nb.keep (fun g m => hs g (fun e => k1.box_not (e ▸ m))), ow.nil _ _ _ _, k.bb, k.bm⟩
theorem L2.app (k : L2 W h n b mb ob fb D l Vo Vf ls vl w) (c : Below w.heap.size w w1) {i g' cap' : Nat} (ho : w'.ownsRow W.heap.size 5 1 (.slice (some ⟨g', 0, none⟩) (ls.length + 1) cap') (ls.length + 1) ((ls.map fun y : Nat => Value.int .u8 (y : Int)) ++ [Value.int .u8 (i : Int)])) (hg : w1.grownBy w' vl.ownBlock) :
    BBox w' b { h with vl := vl } (.slice none 0 0) (.map (some mb)) (.slice none 0 0) (.slice none 0 0) ∧ L2 W h n b mb ob fb D l Vo Vf (ls ++ [i]) (.slice (some ⟨g', 0, none⟩) (ls.length + 1) cap') (w'.setCell ⟨b, 6, none⟩ (.slice (some ⟨g', 0, none⟩) (ls.length + 1) cap')) := by
  have lr1 := ow.later k.lr c
  have bx1 := k.bx.keep (c.block _ k.bx.lt)
  have mp1 := map_keep k.mp (c.block _ (own_map_lt k.mp))
  have nb1 := k.nb.later c
  have n1 : some b ≠ vl.ownBlock := ow.type lr1 bx1.blk (by decide)
  have n2 : some mb ≠ vl.ownBlock := by
    obtain ⟨es, clock, hb, _⟩ := mp1
    exact ow.kind lr1 hb rfl
  have nm : mb ≠ b := fun e => by
    obtain ⟨es, clock, hb, _⟩ := mp1
    rw [e, bx1.blk] at hb
    cases hb
  have nr : ∀ g, Mine ob fb n Vo Vf g → some g ≠ vl.ownBlock := by
    rintro g (rfl | rfl | ⟨s, hs, e⟩ | ⟨s, hs, e⟩)
    · exact ow.type lr1 nb1.orow (by decide)
    · exact ow.type lr1 nb1.frow (by decide)
    · exact fun e2 => own_ne lr1 (nb1.oo s hs) (by decide) g e2.symm e.symm
    · exact fun e2 => own_ne lr1 (nb1.ff s hs) (by decide) g e2.symm e.symm
  have bx2 := bx1.keep (hg.block _ bx1.lt n1)
  have nb2 := nb1.keep (w' := w') (fun g m => hg.block g (nb1.lt m).2 (nr g m))
  have hs : ∀ g, g ≠ b → (w'.setCell ⟨b, 6, none⟩ (.slice (some ⟨g', 0, none⟩) (ls.length + 1) cap')).heap[g]? = w'.heap[g]? := fun g hg => Below.heap_setCell _ _ _ g hg
  have be2 : Below W.heap.size W w' := (st.chain k.be c).grown hg (st.chain k.be c).size (fun g e => (ow.lt k.lr e).1)
  refine ⟨bx2, be2.setCell (p := ⟨b, 6, none⟩) k.bb _, bx2.set6 _, map_keep (map_keep mp1 (hg.block _ (own_map_lt mp1) n2)) (hs _ nm), nb2.keep (fun g m => hs g (fun e => nb2.apart bx2.blk (by decide) (e ▸ m))), ?_, k.bb, k.bm⟩
  rw [List.length_append, List.map_append]
  exact ow.keep ho fun g e => hs g (fun e2 => ow.type ho bx2.blk (by decide) (by rw [← e2]; exact e.symm))
end
theorem own_bytes {X : Nat → Prop} {w : World} {B : Nat} {o : Option Addr} {c : Nat} {ls : List Nat} (h : w.ownsRow B 5 1 (.slice o ls.length c) ls.length (ls.map fun y : Nat => Value.int .u8 (y : Int))) (hx : ∀ g, some g = (Value.slice o ls.length c).ownBlock → X g) : Row X w (fun y : Nat => Value.int .u8 (y : Int)) o c ls := by
  obtain ⟨g, cap, e, h1, h2⟩ := ow.form h
  simp only [Value.slice.injEq, true_and] at e
  obtain ⟨rfl, rfl⟩ := e
  refine ⟨h1, h2, fun i hi => ?_⟩
  obtain ⟨g', cap', e1, e2, e3⟩ := ow.cell h i (by simpa using hi)
  simp only [Value.slice.injEq, true_and] at e1
  obtain ⟨rfl, rfl⟩ := e1
  refine ⟨g', 0, rfl, hx g' rfl, ?_⟩
  rw [Nat.zero_add, e3]
  simp
/-- a builder that was just made -/
structure Made (W : World) (x : Nfa) (n e : Nat) (eo : Option Addr) (ec : Nat) (W' : World) (b mb : Nat) (h : Hd) (ob fb : Nat) (lo : Option Addr) (lc : Nat) (X : Nat → Prop) (D : DataW Unit) (ls xs : List Nat) : Prop where
  bs : Bst X X W' W.heap.size b mb h n e [] [] (.slice none 0 0) (.slice none 0 0) (.slice none 0 0) [] 1 D
  nt : Net X W' h n (esAt x.edges) (fsAt x.edges) ls ob n fb n lo lc
  hn : h.n = x.n
  hs : h.s = x.s
  he : h.e = x.e
  eo : h.eo = eo
  em : h.em = x.edges.length
  ec : h.ec = ec
  cl : h.cl = xs.map fun y : Nat => Value.int .u8 (y : Int)
  be : Below W.heap.size W W'
theorem L2.made {W w : World} {x : Nfa} {n e : Nat} (R1 : Rt x n) (he : x.e = (e : Int)) {eo : Option Addr} {ec b mb ob fb : Nat} {Vo Vf : Nat → Value} {lo : Option Addr} {lc : Nat} {ls xs : List Nat} {h : Hd} {D : DataW Unit} (hD : MapOk n [] D)
    (hh : h = { hd0 n x.s x.e eo x.edges.length ec n ob fb with cl := xs.map fun y : Nat => Value.int .u8 (y : Int) }) (k : L2 W h n b mb ob fb D x.edges Vo Vf ls (.slice lo ls.length lc) w) :
    ∃ h X, Made W x n e eo ec w b mb h ob fb lo lc X D ls xs := by
  have hn2 := R1.n2
  have hee := R1.e
  have mlt := own_map_lt k.mp
  have nm : mb ≠ b := fun e => by
    obtain ⟨es, clock, hb, _⟩ := k.mp
    rw [e, k.bx.blk] at hb
    cases hb
  have m1 : ∀ g, Mine ob fb n Vo Vf g → g ≠ mb := by
    obtain ⟨es, clock, hb, _⟩ := k.mp
    rintro g (rfl | rfl | ⟨s, hs, e⟩ | ⟨s, hs, e⟩) rfl
    · have := k.nb.orow; rw [hb] at this; cases this
    · have := k.nb.frow; rw [hb] at this; cases this
    · exact ow.kind (k.nb.oo s hs) hb rfl e.symm
    · exact ow.kind (k.nb.ff s hs) hb rfl e.symm
  have m2 : ∀ g, some g = (Value.slice lo ls.length lc).ownBlock → g ≠ mb := by
    obtain ⟨es, clock, hb, _⟩ := k.mp
    rintro g e rfl
    exact ow.kind k.lr hb rfl e
  have a1 : ∀ g, (Mine ob fb n Vo Vf g ∨ some g = (Value.slice lo ls.length lc).ownBlock) → g < w.heap.size ∧ g ≠ b ∧ g ≠ mb := by
    intro g hg
    rcases hg with hg | hg
    · exact ⟨(k.nb.lt hg).2, fun e => k.nb.apart k.bx.blk (by decide) (e ▸ hg), m1 g hg⟩
    · exact ⟨(ow.lt k.lr hg.symm).2, fun e => ow.type k.lr k.bx.blk (by decide) (e ▸ hg), m2 g hg⟩
  have bu : Bu (fun g => Mine ob fb n Vo Vf g ∨ some g = (Value.slice lo ls.length lc).ownBlock) w W.heap.size b mb { h with vl := .slice lo ls.length lc } (.slice none 0 0) (.slice none 0 0) (.slice none 0 0) [] [] [] 1 D :=
    ⟨k.bx, k.mp, ow.nil _ _ _ _, ow.nil _ _ _ _, ow.nil _ _ _ _, (fun g e => by cases e), k.bb, k.bm, fun g hg => ⟨(a1 g hg).1, (a1 g hg).2.1, (a1 g hg).2.2, by simp [Value.ownBlock], by simp [Value.ownBlock], by simp [Value.ownBlock]⟩⟩
  have e1 : h.n = (n : Int) := by rw [hh]; rfl
  have e2 : h.e = x.e := by rw [hh]; rfl
  have hx1 := R1.hx
  refine ⟨{ h with vl := .slice lo ls.length lc }, _, ⟨bu, rws_nil _ _, fun _ h => h, hD, by simp, e1, e2.trans he, by omega, hn2, fun σ hσ => by cases hσ⟩, ⟨by rw [hh]; rfl, k.nb.ovr (by omega) (fun g h => .inl h), by rw [hh]; rfl, k.nb.fre (by omega) (fun g h => .inl h), rfl, own_bytes k.lr (fun g h => .inr h)⟩, by rw [hx1]; exact e1, by rw [hh]; rfl, e2, by rw [hh]; rfl, by rw [hh]; rfl, by rw [hh]; rfl, by rw [hh], k.be⟩
end Go.Proofs.Ytkdkibnjfgcppaa.bd

namespace Go.Proofs.Ytkdkibnjfgcppaa.bd
open Go.Sort Go.ChangeShapes Go.WideShapes Go.ChangeAt Go.RowKit Go.Maps
open df (Kp Row iv In IntsV Owns)
open nf (Nfa Ed Rt EdAt Eds nfaV)
open st (Q4 none4 Fits has nth jn sig Blk OwnSets)
set_option linter.unusedVariables false
set_option maxRecDepth 10000
theorem below_eq {w w' : World} {o : Obj} (e : w' = w.alloc o) : Below w.heap.size w w' := by rw [e]; exact nf.below_alloc _ _
theorem cell3 {w : World} {g : Nat} {p q r v : Value} (h : w.heap[g]? = some (.cells #[p, q, r, v] 52 (0, 0))) : w.cell? ⟨g, 3, none⟩ = some v := by rw [Lib.cell_of_heap h]; rfl
theorem info45 : (Try.prog.info? 45).map (fun i => (i.zero, i.size, i.bytes)) = some (some (.agg #[.int .u64 0, .int .u64 0, .int .u64 0, .int .u64 0]), 4, 32) := by kernel_rfl
theorem info5 : (Try.prog.info? 5).map (fun i => (i.zero, i.size, i.bytes)) = some (some (.int .u8 0), 1, 1) := by kernel_rfl
set_option maxHeartbeats 4000000 in
set_option maxRecDepth 100000 in
theorem newb_any (x : Nfa) (n e : Nat) (R1 : Rt x n) (hfit : ∀ e ∈ x.edges, nf.Fits e) (hxe : x.e = (e : Int)) (eo : Option Addr) (ec : Nat) (W : World) (hE : Eds W eo ec x.edges) : Calls Try.prog 34 #[nfaV x.n x.s x.e eo x.edges.length ec] W fun ev W' => ∃ b mb h ob fb lo lc X D, ev = .returned (.pointer (some ⟨b, 0, none⟩)) ∧ Made W x n e eo ec W' b mb h ob fb lo lc X D (lsOf x) (xsOf x) := by
  have HR1 := (show Hid (Rt x n) from R1)
  have HE := (show Hid (Eds W eo ec x.edges) from hE)
  have HXE := (show Hid (x.e = (e : Int)) from hxe)
  have HFIT := (show Hid (∀ e ∈ x.edges, nf.Fits e) from hfit)
  have efit := hE.fit
  have etop := hE.top
  have hm16 := R1.m
  clear hxe hfit hE
  have hn1 := R1.n1
  have hn2 := R1.n2
  have hx := R1.hx
  have now := now_any n (by omega)
  unfold NowIs at now
  rw [hx]
  go_enter Try.func34, Try.ntmps34
  go_wp2_with (fail)
  obtain ⟨w1, HW1⟩ : ∃ w1, Hid (w1 = W.alloc (.cells #[.int .i64 (n : Int), .int .i64 x.s, .int .i64 x.e, .slice eo x.edges.length ec] 52)) := ⟨_, rfl⟩
  rw [← HW1.out]
  refine reg41_1 rfl ⟨W.heap.size, n, x.s, x.e, eo, x.edges.length, ec⟩ (by show n ≤ 1000000; omega) rfl (W := w1) ?_ ?_
  · intro w hb
    have hk : w.heap[W.heap.size]? = some (.cells #[.int .i64 (n : Int), .int .i64 x.s, .int .i64 x.e, .slice eo x.edges.length ec] 52 (0, 0)) := by
      rw [hb.block _ (by rw [HW1.out]; simp), HW1.out]; exact World.alloc_heap_new W _
    exact ⟨by rw [Lib.cell_of_heap hk]; rfl, by rw [Lib.cell_of_heap hk]; rfl, by rw [Lib.cell_of_heap hk]; rfl, by rw [Lib.cell_of_heap hk]; rfl⟩
  · intro vals w2 ob fb b v9 b2 l1 l2 l3 ho hf hb
    rw [fold41_1, v9]
    have HB2 := (show Hid (Below w1.heap.size w1 w2) from b2)
    have HO2 := (show Hid (w2.heap[ob]? = some (.cells ((List.range n).map fun _ => Value.slice none 0 0).toArray 50 (0, 0))) from ho)
    have HF2 := (show Hid (w2.heap[fb]? = some (.cells ((List.range n).map fun _ => Value.slice none 0 0).toArray 39 (0, 0))) from hf)
    have kb : BBox w2 b (hd0 n x.s x.e eo x.edges.length ec n ob fb) (.slice none 0 0) (.map none) (.slice none 0 0) (.slice none 0 0) := ⟨hb, by simp [hd0]⟩
    have hmm := @run_makeMap Try.prog
    have hmade := World.ownsMap_made w2 Try.prog 9 (plainElem (H := Unit) Try.prog 3)
    obtain ⟨w3, HW3⟩ : ∃ w3, Hid (w3 = w2.alloc (.map #[] 0)) := ⟨_, rfl⟩
    rw [← HW3.out] at hmade
    have k3 := kb.keep (W' := w3) (by rw [HW3.out]; exact Below.heap_alloc _ _ _ kb.lt)
    have hnow := now b w3 (by rw [k3.c0]; rfl)
    have HK3 := (show Hid _ from k3)
    clear b2 ho hf hb now k3 kb
    have h53 : ∀ w4 : World, w4 = w3.alloc (.cells (scells (List.replicate n none4)) 45) → Calls Try.prog 53 #[.pointer (some ⟨b, 0, none⟩), .slice (some ⟨w3.heap.size, 0, none⟩) n n, .int .u8 0] w4 fun e w' => e = .returned (.string (txtB (off n))) ∧ Below w4.heap.size w4 w' := fun w4 e4 => by
      have k4 := HK3.out.keep (W' := w4) (by rw [e4]; exact Below.heap_alloc _ _ _ HK3.out.lt)
      have r4 : SRow w4 w3.heap.size (List.replicate n none4) := by rw [e4]; exact srow_new w3 _
      have := text_sig (List.replicate n none4) (fun r hr => by rw [List.eq_of_mem_replicate hr]; exact st.fits_none) (by simp; omega) (by simp; omega) 0 (by omega) b (.slice (some ⟨w3.heap.size, 0, none⟩) n n) w4 k4.lt (by rw [k4.c0]; simp [hd0]) (by have := r4.sets (by simp; omega); simpa using this)
      rw [sig_off] at this
      exact this
    have hlt : w2.heap.size < w3.heap.size := by rw [HW3.out]; simp
    have hbm : b < w2.heap.size := by
      have := HK3.out.lt
      refine Nat.lt_of_le_of_ne (by rw [HW3.out] at this; simp at this; omega) fun e => ?_
      have h1 := HK3.out.blk
      rw [HW3.out, e, World.alloc_heap_new] at h1
      cases h1
    have hkey : keyOf Try.prog 9 (.string (txtB (off n))) = some (.string (txt (off n))) := key_of (off n) (by rw [off_len]; omega)
    have HBX := (show Hid (∀ w5 w6 : World, Below w3.heap.size w3 w5 → w5.grownBy w6 (some w2.heap.size) → (w6.setCell ⟨b, 8, none⟩ (.map (some w2.heap.size))).heap[W.heap.size]? = some (.cells #[.int .i64 (n : Int), .int .i64 x.s, .int .i64 x.e, .slice eo x.edges.length ec] 52 (0, 0))) from fun w5 w6 h5 h6 => by
      have q0 : W.heap.size < w1.heap.size := by rw [HW1.out]; simp
      have e0 : w2.heap[W.heap.size]? = some (.cells #[.int .i64 (n : Int), .int .i64 x.s, .int .i64 x.e, .slice eo x.edges.length ec] 52 (0, 0)) := by
        rw [HB2.out.block _ q0, HW1.out]; exact World.alloc_heap_new W _
      have e3 : w3.heap[W.heap.size]? = some (.cells #[.int .i64 (n : Int), .int .i64 x.s, .int .i64 x.e, .slice eo x.edges.length ec] 52 (0, 0)) := by rw [HW3.out]; exact old_at e0 _
      have q2 := HB2.out.size
      have e5 := (h5.block W.heap.size (by omega)).trans e3
      have q5 := h5.size
      have e6 := (h6.block W.heap.size (by omega) (by intro e; have := Option.some.inj e; omega)).trans e5
      exact (Below.heap_setCell _ _ _ _ (by show W.heap.size ≠ b; omega)).trans e6)
    go_wp2_with (first | (go_at_call 54; rw [← HW3.out]; refine hnow.mono ?_; rintro ev w4 ⟨rfl, hw4⟩; have h53' := h53 w4 hw4; have b4 := below_eq hw4; clear hw4) | (go_at_call 53; refine h53'.mono ?_; rintro ev w5 ⟨rfl, b5⟩; have b35 := st.chain b4 b5; have hm5 := map_keep hmade (b35.block _ hlt); have HK5 := (show Hid _ from HK3.out.keep (b35.block b HK3.out.lt))) | (refine insert_own _ (by rfl) (.tmp 19) (.tmp 23) (.const (.int .i64 (-1))) (by rfl) w2.heap.size 0 (.map []) (by rfl) hm5 (by unfold maxLen; omega) (.string (txtB (off n))) (.int .i64 (-1)) (.string (txt (off n))) (by rfl) (by rfl) hkey (.lit (.int .i64 (-1))) [] (plainElem_int Try.underlying3 (WalkArith.wf_i64 (by omega))) ?_; intro w6 hown6 hgr6; have HK6 := (show Hid _ from HK5.out.keep (hgr6.block b HK5.out.lt (by intro e; cases e; omega))); have z8 := HK6.out.c8; have y8 := HK6.out.fz 8; have HB7 := (show Hid _ from HBX.out w5 w6 b35 hgr6); have c3 := cell3 HB7.out))
    obtain ⟨h, HH⟩ : ∃ h, Hid (h = hd0 n x.s x.e eo x.edges.length ec n ob fb) := ⟨_, rfl⟩
    obtain ⟨w8, HW8⟩ : ∃ w8, Hid (w8 = w6.setCell ⟨b, 8, none⟩ (.map (some w2.heap.size))) := ⟨_, rfl⟩
    obtain ⟨D, mb, HMO, HST⟩ : ∃ D mb, Hid (MapOk n [] D) ∧ Hid (L1 W h n b mb ob fb D [] [] (.slice none 0 0) (fun _ => .slice none 0 0) (fun _ => .slice none 0 0) w8) := by
      have c1 : Below W.heap.size W w1 := by rw [HW1.out]; exact nf.below_alloc _ _
      have c2 : Below W.heap.size W w2 := st.chain c1 HB2.out
      have q := c1.size
      refine ⟨_, w2.heap.size, map_start n, ?_⟩
      show L1 _ _ _ _ _ _ _ _ _ _ _ _ _ _
      rw [HW8.out, HH.out]
      exact L1.start (by omega) c2 HO2.out HF2.out (by omega) (by omega) (by omega) HW3.out b35 hgr6 HK6.out hown6
    rw [← HW8.out]
    clear hmade hmm hnow h53 h53' b4 b5 b35 hm5 HK5 hown6 hgr6 HK6 z8 y8 HB7 c3 HBX HK3 HW3 HO2 HF2 HB2 v9 hlt hkey l1 l2 l3 HW1 HW8 hbm
    go_loopw [4, 30] (fun v z wr => ∃ (i : Nat) (Vo Vf : Nat → Value), z = .int .i64 i ∧ i ≤ x.edges.length ∧ Hid (L1 W h n b mb ob fb D (x.edges.take i) (parts (x.edges.take i)) v Vo Vf wr)) (fun _ z _ => x.edges.length - (intOf z).toNat)
    case atStart => exact ⟨0, _, _, rfl, by omega, HST⟩
    case round =>
      obtain ⟨i, Vo, Vf, rfl, hi, HI⟩ := hrel
      obtain ⟨v, rfl⟩ : ∃ v, v = u4 := ⟨_, rfl⟩
      clear HST
      by_cases hend : i < x.edges.length
      · obtain ⟨eb, eoff, rfl, heb, hed⟩ := (HE.out.later HI.out.be).lie i hend
        obtain ⟨c0, c1, c2, c3, c4, c5, c6⟩ := hed
        have HTK := (show Hid (x.edges.take (i + 1) = x.edges.take i ++ [x.edges[i]]) from List.take_succ_eq_append_getElem hend)
        have hfr := HR1.out.fr x.edges[i] (List.getElem_mem hend)
        have HLL := (show Hid ((x.edges.take i).length ≤ 1000000) from by show _ ≤ _; rw [List.length_take]; omega)
        generalize x.edges[i] = y at *
        generalize x.edges.take i = l at *
        obtain ⟨s, hs⟩ : ∃ s : Nat, y.fr = (s : Int) := ⟨y.fr.toNat, by omega⟩
        have HS := (show Hid (y.fr = (s : Int)) from hs)
        have hsn : s < n := by omega
        have HNP := (show Hid (¬ Mine ob fb n Vo Vf wr.heap.size) from fun m => by have := (HI.out.nb.lt m).2; omega)
        have HSZ := (show Hid (W.heap.size ≤ wr.heap.size) from HI.out.be.size)
        clear hs hfr heb
        cases hf : y.free with
        | true =>
          rw [hf] at c2
          obtain ⟨w9, HW9⟩ : ∃ w9, Hid (w9 = wr.alloc (.cells #[.int .i64 y.fr, .int .i64 y.to, .bool true, .int .u64 y.a, .int .u64 y.b, .int .u64 y.c, .int .u64 y.d] 105)) := ⟨_, rfl⟩
          have HEB := (show Hid (EBox w9 wr.heap.size y) from by show EBox _ _ _; rw [HW9.out]; unfold EBox; rw [hf]; exact heap_alloc_new wr _)
          have HBW := (show Hid (Below wr.heap.size wr w9) from by show Below _ _ _; rw [HW9.out]; exact nf.below_alloc _ _)
          have HFF := (show Hid (y.free = true) from hf)
          clear hf
          go_wp2_with (fail)
          rw [← HW9.out]
          refine put_free rfl rfl rfl (HI.out.later HBW.out).nb (HI.out.later HBW.out).bx (by rw [HH.out]; rfl) HEB.out HNP.out (by have := HBW.out.size; have := HSZ.out; omega) HLL.out hsn HS.out HFF.out ?_
          intro vals Vf' w' hnb hst
          rw [fold41_8]
          have HN := (show Hid (L1 W h n b mb ob fb D (l ++ [y]) (parts (l ++ [y])) v Vo Vf' w') from by show L1 _ _ _ _ _ _ _ _ _ _ _ _ _ _; rw [parts_free l y HFF.out]; exact (HI.out.later HBW.out).stay hnb hst)
          clear hnb hst HEB HBW HNP HI c0 c1 c2 c3 c4 c5 c6 HW9
          go_wp2_with (fail)
          go_roundw
          case rel => exact ⟨i + 1, Vo, Vf', by go_num, by omega, by rw [HTK.out]; exact HN⟩
          case measure => simp [intOf]; omega
        | false =>
          rw [hf] at c2
          obtain ⟨w9, HW9⟩ : ∃ w9, Hid (w9 = wr.alloc (.cells #[.int .i64 y.fr, .int .i64 y.to, .bool false, .int .u64 y.a, .int .u64 y.b, .int .u64 y.c, .int .u64 y.d] 105)) := ⟨_, rfl⟩
          have HEB := (show Hid (EBox w9 wr.heap.size y) from by show EBox _ _ _; rw [HW9.out]; unfold EBox; rw [hf]; exact heap_alloc_new wr _)
          have HBW := (show Hid (Below wr.heap.size wr w9) from by show Below _ _ _; rw [HW9.out]; exact nf.below_alloc _ _)
          have HFF := (show Hid (y.free = false) from hf)
          clear hf
          go_wp2_with (fail)
          rw [← HW9.out]
          refine put_over rfl rfl rfl (HI.out.later HBW.out).nb (HI.out.later HBW.out).bx (by rw [HH.out]; rfl) HEB.out HNP.out (by have := HBW.out.size; have := HSZ.out; omega) HLL.out hsn HS.out HFF.out ?_
          intro vals Vo' w' hnb hst
          rw [fold41_9]
          have HN := (show Hid (L1 W h n b mb ob fb D (l ++ [y]) (parts l) v Vo' Vf w') from (HI.out.later HBW.out).stay hnb hst)
          have HE2 := (show Hid (EBox w' wr.heap.size y) from (hst.block _ HEB.out.lt HNP.out).trans HEB.out)
          obtain ⟨d3, d4, d5, d6⟩ := HE2.out.c3
          have HPL := (show Hid ((parts l).length ≤ 1000000) from Nat.le_trans (parts_len l) HLL.out)
          have HS2 := (show Hid (W.heap.size ≤ w'.heap.size) from HN.out.be.size)
          have HPO := (show Hid (parts (l ++ [y]) = parts l ++ [nf.setOf y]) from parts_over l y HFF.out)
          clear hnb hst HEB HBW HNP HI c0 c1 c2 c3 c4 c5 c6 HW9 HE2
          generalize nf.setOf y = q at *
          generalize parts l = pl at *
          go_wp2_with (at_builtin; refine ow.wpList_append (by rfl) (.tmp 73) (.tmp 76) 107 (by rfl) 45 _ 4 32 Try.underlying107 info45 (by rfl) (by decide) (by decide) W.heap.size v pl.length (st.cells4 pl) w'.heap.size [.int .u64 q.a, .int .u64 q.b, .int .u64 q.c, .int .u64 q.d] (by rfl) (by rfl) (by exact ow.later HN.out.pr (nf.below_alloc _ _)) (by rfl) (by exact st.four_cells w' q) (by exact st.four_one q) (by exact HPL.out) (by rw [World.size_alloc]; have := HS2.out; omega) ?_; intro g' cap' w12 ho hg hnw; have HN2 := (show Hid _ from (HN.out.later (nf.below_alloc _ _)).app (q := q) ho hg); clear ho hg hnw)
          go_roundw
          case rel => exact ⟨i + 1, Vo', Vf, by go_num, by omega, by rw [HTK.out, HPO.out]; exact HN2⟩
          case measure => simp [intOf]; omega
      · have HI2 := (show Hid (L1 W h n b mb ob fb D x.edges (parts x.edges) v Vo Vf wr) from by have := HI.out; rw [List.take_of_length_le (by omega)] at this; exact this)
        have h55 : Calls Try.prog 55 #[v] wr fun e w' => e = .returned (.tuple #[.agg (st.cells36 (xsOf x)), .int .i64 ((lsOf x).length : Nat)]) ∧ Below wr.heap.size wr w' := st.classes_any (parts x.edges) (parts_fit HFIT.out) (by have := parts_len x.edges; omega) v wr HI2.out.pr.sets
        have HXL := (show Hid ((xsOf x).length = 256) from xs_len x)
        obtain ⟨R, HR0, HR1', HRN⟩ : ∃ R : Nat → List Nat, Hid (R 0 = []) ∧ Hid (R 256 = lsOf x) ∧ Hid (∀ i, i < 256 → ∃ c : Nat, (xsOf x)[i]? = some c ∧ (c = (R i).length ∧ R (i + 1) = R i ++ [i] ∨ c < (R i).length ∧ R (i + 1) = R i)) :=
          ⟨st.repsBy (st.like (parts x.edges)), rfl, rfl, fun i hi => ⟨_, xs_at x i hi, cls_new x i⟩⟩
        have HRL := (show Hid (∀ i, i ≤ 256 → (R i).length ≤ i) from by
          intro i
          induction i with
          | zero => intro _; rw [HR0.out]; exact Nat.le_refl _
          | succ i ih =>
            intro hi
            obtain ⟨c, _, h | h⟩ := HRN.out i (by omega)
            · rw [h.2]; have := ih (by omega); simp; omega
            · rw [h.2]; have := ih (by omega); omega)
        obtain ⟨xs, HXS⟩ : ∃ xs, Hid (xs = xsOf x) := ⟨_, rfl⟩
        rw [← HXS.out] at h55 HXL HRN
        obtain ⟨kk, HKK⟩ : ∃ kk, Hid (kk = (lsOf x).length) := ⟨_, rfl⟩
        rw [← HKK.out] at h55
        clear HI HKK
        have HCS := (show Hid ((st.cells36 xs).size = 256) from st.cells36_size xs HXL.out)
        have HNX := (show Hid (∀ w1, Below wr.heap.size wr w1 → w1.there b 9 (st.cells36 xs).size ∧ L2 W { h with cl := xs.map fun y : Nat => Value.int .u8 (y : Int) } n b mb ob fb D x.edges Vo Vf [] (.slice none 0 0) (w1.setCells b 9 (st.cells36 xs).toList)) from fun w1 c => by
          refine ⟨by rw [HCS.out]; exact (HI2.out.later c).bx.there, ?_⟩
          have : (st.cells36 xs).toList = xs.map fun y : Nat => Value.int .u8 (y : Int) := by simp [st.cells36]
          rw [this]
          exact HI2.out.next (by rw [HH.out]; rfl) c _ (by rw [List.length_map]; exact HXL.out))
        clear HI2
        go_wp2_with (first | (go_at_call 55; refine h55.mono ?_; rintro ev w10 ⟨rfl, b10⟩; obtain ⟨th, l2⟩ := HNX.out w10 b10; have HL2 := (show Hid _ from l2); clear l2 b10) | (refine wpList_store_mid (by rfl) 22 (.tmp 87) (.tmp 83) (by rfl) b 9 (st.cells36 xs) (by rfl) (by rfl) th (st.info120 xs HXL.out) (st.cells36_one xs) ?_; clear th) | (refine wpList_load_mid (by rfl) 22 (.tmp 91) (by rfl) b 9 (by rfl) (xs.map fun y : Nat => Value.int .u8 (y : Int)) _ (by exact HL2.out.bx.classes) Try.underlying22 (by rfl) (by rw [List.length_map, HXL.out]; exact df.info22) ?_))
        obtain ⟨w11, HW11⟩ : ∃ w11, Hid (w11 = w10.setCells b 9 (st.cells36 xs).toList) := ⟨_, rfl⟩
        rw [← HW11.out] at HL2 ⊢
        obtain ⟨h1, HH1⟩ : ∃ h1 : Hd, Hid (h1 = ({ h with cl := xs.map fun y : Nat => Value.int .u8 (y : Int) } : Hd)) := ⟨_, rfl⟩
        rw [← HH1.out] at HL2
        clear HW11 HNX h55
        have HCL := (show Hid ((xs.map fun y : Nat => Value.int .u8 (y : Int)).toArray = st.cells36 xs) from rfl)
        rw [HCL.out]
        go_loopw [93] (fun z wr => ∃ (i : Nat) (vl : Value), z = .int .i64 i ∧ i ≤ 256 ∧ Hid (L2 W h1 n b mb ob fb D x.edges Vo Vf (R i) vl wr)) (fun z _ => 256 - (intOf z).toNat)
        case atStart => exact ⟨0, .slice none 0 0, rfl, by omega, by rw [HR0.out]; exact HL2⟩
        case round =>
          obtain ⟨i, vl, rfl, hi2, HI⟩ := hrel
          clear HL2
          obtain ⟨go, lcap, rfl, hf1, hf2⟩ := ow.form HI.out.lr
          by_cases hin : i < 256
          · obtain ⟨c, hxc, hnc⟩ := HRN.out i hin
            have hix : ∀ W, (Instr.index 22 (.agg (st.cells36 xs)) (.int .i64 (i : Int))).run Try.prog W = .ok (.int .u8 (c : Int)) W := fun W => df.run_index_arr 22 5 256 _ i hin _ (by unfold st.cells36; rw [List.getElem?_toArray, List.getElem?_map, hxc]; rfl) W Try.underlying22 (Try.isAgg5 W) (Try.sizeOf5 W)
            have hlen := HRL.out i hi2
            have c6 : wr.cell? ⟨b, 6, none⟩ = some (.slice go (R i).length lcap) := HI.out.bx.c6
            have hd2 : decide ((i : Int) < 256) = true := by simp; omega
            have hd1 : decide (i < 256) = true := by simp [hin]
            obtain ⟨k, HK⟩ : ∃ k, Hid (k = (R i).length) := ⟨_, rfl⟩
            rw [← HK.out] at hnc hlen c6 hf1
            have hk256 : k < 256 := by omega
            rcases hnc with ⟨hck, e2⟩ | ⟨hlt, e2⟩
            · subst hck
              obtain ⟨k, rfl⟩ : ∃ k, k = c := ⟨_, rfl⟩
              have HSZ := (show Hid (W.heap.size ≤ wr.heap.size) from HI.out.be.size)
              have HOWN := (show Hid ((wr.alloc (.cells #[.int .u8 (i : Int)] 5)).ownsRow W.heap.size 5 1 (.slice go k lcap) k ((R i).map fun y : Nat => Value.int .u8 (y : Int))) from by show World.ownsRow _ _ _ _ _ _ _; rw [HK.out]; exact ow.later HI.out.lr (nf.below_alloc _ _))
              have HAPP := (show Hid (∀ (g' cap' : Nat) (w12 : World), w12.ownsRow W.heap.size 5 1 (.slice (some ⟨g', 0, none⟩) (k + 1) cap') (k + 1) (((R i).map fun y : Nat => Value.int .u8 (y : Int)) ++ [Value.int .u8 (i : Int)]) → (wr.alloc (.cells #[.int .u8 (i : Int)] 5)).grownBy w12 (Value.slice go k lcap).ownBlock →
                w12.cell? ⟨b, 6, none⟩ = some (.slice go k lcap) ∧ w12.frozen? ⟨b, 6, none⟩ = false ∧ L2 W h1 n b mb ob fb D x.edges Vo Vf (R (i + 1)) (.slice (some ⟨g', 0, none⟩) (k + 1) cap') (w12.setCell ⟨b, 6, none⟩ (.slice (some ⟨g', 0, none⟩) (k + 1) cap'))) from by
                intro g' cap' w12 ho hg
                rw [HK.out] at ho hg ⊢
                obtain ⟨q1, q2⟩ := HI.out.app (nf.below_alloc _ _) ho hg
                exact ⟨q1.c6, q1.fz 6, by rw [e2]; exact q2⟩)
              clear e2 hxc
              generalize ((R i).map fun y : Nat => Value.int .u8 (y : Int)) = rs at *
              go_wp2_with (at_builtin; refine ow.wpList_append (by rfl) (.tmp 109) (.tmp 112) 37 (by rfl) 5 _ 1 1 Try.underlying37 info5 (by rfl) (by decide) (by decide) W.heap.size (.slice go k lcap) k rs wr.heap.size [.int .u8 (i : Int)] (by rfl) (by rfl) (by exact HOWN.out) (by rfl) (by exact ow.new1 wr (.int .u8 (i : Int)) 5) (by exact ow.one1 _ rfl) (by omega) (by rw [World.size_alloc]; have := HSZ.out; omega) ?_; intro g' cap' w12 ho hg hnw; obtain ⟨z6, y6, l2⟩ := HAPP.out g' cap' w12 ho hg; have HN2 := (show Hid _ from l2); clear ho hg hnw l2)
              go_roundw
              case rel => exact ⟨i + 1, _, by go_num, by omega, HN2⟩
              case measure => simp [intOf]; omega
            · have HE2 := (show Hid _ from e2)
              have hne : ((c : Int) == (k : Int)) = false := by rw [beq_eq_false_iff_ne]; omega
              have hc256 : c < 256 := by omega
              clear e2 hxc hlt
              rw [← HK.out] at HI
              go_wp2_with (fail)
              go_roundw
              case rel => exact ⟨i + 1, _, by go_num, by omega, by rw [HE2.out]; exact HI⟩
              case measure => simp [intOf]; omega
          · have he : i = 256 := by omega
            subst he
            have HI3 := (show Hid (L2 W h1 n b mb ob fb D x.edges Vo Vf (lsOf x) (.slice go (lsOf x).length lcap) wr) from by have := HI.out; rw [HR1'.out] at this; exact this)
            clear HI hf1
            have hd2 : decide ((256 : Int) < 256) = false := by simp
            go_wp2_with (fail)
            go_ret
            obtain ⟨h2, X, hm⟩ := HI3.out.made HR1.out HXE.out (xs := xs) (eo := eo) (ec := ec) HMO.out (by rw [HH1.out, HH.out])
            rw [HXS.out] at hm
            exact ⟨b, mb, h2, ob, fb, go, lcap, X, D, rfl, hm⟩
end Go.Proofs.Ytkdkibnjfgcppaa.bd

namespace Go.Proofs.Ytkdkibnjfgcppaa.bd
open Go.Sort Go.ChangeShapes Go.WideShapes Go.ChangeAt Go.RowKit Go.Maps
open df (Kp Row RowRow iv bv In IntsV Owns DAt)
open nf (Nfa Ed Rt EdAt Eds nfaV IRow)
open st (Q4 none4 Fits has nth jn sig Blk OwnSets)
set_option linter.unusedVariables false
set_option maxRecDepth 10000

def z37 : Array Value := (List.replicate 256 (Value.int .u8 0) ++ [Value.slice none 0 0, .slice none 0 0]).toArray
theorem z37_size : z37.size = 258 := by unfold z37; simp
theorem zero37 : ∀ w, (zeroValue 26).run Try.prog w = .ok (.agg z37) w := (zero_of_info (P := Try.prog) (t := 26) (v := .agg z37) (n := 258) (by kernel_rfl)).1
theorem built37 : Try.prog.built 26 [] = some z37 := by kernel_rfl
theorem one37 : z37.all (·.oneCell') = true := by kernel_rfl
/-- a dfa that is handed back through a cell, and a number beside it -/
theorem ret37 {fn : Func} {p u : Tmp} (h : fn.results = #[.cell p 26, .tmp u]) {a : Act} {W : World} {R : Ending → World → Prop} (g : Nat) (cs : Array Value) (n : Int) (hp : a.tmps.getD p undef = .pointer (some ⟨g, 0, none⟩)) (hA : W.heap[g]? = some (.cells cs 26 (0, 0))) (hs : cs.size = 258) (hu : a.tmps.getD u undef = .int .i64 n) (hd : a.defers = [])
    (hR : R (.returned (.tuple #[.agg cs, .int .i64 n])) W) : bodyPost Try.prog fn R .ret a W :=
  bodyPost_ret (by rw [results_cell_tmp h, hp, hu]; simp [asAddr, Result.andThen, run_loadVar_row W g 26 26 _ (0, 0) _ hA Try.underlying26 rfl (df.info26 cs hs)]) hd hR
theorem irow_rowV {X : Nat → Prop} {w : World} {g : Nat} {r : List Int} (h : IRow w g r) (hx : X g) (hr : r.length ≤ 1000000) : RowV X w (.slice (some ⟨g, 0, none⟩) r.length r.length) r :=
  ⟨_, _, rfl, Nat.le_refl _, by omega, fun i hi => ⟨g, 0, rfl, hx, by rw [Nat.zero_add]; exact h.cell i hi⟩⟩

/-- between two rows -/
structure Lp (W : World) (x : Nfa) (n e : Nat) (ls : List Nat) (b mb : Nat) (h : Hd) (ob fb : Nat) (lo : Option Addr) (lc : Nat) (j : Nat) (wr : World) (X Y : Nat → Prop) (L : List (List Bool)) (nn : List Value) (rs : List (List Int)) (vs vn va : Value) (ss : List Value) (m : Nat) (D : DataW Unit) : Prop where
  bs : Bst X Y wr W.heap.size b mb h n e L nn vs vn va ss m D
  nt : Net Y wr h n (esAt x.edges) (fsAt x.edges) ls ob n fb n lo lc
  nm : Nums x n L
  ln : L.length ≤ 400
  jl : j ≤ L.length
  rj : rs.length = j
  rw : Rws (fun g => X g ∧ W.heap.size ≤ g) wr nn rs
  ro : ∀ (k : Nat) σ r, L[k]? = some σ → rs[k]? = some r → RowOf x n ls L σ r
  be : Below W.heap.size W wr
section
variable {W w w1 w' : World} {x : Nfa} {n e : Nat} {ls : List Nat} {b mb : Nat} {h : Hd} {ob fb : Nat} {lo : Option Addr} {lc j : Nat} {X Y : Nat → Prop} {L : List (List Bool)} {nn : List Value} {rs : List (List Int)} {vs vn va : Value} {ss : List Value} {m : Nat} {D : DataW Unit}
theorem Bst.later {B : Nat} (k : Bst X Y w B b mb h n e L nn vs vn va ss m D) (c : Below w.heap.size w w') : Bst X Y w' B b mb h n e L nn vs vn va ss m D := k.more c (fun _ h => h) (fun _ h => .inl h)
/-- a row is put behind the others -/
theorem Bst.putN {B : Nat} (k : Bst X Y w B b mb h n e L nn vs vn va ss m D) {nn' : List Value} {g' k' cap' : Nat} (hk' : k' = nn'.length) (ho : w'.ownsRow B 39 1 (.slice (some ⟨g', 0, none⟩) k' cap') k' nn') (hg : w.grownBy w' vn.ownBlock) (hw : some g' = vn.ownBlock ∨ w.heap.size ≤ g') :
    BBox w' b h vs (.map (some mb)) vn va ∧ Bst X Y (w'.setCell ⟨b, 265, none⟩ (.slice (some ⟨g', 0, none⟩) k' cap')) B b mb h n e L nn' vs (.slice (some ⟨g', 0, none⟩) k' cap') va ss m D ∧ Kp X w (w'.setCell ⟨b, 265, none⟩ (.slice (some ⟨g', 0, none⟩) k' cap')) ∧ Below B w (w'.setCell ⟨b, 265, none⟩ (.slice (some ⟨g', 0, none⟩) k' cap')) := by
  have hX : ∀ g, X g → (w'.setCell ⟨b, 265, none⟩ (.slice (some ⟨g', 0, none⟩) k' cap')).heap[g]? = w.heap[g]? := fun g hx => by
    obtain ⟨a1, a2, a3, a4, a5, a6⟩ := k.bu.ap g hx
    rw [Below.heap_setCell _ _ _ g a2, hg.block g a1 a5]
  have hb := (Below.refl B w).grown hg k.bu.size (fun g e => (ow.lt k.bu.on e).1)
  refine ⟨k.bu.box.keep (hg.block b k.bu.box.lt k.bu.bs.2.1), ⟨k.bu.putN hk' ho hg hw, k.rs.carry (fun g hy => hX g (k.yx g hy)) (fun _ h => h), k.yx, k.mp, k.m1, k.hn, k.he, k.en, k.n2, k.ln⟩, ⟨by have := hg.size; simpa using this, hX⟩, hb.setCell (p := ⟨b, 265, none⟩) k.bu.bb _⟩
/-- the next round -/
theorem Lp.next (k : Lp W x n e ls b mb h ob fb lo lc j w X Y L nn rs vs vn va ss m D) {g : Nat} {r : List Int} {L' : List (List Bool)} {X' Y' : Nat → Prop} {vs1 vn1 va1 : Value} {ss1 : List Value} {m1 : Nat} {D1 : DataW Unit}
    (hir : IRow w1 g r) (hro : ∀ σ, L[j]? = some σ → RowOf x n ls L' σ r) (hj : j < L.length) (hpre : L <+: L') (hL : L'.length ≤ 400) (hnm : Nums x n L') (hX : ∀ k, X k → X' k) (hY : ∀ k, Y k → Y' k) (hg : X' g) (hgB : W.heap.size ≤ g) (hls : r.length ≤ 1000000) (kb : Bst X' Y' w1 W.heap.size b mb h n e L' nn vs1 vn1 va1 ss1 m1 D1) (mv : Mv X W.heap.size w w1)
    {w2 w3 : World} (c : Below w1.heap.size w1 w2) {g' cap' : Nat} (ho : w3.ownsRow W.heap.size 39 1 (.slice (some ⟨g', 0, none⟩) (nn.length + 1) cap') (nn.length + 1) (nn ++ [.slice (some ⟨g, 0, none⟩) r.length r.length])) (hgr : w2.grownBy w3 vn1.ownBlock) (hw : some g' = vn1.ownBlock ∨ w2.heap.size ≤ g') :
    BBox w3 b h vs1 (.map (some mb)) vn1 va1 ∧ Lp W x n e ls b mb h ob fb lo lc (j + 1) (w3.setCell ⟨b, 265, none⟩ (.slice (some ⟨g', 0, none⟩) (nn.length + 1) cap')) X' Y' L' (nn ++ [.slice (some ⟨g, 0, none⟩) r.length r.length]) (rs ++ [r]) vs1 (.slice (some ⟨g', 0, none⟩) (nn.length + 1) cap') va1 ss1 m1 D1 := by
  have kb2 := kb.later c
  obtain ⟨q1, q2, q3, q4⟩ := kb2.putN (nn' := nn ++ [.slice (some ⟨g, 0, none⟩) r.length r.length]) (by simp) ho hgr hw
  have lt1 : ∀ g, X' g → g < w1.heap.size := fun g hg => (kb.bu.ap g hg).1
  have hk : ∀ g, X' g → (w3.setCell ⟨b, 265, none⟩ (.slice (some ⟨g', 0, none⟩) (nn.length + 1) cap')).heap[g]? = w1.heap[g]? := fun g hg => (q3.2 g hg).trans (c.block g (lt1 g hg))
  refine ⟨q1, q2, (k.nt.carry (fun g hg => (hk g (hX g (k.bs.yx g hg))).trans (mv.kp.2 g (k.bs.yx g hg))) hY), hnm, hL, by have := hpre.length_le; omega, by rw [List.length_append, k.rj]; rfl, ?_, ?_, ?_⟩
  · refine (k.rw.carry (fun g hg => (hk g (hX g hg.1)).trans (mv.kp.2 g hg.1)) (fun g hg => ⟨hX g hg.1, hg.2⟩)).snoc ?_
    exact (irow_rowV (X := fun g => X' g ∧ W.heap.size ≤ g) hir ⟨hg, hgB⟩ hls).carry (fun g hg => hk g hg.1) (fun _ h => h)
  · intro i σ r' h1 h2
    by_cases hi : i < rs.length
    · rw [List.getElem?_append_left hi] at h2
      have hj2 := k.rj
      have hiL : i < L.length := by omega
      have e1 : L[i]? = some L[i] := List.getElem?_eq_getElem hiL
      have e2 := get_pre hpre e1
      rw [h1] at e2
      cases e2
      exact (k.ro i _ r' e1 h2).more hpre
    · have hlt := (List.getElem?_eq_some_iff.1 h2).1
      rw [List.length_append] at hlt
      have e : i = rs.length := by simp at hlt; omega
      subst e
      rw [List.getElem?_append_right (Nat.le_refl _)] at h2
      simp at h2
      subst h2
      have hjj := k.rj
      have e1 : L[j]? = some L[j] := List.getElem?_eq_getElem hj
      have e2 := get_pre hpre e1
      rw [hjj] at h1
      rw [h1] at e2
      cases e2
      exact hro _ e1
  · exact (k.be.trans mv.be).trans ((c.mono kb.bu.size).trans q4)
end
/-- what is built, as a dfa -/
def dOf (x : Nfa) (rs : List (List Int)) (L : List (List Bool)) (e : Nat) : df.Dfa := ⟨fun b => (xsOf x).getD b 0, rs, L.map fun σ => σ.getD e false⟩
theorem xs_getD (x : Nfa) (b : Nat) (h : b < 256) : (xsOf x).getD b 0 = st.clsBy (st.like (parts x.edges)) b := by rw [List.getD_eq_getElem?_getD, xs_at x b h]; rfl
theorem Lp.built {W w : World} {x : Nfa} {n e : Nat} {b mb : Nat} {h : Hd} {ob fb : Nat} {lo : Option Addr} {lc j : Nat} {X Y : Nat → Prop} {L : List (List Bool)} {nn : List Value} {rs : List (List Int)} {vs vn va : Value} {ss : List Value} {m : Nat} {D : DataW Unit} (k : Lp W x n e (lsOf x) b mb h ob fb lo lc j w X Y L nn rs vs vn va ss m D) (hj : j = L.length) (he : x.e = (e : Int)) : Built x n (lsOf x) L (dOf x rs L e) :=
  ⟨k.nm, by rw [← hj, ← k.rj]; rfl, fun i σ r h1 h2 => k.ro i σ r h1 h2, by unfold dOf; simp only; rw [he]; rfl, ls_pos x, ls_most x, ls_byte x,
   fun b hb => by
    obtain ⟨y, h1, h2⟩ := ls_same x b hb
    refine ⟨y, ?_, h2⟩
    show (lsOf x)[(xsOf x).getD b 0]? = _
    rw [xs_getD x b hb]; exact h1,
   fun c y hy => by
    show (xsOf x).getD y 0 = c
    rw [xs_getD x y (ls_byte x y (List.mem_of_getElem? hy))]
    exact ls_own x c y hy⟩
theorem Lp.cells {W w : World} {x : Nfa} {n e : Nat} {b mb : Nat} {h : Hd} {ob fb : Nat} {lo : Option Addr} {lc j : Nat} {X Y : Nat → Prop} {L : List (List Bool)} {nn : List Value} {rs : List (List Int)} {vs vn va : Value} {ss : List Value} {m : Nat} {D : DataW Unit} (k : Lp W x n e (lsOf x) b mb h ob fb lo lc j w X Y L nn rs vs vn va ss m D) (hcl : h.cl = (xsOf x).map fun y : Nat => Value.int .u8 (y : Int)) {w' : World} (hk : ∀ g, g < w.heap.size → W.heap.size ≤ g → w'.heap[g]? = w.heap[g]?) (hsz : w.heap.size ≤ w'.heap.size) :
    (h.cl ++ [vn, va]).length = 258 ∧ w.rangeAt b 9 (h.cl ++ [vn, va]) ∧ ∃ o cap ao acap, DAt (In w') w' (dOf x rs L e) (h.cl ++ [vn, va]).toArray o cap ao acap := by
  have hl := k.bs.bu.box.cl
  obtain ⟨o, cap, en, f1, f2⟩ := ow.form k.bs.bu.on
  obtain ⟨ao, acap, ea, g1, g2⟩ := ow.form k.bs.bu.oa
  refine ⟨by simp [hl], ?_, o, cap, ao, acap, by simp [hl], ?_, ?_, ?_, ?_, ?_, ?_⟩
  · intro i v hv
    rw [Lib.cell_of_heap k.bs.bu.box.blk, List.getElem?_toArray]
    have : (9 : Nat) + i = [Value.int .i64 h.n, .int .i64 h.s, .int .i64 h.e, .slice h.eo h.em h.ec, h.vo, h.vf, h.vl, vs, .map (some mb)].length + i := rfl
    rw [this]
    show ([Value.int .i64 h.n, .int .i64 h.s, .int .i64 h.e, .slice h.eo h.em h.ec, h.vo, h.vf, h.vl, vs, .map (some mb)] ++ (h.cl ++ [vn, va]))[_]? = _
    rw [List.getElem?_append_right (Nat.le_add_right _ _), Nat.add_sub_cancel_left]
    exact hv
  · intro i hi
    rw [List.getElem?_toArray, List.getElem?_append_left (by omega), hcl, List.getElem?_map]
    have hx : i < (xsOf x).length := by rw [xs_len]; exact hi
    show _ = some (Value.int .u8 (((xsOf x).getD i 0 : Nat) : Int))
    rw [List.getElem?_eq_getElem hx, List.getD_eq_getElem?_getD, List.getElem?_eq_getElem hx]
    rfl
  · intro i
    show (xsOf x).getD i 0 < 256
    by_cases hi : i < 256
    · rw [xs_getD x i hi]; exact cls_byte x i hi
    · rw [List.getD_eq_getElem?_getD, List.getElem?_eq_none (by rw [xs_len]; omega)]; decide
  · rw [List.getElem?_toArray, (tail_at h.cl hl vn va).1, en, k.rw.len]; rfl
  · rw [List.getElem?_toArray, (tail_at h.cl hl vn va).2, ea]
    show some (Value.slice ao (L.map fun σ => σ.getD e false).length acap) = some (Value.slice ao ((L.map fun σ => σ.getD e false)).length acap)
    rfl
  · refine ⟨by have := k.rw.len; show rs.length ≤ cap; omega, f2, fun i hi => ?_⟩
    have hi2 : i < rs.length := hi
    have hin : i < nn.length := by rw [k.rw.len]; exact hi2
    obtain ⟨g', cap', e1, e2, e3⟩ := ow.cell k.bs.bu.on i hin
    obtain ⟨oi, ci, e4, hrow⟩ := k.rw.at' i _ _ (List.getElem?_eq_getElem hin) (List.getElem?_eq_getElem hi2)
    have e5 := en.symm.trans e1
    simp only [Value.slice.injEq, true_and] at e5
    have hB : W.heap.size ≤ g' := (ow.lt k.bs.bu.on (g := g') (by rw [e1]; rfl)).1
    refine ⟨g', 0, oi, ci, e5.1, Nat.lt_of_lt_of_le e2 hsz, ?_, hrow.carry (fun g hg => hk g (k.bs.bu.ap g hg.1).1 hg.2) (fun g hg => Nat.lt_of_lt_of_le (k.bs.bu.ap g hg.1).1 hsz)⟩
    rw [Nat.zero_add, World.cell?_of_block (w := w) (a := ⟨g', i, none⟩) (hk g' e2 hB), e3, e4]
    rfl
  · refine ⟨by show (L.map fun σ => σ.getD e false).length ≤ acap; exact g1, g2, fun i hi => ?_⟩
    have hi2 : i < (L.map fun σ => σ.getD e false).length := hi
    obtain ⟨g', cap', e1, e2, e3⟩ := ow.cell k.bs.bu.oa i (by simpa using hi2)
    have e5 := ea.symm.trans e1
    simp only [Value.slice.injEq, true_and] at e5
    have hB : W.heap.size ≤ g' := (ow.lt k.bs.bu.oa (g := g') (by rw [e1]; rfl)).1
    refine ⟨g', 0, e5.1, Nat.lt_of_lt_of_le e2 hsz, ?_⟩
    rw [Nat.zero_add, World.cell?_of_block (w := w) (a := ⟨g', i, none⟩) (hk g' e2 hB), e3, List.getElem_map]
    rfl
end Go.Proofs.Ytkdkibnjfgcppaa.bd

namespace Go.Proofs.Ytkdkibnjfgcppaa.bd
open Go.Sort Go.ChangeShapes Go.WideShapes Go.ChangeAt Go.RowKit Go.Maps
open df (Kp Row RowRow iv bv In IntsV Owns DAt)
open nf (Nfa Ed Rt EdAt Eds nfaV IRow)
open st (Q4 none4 Fits has nth jn sig Blk OwnSets)
set_option linter.unusedVariables false
set_option maxRecDepth 10000

def NoIs (x : Nfa) (eo : Option Addr) (ec : Nat) (W : World) : Prop := Calls Try.prog 21 #[nfaV x.n x.s x.e eo x.edges.length ec] W fun ev W' => ev = .returned (.tuple #[.agg z37, .int .i64 1]) ∧ Below W.heap.size W W'
def YesIs (x : Nfa) (n : Nat) (eo : Option Addr) (ec : Nat) (W : World) : Prop := Calls Try.prog 21 #[nfaV x.n x.s x.e eo x.edges.length ec] W fun ev W' => Below W.heap.size W W' ∧
  ((ev = .returned (.tuple #[.agg z37, .int .i64 80]) ∧ ∃ L, Nums x n L ∧ 400 < L.length) ∨ ∃ L d cs o cap ao acap, ev = .returned (.tuple #[.agg cs, .int .i64 0]) ∧ Built x n (lsOf x) L d ∧ L.length ≤ 400 ∧ DAt (In W') W' d cs o cap ao acap)
set_option maxHeartbeats 2000000 in
set_option maxRecDepth 100000 in
theorem build_no (x : Nfa) (hr : nf.right x = false) (eo : Option Addr) (ec : Nat) (W : World) (hE : Eds W eo ec x.edges) : NoIs x eo ec W := by
  have hz := zero37
  have hs := z37_size
  have hb := built37
  obtain ⟨w2, HW2⟩ : ∃ w2, Hid (w2 = (W.alloc (.cells #[.int .i64 x.n, .int .i64 x.s, .int .i64 x.e, .slice eo x.edges.length ec] 52)).alloc (.cells z37 26)) := ⟨_, rfl⟩
  have HB2 := (show Hid (Below W.heap.size W w2) from by show Below _ _ _; rw [HW2.out]; exact ((Below.refl _ _).alloc (Nat.le_refl _) _).alloc (by simp) _)
  have HR2 := (show Hid (w2.heap[W.heap.size + 1]? = some (.cells z37 26 (0, 0))) from by show _ = _; rw [HW2.out]; exact heap_alloc2_new W _ _)
  have h11 := nf.right_any x false hr.symm eo ec w2 (hE.later HB2.out)
  have HRL := (show Hid (W.heap.size + 1 < w2.heap.size) from (Array.getElem?_eq_some_iff.1 HR2.out).1)
  unfold NoIs
  clear hr hE
  go_enter Try.func21, Try.ntmps21
  go_wp2_with (first | (go_at_call 33; rw [← HW2.out]; refine h11.mono ?_; rintro ev w3 ⟨rfl, b3⟩; have HB3 := (show Hid _ from b3); clear b3) | (refine wpList_store_row (by rfl) 26 (.tmp 2) (.tmp 10) (by rfl) (W.heap.size + 1) z37 (by rfl) (by rfl) 26 z37 (by exact (HB3.out.block _ HRL.out).trans HR2.out) (df.info26 _ hs) rfl one37 ?_))
  refine ret37 Try.results21 (W.heap.size + 1) z37 1 rfl (setRow_heap _ _ _ _ _ _ ((HB3.out.block _ HRL.out).trans HR2.out)) hs rfl rfl ?_
  exact ⟨rfl, below_setRow (st.chain HB2.out HB3.out) (Nat.le_succ _) _⟩
set_option maxHeartbeats 4000000 in
set_option maxRecDepth 100000 in
theorem build_yes (x : Nfa) (n e : Nat) (R1 : Rt x n) (hr : nf.right x = true) (hfit : ∀ e ∈ x.edges, nf.Fits e) (hxe : x.e = (e : Int)) (eo : Option Addr) (ec : Nat) (W : World) (hE : Eds W eo ec x.edges) : YesIs x n eo ec W := by
  have hz := zero37
  have hs := z37_size
  have hb := built37
  obtain ⟨w2, HW2⟩ : ∃ w2, Hid (w2 = (W.alloc (.cells #[.int .i64 x.n, .int .i64 x.s, .int .i64 x.e, .slice eo x.edges.length ec] 52)).alloc (.cells z37 26)) := ⟨_, rfl⟩
  have HB2 := (show Hid (Below W.heap.size W w2) from by show Below _ _ _; rw [HW2.out]; exact ((Below.refl _ _).alloc (Nat.le_refl _) _).alloc (by simp) _)
  have HR2 := (show Hid (w2.heap[W.heap.size + 1]? = some (.cells z37 26 (0, 0))) from by show _ = _; rw [HW2.out]; exact heap_alloc2_new W _ _)
  have HX2 := (show Hid (nf.Box w2 W.heap.size x.n x.s x.e eo x.edges.length ec) from by show nf.Box _ _ _ _ _ _ _ _; rw [HW2.out]; exact heap_alloc2_old W _ _)
  have h11 := nf.right_any x true hr.symm eo ec w2 (hE.later HB2.out)
  have HRL := (show Hid (W.heap.size + 1 < w2.heap.size) from (Array.getElem?_eq_some_iff.1 HR2.out).1)
  have HNB := (show Hid (∀ w3, Below w2.heap.size w2 w3 → Calls Try.prog 34 #[nfaV x.n x.s x.e eo x.edges.length ec] w3 fun ev W' => ∃ b mb h ob fb lo lc X D, ev = .returned (.pointer (some ⟨b, 0, none⟩)) ∧ Made w3 x n e eo ec W' b mb h ob fb lo lc X D (lsOf x) (xsOf x)) from fun w3 b3 => newb_any x n e R1 hfit hxe eo ec w3 (hE.later (st.chain HB2.out b3)))
  have HBG := (show Hid (∀ w3 W' b mb h ob fb lo lc X D, Below w2.heap.size w2 w3 → Made w3 x n e eo ec W' b mb h ob fb lo lc X D (lsOf x) (xsOf x) → BegIs X X W' x n e w3.heap.size b mb h []) from fun w3 W' b mb h ob fb lo lc X D b3 k => begin_any R1 hr k.bs (by rw [k.eo, k.ec]; exact hE.later (st.chain (st.chain HB2.out b3) k.be)) k.hn k.hs k.he k.em)
  have HR1 := (show Hid (Rt x n) from R1)
  have HFIT := (show Hid (∀ e ∈ x.edges, nf.Fits e) from hfit)
  have HXE := (show Hid (x.e = (e : Int)) from hxe)
  unfold YesIs
  clear hr hE R1 hfit hxe
  go_enter Try.func21, Try.ntmps21
  go_wp2_with (first | (go_at_call 33; rw [← HW2.out]; refine h11.mono ?_; rintro ev w3 ⟨rfl, b3⟩; have HB3 := (show Hid _ from b3); have hnb := HNB.out w3 b3; have q0 := (HX2.out.later b3).c0; have q1 := (HX2.out.later b3).c1; have q2 := (HX2.out.later b3).c2; have q3 := (HX2.out.later b3).c3; clear b3) | (go_at_call 34; refine hnb.mono ?_; rintro ev w4 ⟨b, mb, h, ob, fb, lo, lc, X, D, rfl, hmd⟩; have HMD := (show Hid _ from hmd); have hbg := HBG.out w3 w4 b mb h ob fb lo lc X D HB3.out hmd; unfold BegIs at hbg; clear hmd) | (go_at_call 35; refine hbg.mono ?_; rintro ev w5 ⟨σ, X1, Y1, vs, vn, va, ss, m, D1, ⟨v, rfl⟩, hh5⟩; have HH5 := (show Hid _ from hh5); clear hh5))
  have HST := (show Hid (Lp w3 x n e (lsOf x) b mb h ob fb lo lc 0 w5 X1 Y1 [σ] [] [] vs vn va ss m D1) from by
    obtain ⟨a1, a2, a3, a4, a5⟩ := HH5.out
    have M := HMD.out
    exact ⟨a4, M.nt.carry (fun g hg => a5.kp.2 g hg) a3, a1, by simp, by simp, rfl, rws_nil _ _, fun k σ r _ h => by simp at h, M.be.trans a5.be⟩)
  have HCL := (show Hid (h.cl = (xsOf x).map fun y : Nat => Value.int .u8 (y : Int)) from HMD.out.cl)
  have HRB := (show Hid (∀ w, Below w3.heap.size w3 w → w.heap[W.heap.size + 1]? = some (.cells z37 26 (0, 0))) from fun w hw => by rw [hw.block _ (by have := HB3.out.size; have := HRL.out; omega), HB3.out.block _ HRL.out]; exact HR2.out)
  have HRS := (show Hid (W.heap.size + 1 < w3.heap.size) from by have := HB3.out.size; have := HRL.out; show _ < _; omega)
  have HBW := (show Hid (Below W.heap.size W w3) from st.chain HB2.out HB3.out)
  have HLS := (show Hid ((lsOf x).length ≤ 256) from ls_most x)
  clear HH5 HMD hnb hbg HNB HBG q0 q1 q2 q3 h11 HX2 HR2 HRL HB3 HB2 HW2
  go_loopw [5] (fun z wr => ∃ (j : Nat) (X Y : Nat → Prop) (L : List (List Bool)) (nn : List Value) (rs : List (List Int)) (vs vn va : Value) (ss : List Value) (m : Nat) (D : DataW Unit), z = .int .i64 j ∧ Hid (Lp w3 x n e (lsOf x) b mb h ob fb lo lc j wr X Y L nn rs vs vn va ss m D)) (fun z _ => 401 - (intOf z).toNat)
  case atStart => exact ⟨0, _, _, _, _, _, _, _, _, _, _, _, rfl, HST⟩
  case round =>
    obtain ⟨j, X2, Y2, L, nn, rs, vs2, vn2, va2, ss2, m2, D2, rfl, HI⟩ := hrel
    clear HST
    obtain ⟨so, sc, rfl, f1, f2⟩ := ow.form HI.out.bs.bu.os
    have c7 := HI.out.bs.bu.box.c7
    have hsl : ss2.length = L.length := by have := HI.out.bs.rs.len; simpa using this
    have hjl := HI.out.jl
    have hln := HI.out.ln
    have HSL := (show Hid (ss2.length = L.length) from hsl)
    by_cases hend : j < ss2.length
    · have hjL : j < L.length := by omega
      obtain ⟨sb, scap, e1, e2, e3⟩ := ow.cell HI.out.bs.bu.os j hend
      simp only [Value.slice.injEq, true_and] at e1
      obtain ⟨rfl, rfl⟩ := e1
      have h43 : RowIs X2 Y2 wr x n e (lsOf x) w3.heap.size b mb h nn L L[j] ss2[j] := row_any HR1.out HFIT.out (edg_at x n) (tgt_at x n) (ls_most x) (ls_byte x) HI.out.bs HI.out.nt HI.out.nm HI.out.ln (List.getElem?_eq_getElem hjL) (HI.out.bs.rs.at' j _ _ (List.getElem?_eq_getElem hend) (by rw [List.getElem?_map, List.getElem?_eq_getElem hjL]; rfl))
      have HLJ := (show Hid (L[j]? = some L[j]) from List.getElem?_eq_getElem hjL)
      generalize ss2[j] = u at *
      generalize L[j] = σ2 at *
      have HJL := (show Hid (j < L.length) from hjL)
      unfold RowIs at h43
      have j4 : j < 400 := by omega
      clear hsl hjL e2 hjl hln
      have HNX := (show Hid (∀ (w5 : World) (g : Nat) (r : List Int) (L' : List (List Bool)) (X' Y' : Nat → Prop) (vs1 vn1 va1 : Value) (ss1 : List Value) (m1 : Nat) (D1 : DataW Unit), (wr.heap.size ≤ g ∧ IRow w5 g r ∧ RowOf x n (lsOf x) L' σ2 r ∧ L <+: L' ∧ L'.length ≤ L.length + (lsOf x).length ∧ Nums x n L' ∧ (∀ k, X2 k → X' k) ∧ (∀ k, Y2 k → Y' k) ∧ X' g ∧ ¬ Y' g ∧ Bst X' Y' w5 w3.heap.size b mb h n e L' nn vs1 vn1 va1 ss1 m1 D1 ∧ Mv X2 w3.heap.size wr w5) → L'.length ≤ 400 →
        ∀ (g' cap' : Nat) (w7 : World), w7.ownsRow w3.heap.size 39 1 (.slice (some ⟨g', 0, none⟩) (nn.length + 1) cap') (nn.length + 1) (nn ++ [.slice (some ⟨g, 0, none⟩) (lsOf x).length (lsOf x).length]) → (w5.alloc (.cells #[.slice (some ⟨g, 0, none⟩) (lsOf x).length (lsOf x).length] 39)).grownBy w7 vn1.ownBlock → (some g' = vn1.ownBlock ∨ (w5.alloc (.cells #[.slice (some ⟨g, 0, none⟩) (lsOf x).length (lsOf x).length] 39)).heap.size ≤ g') →
          BBox w7 b h vs1 (.map (some mb)) vn1 va1 ∧ Lp w3 x n e (lsOf x) b mb h ob fb lo lc (j + 1) (w7.setCell ⟨b, 265, none⟩ (.slice (some ⟨g', 0, none⟩) (nn.length + 1) cap')) X' Y' L' (nn ++ [.slice (some ⟨g, 0, none⟩) (lsOf x).length (lsOf x).length]) (rs ++ [r]) vs1 (.slice (some ⟨g', 0, none⟩) (nn.length + 1) cap') va1 ss1 m1 D1) from by
        intro w5 g r L' X' Y' vs1 vn1 va1 ss1 m1 D1 hh hL4 g' cap' w7
        obtain ⟨a1, a2, a3, a4, a5, a6, a7, a8, a9, _, a11, a12⟩ := hh
        have hrl := a3.len
        rw [← hrl]
        intro ho hg hw
        have hB := HI.out.bs.bu.size
        exact HI.out.next a2 (fun σ hσ => by rw [HLJ.out] at hσ; cases hσ; exact a3) HJL.out a4 hL4 a6 a7 a8 a9 (by omega) (by have := HLS.out; omega) a11 a12 (nf.below_alloc _ _) ho hg hw)
      have HNN := (show Hid (nn.length ≤ 1000000) from by have := HI.out.rw.len; have := HI.out.rj; show _ ≤ _; omega)
      have HBI := (show Hid (Below w3.heap.size w3 wr) from HI.out.be)
      generalize (lsOf x).length = kk at *
      go_wp2_with (first | (go_at_call 36; refine h43.mono ?_; rintro ev w5 ⟨g, r, L', X', Y', vs1, vn1, va1, ss1, m1, D1, rfl, hh5⟩; obtain ⟨so1, sc1, rfl, f3, f4⟩ := ow.form hh5.2.2.2.2.2.2.2.2.2.2.1.bu.os; have HH5 := (show Hid _ from hh5); have d7 := hh5.2.2.2.2.2.2.2.2.2.2.1.bu.box.c7; have d265 := hh5.2.2.2.2.2.2.2.2.2.2.1.bu.box.c265; have HL5 := (show Hid (ss1.length = L'.length) from by have := hh5.2.2.2.2.2.2.2.2.2.2.1.rs.len; show _ = _; simpa using this); have HB5 := (show Hid (Below w3.heap.size w3 w5) from HBI.out.trans hh5.2.2.2.2.2.2.2.2.2.2.2.be); clear hh5) | (refine wpList_store_row (by rfl) 26 (.tmp 2) (.tmp 39) (by rfl) (W.heap.size + 1) z37 (by rfl) (by rfl) 26 z37 (by exact HRB.out _ HB5.out) (df.info26 _ hs) rfl one37 ?_) | (at_builtin; refine ow.wpList_append (by rfl) (.tmp 45) (.tmp 47) 23 (by rfl) 39 (.slice none 0 0) 1 24 Try.underlying23 info39 (by rfl) (by decide) (by decide) w3.heap.size vn1 nn.length nn w5.heap.size [.slice (some ⟨g, 0, none⟩) kk kk] (by rfl) (by rfl) (by exact ow.later HH5.out.2.2.2.2.2.2.2.2.2.2.1.bu.on (nf.below_alloc _ _)) (by rfl) (by exact ow.new1 w5 _ 39) (by exact ow.one1 _ rfl) (by exact HNN.out) (by rw [World.size_alloc]; have := HB5.out.size; omega) ?_; intro g' cap' w7 ho hg hw; have HO7 := (show Hid _ from ho); have HG7 := (show Hid _ from hg); have HW7 := (show Hid _ from hw); clear ho hg hw; have HL4 := (show Hid (L'.length ≤ 400) from by have := HL5.out; show _ ≤ _; omega); have z265 := (HNX.out _ _ _ _ _ _ _ _ _ _ _ _ HH5.out HL4.out _ _ _ HO7.out HG7.out HW7.out).1.c265; have y265 := (HNX.out _ _ _ _ _ _ _ _ _ _ _ _ HH5.out HL4.out _ _ _ HO7.out HG7.out HW7.out).1.fz 265; have HN7 := (show Hid _ from (HNX.out _ _ _ _ _ _ _ _ _ _ _ _ HH5.out HL4.out _ _ _ HO7.out HG7.out HW7.out).2)))
      · have h4 : 400 < L'.length := by have := HL5.out; omega
        refine ret37 Try.results21 (W.heap.size + 1) z37 80 rfl (setRow_heap _ _ _ _ _ _ (HRB.out _ HB5.out)) hs rfl rfl ?_
        exact ⟨below_setRow (st.chain HBW.out HB5.out) (Nat.le_succ _) _, .inl ⟨rfl, L', HH5.out.2.2.2.2.2.1, h4⟩⟩
      · exact ⟨⟨j + 1, _, _, _, _, _, _, _, _, _, _, _, by go_num, HN7⟩, by simp [intOf]; omega⟩
    · have hje : j = L.length := by omega
      obtain ⟨z1, z2, o, cap, ao, acap, hD⟩ := HI.out.cells HCL.out (w' := wr.setRow (W.heap.size + 1) (h.cl ++ [vn2, va2]).toArray) (fun g hg hB => setRow_other _ _ _ _ (by have := HRS.out; omega)) (by simp)
      have HBU := (show Hid (Built x n (lsOf x) L (dOf x rs L e)) from HI.out.built hje HXE.out)
      have hone : (h.cl ++ [vn2, va2]).toArray.all (·.oneCell') = true := by
        obtain ⟨_, _, en, _⟩ := ow.form HI.out.bs.bu.on
        obtain ⟨_, _, ea, _⟩ := ow.form HI.out.bs.bu.oa
        refine all_oneCell_toArray fun v hv => ?_
        rcases List.mem_append.1 hv with hv | hv
        · rw [HCL.out] at hv
          obtain ⟨y, _, rfl⟩ := List.mem_map.1 hv
          rfl
        · simp only [List.mem_cons, List.not_mem_nil, or_false] at hv
          rcases hv with rfl | rfl
          · rw [en]; rfl
          · rw [ea]; rfl
      have HD := (show Hid (DAt (In (wr.setRow (W.heap.size + 1) (h.cl ++ [vn2, va2]).toArray)) (wr.setRow (W.heap.size + 1) (h.cl ++ [vn2, va2]).toArray) (dOf x rs L e) (h.cl ++ [vn2, va2]).toArray o cap ao acap) from hD)
      have HZ := (show Hid ((h.cl ++ [vn2, va2]).length = 258) from z1)
      have HLN := (show Hid (L.length ≤ 400) from hln)
      have hb0 := HRB.out _ HI.out.be
      have HBI := (show Hid (Below w3.heap.size w3 wr) from HI.out.be)
      clear hD z1 hsl hje hln hjl HI
      generalize h.cl ++ [vn2, va2] = cs at *
      go_wp2_with (first | (refine wpList_load_mid (by rfl) 26 (.tmp 54) (by rfl) b 9 (by rfl) cs _ z2 Try.underlying26 (by rfl) (by rw [HZ.out]; kernel_rfl) ?_) | (refine wpList_store_row (by rfl) 26 (.tmp 2) (.tmp 55) (by rfl) (W.heap.size + 1) cs.toArray (by rfl) (by rfl) 26 z37 hb0 (df.info26 _ (by simpa using HZ.out)) (by rw [hs]; simpa using HZ.out.symm) hone ?_))
      refine ret37 Try.results21 (W.heap.size + 1) cs.toArray 0 rfl (setRow_heap _ _ _ _ _ _ hb0) (by simpa using HZ.out) rfl rfl ?_
      exact ⟨below_setRow (st.chain HBW.out HBI.out) (Nat.le_succ _) _, .inr ⟨L, _, _, _, _, _, _, rfl, HBU.out, HLN.out, HD.out⟩⟩
end Go.Proofs.Ytkdkibnjfgcppaa.bd

namespace Go.Proofs.Ytkdkibnjfgcppaa.st
open Go.ChangeShapes Go.WideShapes Go.ChangeAt Go.RowKit
set_option linter.unusedVariables false

def Cells (w : World) (b o : Nat) (t : Tr) (v : Value) : Prop :=
  w.cell? ⟨b, o, none⟩ = some (.int .i64 t.kind) ∧ w.cell? ⟨b, o + 1, none⟩ = some (.int .u64 t.set.a) ∧ w.cell? ⟨b, o + 2, none⟩ = some (.int .u64 t.set.b) ∧ w.cell? ⟨b, o + 3, none⟩ = some (.int .u64 t.set.c) ∧
  w.cell? ⟨b, o + 4, none⟩ = some (.int .u64 t.set.d) ∧ w.cell? ⟨b, o + 5, none⟩ = some (.int .i64 t.min) ∧ w.cell? ⟨b, o + 6, none⟩ = some (.int .i64 t.max) ∧ w.cell? ⟨b, o + 7, none⟩ = some v

inductive Is (w : World) (P : Nat → Prop) : Tr → Value → Prop
  | leaf (k : Int) (q : Q4) (mn mx : Int) (a : Option Addr) (cap : Nat) : Is w P (.node k q mn mx []) (.slice a 0 cap)
  | node (k : Int) (q : Q4) (mn mx : Int) (l : List Tr) (b off cap : Nat) (vs : Nat → Value) (hl : l.length ≤ cap) (hc : cap ≤ 9223372036854775807) (hb : b < w.heap.size) (hP : P b)
      (cells : ∀ i, i < l.length → Cells w b (off + i * 8) (nthT l i) (vs i)) (kids : ∀ i, i < l.length → Is w P (nthT l i) (vs i)) :
      Is w P (.node k q mn mx l) (.slice (some ⟨b, off, none⟩) l.length cap)

theorem cell_same {w w' : World} {b : Nat} (h : w'.heap[b]? = w.heap[b]?) (o : Nat) : w'.cell? ⟨b, o, none⟩ = w.cell? ⟨b, o, none⟩ := by
  unfold World.cell?
  simp only [h]

theorem Cells.same {w w' : World} {b o : Nat} {t : Tr} {v : Value} (h : Cells w b o t v) (e : w'.heap[b]? = w.heap[b]?) : Cells w' b o t v := by
  unfold Cells at h ⊢
  simp only [cell_same e]
  exact h

theorem Is.carry {w w' : World} {P P' : Nat → Prop} {t : Tr} {v : Value} (h : Is w P t v) (hs : w.heap.size ≤ w'.heap.size) (hP : ∀ b, P b → b < w.heap.size → P' b) (e : ∀ b, P b → b < w.heap.size → w'.heap[b]? = w.heap[b]?) : Is w' P' t v := by
  induction h with
  | leaf k q mn mx a cap => exact .leaf k q mn mx a cap
  | node k q mn mx l b off cap vs hl hc hb hPb cells kids ih =>
    exact .node k q mn mx l b off cap vs hl hc (Nat.lt_of_lt_of_le hb hs) (hP b hPb hb) (fun i hi => (cells i hi).same (e b hPb hb)) (fun i hi => ih i hi)

theorem Is.later {w w' : World} {P : Nat → Prop} {t : Tr} {v : Value} (h : Is w P t v) (hb : Below w.heap.size w w') : Is w' P t v :=
  h.carry hb.size (fun _ p _ => p) (fun b _ hlt => hb.block b hlt)
theorem Is.grown {w w' : World} {g : Nat} {t : Tr} {v : Value} (h : Is w (· ≠ g) t v) (hb : w.grownBy w' (some g)) : Is w' (· ≠ g) t v :=
  h.carry hb.size (fun _ p _ => p) (fun b p hlt => hb.block b hlt (fun e => p (Option.some.inj e)))

theorem touch_refl (w : World) (row : Option Nat) : w.grownBy w row := ⟨rfl, rfl, rfl, Nat.le_refl _, fun _ _ _ => rfl⟩
theorem touch_trans {w w1 w2 : World} {row : Option Nat} (h1 : w.grownBy w1 row) (h2 : w1.grownBy w2 row) : w.grownBy w2 row :=
  ⟨h2.os.trans h1.os, h2.tape.trans h1.tape, h2.output.trans h1.output, Nat.le_trans h1.size h2.size, fun k hk hne => (h2.block k (Nat.lt_of_lt_of_le hk h1.size) hne).trans (h1.block k hk hne)⟩
theorem touch_below {w w1 : World} (row : Option Nat) (h : Below w.heap.size w w1) : w.grownBy w1 row := ⟨h.os, h.tape, h.output, h.size, fun k hk _ => h.block k hk⟩
theorem touch_cell (w : World) (g i : Nat) (x : Value) : w.grownBy (w.setCell ⟨g, i, none⟩ x) (some g) :=
  ⟨rfl, rfl, rfl, by simp, fun k _ hne => Below.heap_setCell _ _ _ _ (fun e => hne (congrArg some e))⟩
theorem touch_drewT {w w1 : World} {row : Option Nat} (h : w.grownBy w1 row) : w.grownBy w1.drew row := ⟨h.os, h.tape, h.output, h.size, h.block⟩
theorem touch_alloc {w w1 : World} {row : Option Nat} (h : w.grownBy w1 row) (o : Obj) : w.grownBy (w1.alloc o) row :=
  touch_trans h (touch_below _ ((Below.refl _ _).alloc (Nat.le_refl _) o))
theorem set_heap1 (w : World) (g : Nat) (cs : Array Value) (T : TypeId) (i : Nat) (x : Value) (h : w.heap[g]? = some (.cells cs T (0, 0))) : (w.setCell ⟨g, i, none⟩ x).heap[g]? = some (.cells (cs.setIfInBounds i x) T (0, 0)) := by
  show (w.heap.modify g _)[g]? = _
  rw [Array.getElem?_modify, if_pos rfl, h]
  rfl

/-- one form for an empty list of kids and any other -/
theorem Is.form {w : World} {P : Nat → Prop} {t : Tr} {v : Value} (h : Is w P t v) : ∃ (o : Option Addr) (cap b off : Nat) (vs : Nat → Value), v = .slice o t.kids.length cap ∧ t.kids.length ≤ cap ∧ 
    ∀ i, i < t.kids.length → o = some ⟨b, off, none⟩ ∧ cap ≤ 9223372036854775807 ∧ b < w.heap.size ∧ P b ∧ Cells w b (off + i * 8) (nthT t.kids i) (vs i) ∧ Is w P (nthT t.kids i) (vs i) := by
  cases h with
  | leaf k q mn mx a cap => exact ⟨a, cap, 0, 0, fun _ => .nilIface, rfl, Nat.zero_le _, fun i hi => absurd hi (Nat.not_lt_zero _)⟩
  | node k q mn mx l b off cap vs hl hc hb hP cells kids => exact ⟨_, cap, b, off, vs, rfl, hl, fun i hi => ⟨rfl, hc, hb, hP, cells i hi, kids i hi⟩⟩

theorem Is.shape {w : World} {P : Nat → Prop} {t : Tr} {v : Value} (h : Is w P t v) : ∃ (o : Option Addr) (n cap : Nat), v = .slice o n cap := by
  cases h with
  | leaf k q mn mx a cap => exact ⟨_, _, _, rfl⟩
  | node k q mn mx l b off cap vs hl hc hb hP cells kids => exact ⟨_, _, _, rfl⟩

/-- a block of one number -/
def One (w : World) (g : Nat) (n : Int) : Prop := w.heap[g]? = some (.cells #[.int .i64 n] 3 (0, 0))
theorem One.lt {w : World} {g : Nat} {n : Int} (h : One w g n) : g < w.heap.size := (Array.getElem?_eq_some_iff.1 h).1
theorem One.c {w : World} {g : Nat} {n : Int} (h : One w g n) : w.cell? ⟨g, 0, none⟩ = some (.int .i64 n) := by rw [Lib.cell_of_heap h]; rfl
theorem One.fz {w : World} {g : Nat} {n : Int} (h : One w g n) : w.frozen? ⟨g, 0, none⟩ = false := Lib.frozen_of_heap h 0
theorem One.below {w w' : World} {g : Nat} {n : Int} (h : One w g n) (b : Below w.heap.size w w') : One w' g n := by unfold One; rw [b.block g h.lt]; exact h
theorem One.set {w : World} {g : Nat} {n : Int} (h : One w g n) (m : Int) : One (w.setCell ⟨g, 0, none⟩ (.int .i64 m)) g m := set_heap1 w g _ _ 0 _ h
end Go.Proofs.Ytkdkibnjfgcppaa.st

namespace Go.Proofs.Ytkdkibnjfgcppaa.nb
open Go.ChangeShapes Go.WideShapes Go.ChangeAt Go.RowKit
open st (Tr Q4 nodesOf goods okNode Is)
open nf (Ed)
set_option linter.unusedVariables false
set_option maxRecDepth 100000

def edC (e : Ed) : List Value := [.int .i64 e.fr, .int .i64 e.to, .bool e.free, .int .u64 (e.a : Int), .int .u64 (e.b : Int), .int .u64 (e.c : Int), .int .u64 (e.d : Int)]
def edsC (l : List Ed) : List Value := l.flatMap edC
theorem edsC_snoc (l : List Ed) (e : Ed) : edsC (l ++ [e]) = edsC l ++ edC e := by simp [edsC]
/-- the builder's cell, and the edges that it owns -/
structure Bx (w : World) (B g : Nat) (x : St) (v : Value) : Prop where
  bg : B ≤ g
  blk : w.heap[g]? = some (.cells #[.int .i64 (x.n : Int), .int .i64 0, .int .i64 1, v] 69 (0, 0))
  own : w.ownsRow B 105 7 v x.es.length (edsC x.es)
/-- what laying changes: the builder's cell and its row -/
structure Mv (g : Nat) (v v' : Value) (W W' : World) : Prop where
  os : W'.os = W.os
  tape : W'.tape = W.tape
  output : W'.output = W.output
  size : W.heap.size ≤ W'.heap.size
  block : ∀ j, j < W.heap.size → j ≠ g → some j ≠ v.ownBlock → W'.heap[j]? = W.heap[j]?
  own : ∀ k, v'.ownBlock = some k → v.ownBlock = some k ∨ W.heap.size ≤ k
theorem Mv.refl (g : Nat) (v : Value) (W : World) : Mv g v v W W := ⟨rfl, rfl, rfl, Nat.le_refl _, fun _ _ _ _ => rfl, fun k h => .inl h⟩
theorem Mv.trans {g : Nat} {u v x : Value} {A B C : World} (h : Mv g u v A B) (k : Mv g v x B C) : Mv g u x A C :=
  ⟨k.os.trans h.os, k.tape.trans h.tape, k.output.trans h.output, Nat.le_trans h.size k.size, fun j h1 h2 h3 => by
    rw [← h.block j h1 h2 h3]
    refine k.block j (Nat.lt_of_lt_of_le h1 h.size) h2 fun e => ?_
    rcases h.own j e.symm with e2 | e2
    · exact h3 e2.symm
    · omega, fun j e => by
    rcases k.own j e with e2 | e2
    · exact h.own j e2
    · exact .inr (Nat.le_trans h.size e2)⟩
theorem Mv.of {g : Nat} {v : Value} {W W' : World} (b : Below W.heap.size W W') : Mv g v v W W' := ⟨b.os, b.tape, b.output, b.size, fun j h _ _ => b.block j h, fun k h => .inl h⟩
section
variable {w w' : World} {B g : Nat} {x : St} {v : Value}
theorem Bx.lt (h : Bx w B g x v) : g < w.heap.size := (Array.getElem?_eq_some_iff.1 h.blk).1
theorem Bx.c0 (h : Bx w B g x v) : w.cell? ⟨g, 0, none⟩ = some (.int .i64 (x.n : Int)) := by rw [Lib.cell_of_heap h.blk]; rfl
theorem Bx.c3 (h : Bx w B g x v) : w.cell? ⟨g, 3, none⟩ = some v := by rw [Lib.cell_of_heap h.blk]; rfl
theorem Bx.fz (h : Bx w B g x v) (i : Nat) : w.frozen? ⟨g, i, none⟩ = false := Lib.frozen_of_heap h.blk i
theorem Bx.ne (h : Bx w B g x v) : some g ≠ v.ownBlock := ow.type h.own h.blk (by decide)
theorem Bx.later (h : Bx w B g x v) (b : Below w.heap.size w w') : Bx w' B g x v := ⟨h.bg, (b.block g h.lt).trans h.blk, ow.later h.own b⟩
theorem Bx.form (h : Bx w B g x v) : ∃ o cap, v = .slice o x.es.length cap ∧ cap ≤ 9223372036854775807 := by
  obtain ⟨o, cap, e, _, h2⟩ := ow.form h.own
  exact ⟨o, cap, e, h2⟩
end
def FullIs (x : St) : Prop := ∀ B g v w, Bx w B g x v → Calls Try.prog 32 #[.pointer (some ⟨g, 0, none⟩)] w fun e w' => e = .returned (.bool x.full) ∧ w' = w
theorem full_any (x : St) (hn : x.n ≤ 1000000) (he : x.es.length ≤ 1000000) : FullIs x := by
  intro B g v w h
  have c0 := h.c0
  have c3 := h.c3
  obtain ⟨o, cap, rfl, _⟩ := h.form
  obtain ⟨n, es⟩ := x
  simp only at c0 c3 hn he
  have HE := (show Hid (St.full ⟨n, es⟩ = (decide (2000 < n) || decide (16000 < es.length))) from rfl)
  clear h
  generalize es.length = m at *
  by_cases h1 : 2000 < n
  · have HF := (show Hid (St.full ⟨n, es⟩ = true) from by show _ = _; rw [HE.out]; simp [h1])
    clear HE
    go_enter Try.func32, Try.ntmps32
    go_wp2
    go_ret
    exact ⟨by rw [HF.out]; rfl, rfl⟩
  · have HF := (show Hid (St.full ⟨n, es⟩ = (decide ((2000 : Int) < (n : Int)) || decide ((16000 : Int) < (m : Int)))) from by show _ = _; rw [HE.out]; congr 1 <;> (apply decide_eq_decide.2; omega))
    clear HE
    go_enter Try.func32, Try.ntmps32
    go_wp2
    go_ret
    exact ⟨by rw [HF.out]; rfl, rfl⟩
def StateIs (x : St) : Prop := ∀ B g v w, Bx w B g x v → Calls Try.prog 66 #[.pointer (some ⟨g, 0, none⟩)] w fun e w' => e = .returned (.int .i64 (x.n : Int)) ∧ Bx w' B g x.new v ∧ Mv g v v w w'
theorem state_any (x : St) (hn : x.n ≤ 1000000) : StateIs x := by
  intro B g v w h
  have c0 := h.c0
  have f0 := h.fz 0
  have c1 : (w.setCell ⟨g, 0, none⟩ (.int .i64 ((x.n : Int) + 1))).cell? ⟨g, 0, none⟩ = some (.int .i64 ((x.n : Int) + 1)) := by
    rw [Lib.cell_of_heap (st.set_heap1 w g _ _ 0 _ h.blk)]; rfl
  have HX := (show Hid (Bx (w.setCell ⟨g, 0, none⟩ (.int .i64 ((x.n : Int) + 1))) B g x.new v) from ⟨h.bg, by rw [st.set_heap1 w g _ _ 0 _ h.blk]; rfl, ow.keep h.own fun k hk => Below.heap_setCell _ _ _ k (fun e => h.ne (by have e' : k = g := e; rw [← e']; exact hk.symm))⟩)
  have HM := (show Hid (Mv g v v w (w.setCell ⟨g, 0, none⟩ (.int .i64 ((x.n : Int) + 1)))) from ⟨rfl, rfl, rfl, by simp, fun j _ h2 _ => Below.heap_setCell _ _ _ j (fun e => h2 e), fun k h => .inl h⟩)
  clear h
  go_enter Try.func66, Try.ntmps66
  go_wp2
  go_ret
  exact ⟨by go_num, HX.out, HM.out⟩
theorem info105 : (Try.prog.info? 105).map (fun i => (i.zero, i.size, i.bytes)) = some (some (.agg #[.int .i64 0, .int .i64 0, .bool false, .int .u64 0, .int .u64 0, .int .u64 0, .int .u64 0]), 7, 56) := by kernel_rfl
theorem new7 (W : World) (e : Ed) : ∀ j u, (edC e)[j]? = some u → (W.alloc (.cells (edC e).toArray 105)).cell? ((⟨W.heap.size, 0, none⟩ : Addr).add j) = some u := fun j u hu => by
  have : ((⟨W.heap.size, 0, none⟩ : Addr).add j) = ⟨W.heap.size, 0 + j, none⟩ := by simp [Addr.add]; omega
  rw [this, Nat.zero_add, Lib.cell_of_heap (World.alloc_heap_new W _)]
  simpa using hu
theorem one7 (e : Ed) : ∀ u ∈ edC e, u.oneCell' = true := fun u hu => by
  simp [edC] at hu
  rcases hu with rfl | rfl | rfl | rfl | rfl | rfl | rfl <;> rfl
/-- an edge more -/
theorem Bx.put {w w2 w3 : World} {B g : Nat} {x : St} {v : Value} (h : Bx w B g x v) (c : Below w.heap.size w w2) (e : Ed) {g' cap' : Nat} (ho : w3.ownsRow B 105 7 (.slice (some ⟨g', 0, none⟩) (x.es.length + 1) cap') (x.es.length + 1) (edsC x.es ++ edC e)) (hg : w2.grownBy w3 v.ownBlock) (hw : some g' = v.ownBlock ∨ w2.heap.size ≤ g') :
    (w3.cell? ⟨g, 3, none⟩ = some v ∧ w3.frozen? ⟨g, 3, none⟩ = false) ∧ Bx (w3.setCell ⟨g, 3, none⟩ (.slice (some ⟨g', 0, none⟩) (x.es.length + 1) cap')) B g ⟨x.n, x.es ++ [e]⟩ (.slice (some ⟨g', 0, none⟩) (x.es.length + 1) cap') ∧ Mv g v (.slice (some ⟨g', 0, none⟩) (x.es.length + 1) cap') w (w3.setCell ⟨g, 3, none⟩ (.slice (some ⟨g', 0, none⟩) (x.es.length + 1) cap')) := by
  have b3 : w3.heap[g]? = some (.cells #[.int .i64 (x.n : Int), .int .i64 0, .int .i64 1, v] 69 (0, 0)) := (hg.block g (Nat.lt_of_lt_of_le h.lt c.size) h.ne).trans ((c.block g h.lt).trans h.blk)
  have nb : some g ≠ (Value.slice (some ⟨g', 0, none⟩) (x.es.length + 1) cap').ownBlock := ow.type ho b3 (by decide)
  refine ⟨⟨by rw [Lib.cell_of_heap b3]; rfl, Lib.frozen_of_heap b3 3⟩, ⟨h.bg, by rw [st.set_heap1 w3 g _ _ 3 _ b3]; rfl, ?_⟩, ⟨hg.os.trans c.os, hg.tape.trans c.tape, hg.output.trans c.output, by have := c.size; have := hg.size; simp; omega, fun j h1 h2 h3 => ?_, fun k e2 => ?_⟩⟩
  · rw [edsC_snoc, List.length_append]
    exact ow.keep ho fun k hk => Below.heap_setCell _ _ _ k (fun e2 => nb (by have e' : k = g := e2; rw [← e']; exact hk.symm))
  · rw [Below.heap_setCell _ _ _ j (fun e2 => h2 e2), hg.block j (Nat.lt_of_lt_of_le h1 c.size) h3, c.block j h1]
  · have e3 : g' = k := by simpa [Value.ownBlock] using e2
    subst e3
    rcases hw with e4 | e4
    · exact .inl e4.symm
    · exact .inr (Nat.le_trans c.size e4)
def FreeIs (x : St) (f t : Nat) : Prop := ∀ B g v w, Bx w B g x v → B ≤ w.heap.size → Calls Try.prog 48 #[.pointer (some ⟨g, 0, none⟩), .int .i64 (f : Int), .int .i64 (t : Int)] w fun e w' => e = .returned (.tuple #[]) ∧ ∃ v', Bx w' B g (x.free f t) v' ∧ Mv g v v' w w'
theorem free_any (x : St) (f t : Nat) (he : x.es.length ≤ 1000000) : FreeIs x f t := by
  intro B g v w h hB
  have c3 := h.c3
  go_enter Try.func48, Try.ntmps48
  go_wp2_with (at_builtin; refine ow.wpList_append rfl _ _ 50 rfl 105 _ 7 56 Try.underlying50 info105 rfl (by decide) (by decide) B v x.es.length (edsC x.es) w.heap.size (edC ⟨f, t, true, 0, 0, 0, 0⟩) rfl rfl (ow.later h.own ((Below.refl _ _).alloc (Nat.le_refl _) _)) rfl (new7 w _) (one7 _) he (by simp; omega) ?_; intro g' cap' w3 ho hg hw; obtain ⟨⟨k1, k2⟩, k3, k4⟩ := h.put ((Below.refl _ _).alloc (Nat.le_refl _) _) ⟨f, t, true, 0, 0, 0, 0⟩ ho hg hw)
  go_end0
  exact ⟨rfl, _, k3, k4⟩
end Go.Proofs.Ytkdkibnjfgcppaa.nb

namespace Go.Proofs.Ytkdkibnjfgcppaa.nb
open Go.ChangeShapes Go.WideShapes Go.ChangeAt Go.RowKit
open st (Tr Q4 nodesOf goods okNode Is)
open nf (Ed)
set_option linter.unusedVariables false
set_option maxRecDepth 100000

def OverIs (x : St) (q : Q4) (f t : Nat) : Prop := ∀ B g v w, Bx w B g x v → B ≤ w.heap.size → Calls Try.prog 47 #[.pointer (some ⟨g, 0, none⟩), .agg #[.int .u64 (q.a : Int), .int .u64 (q.b : Int), .int .u64 (q.c : Int), .int .u64 (q.d : Int)], .int .i64 (f : Int), .int .i64 (t : Int)] w fun e w' => e = .returned (.tuple #[]) ∧ ∃ v', Bx w' B g (x.over q f t) v' ∧ Mv g v v' w w'
set_option maxHeartbeats 1000000 in
theorem over_any (x : St) (q : Q4) (f t : Nat) (he : x.es.length ≤ 1000000) : OverIs x q f t := by
  intro B g v w h hB
  obtain ⟨w1, hw1⟩ : ∃ w1, w1 = w.alloc (.cells #[.int .u64 (q.a : Int), .int .u64 (q.b : Int), .int .u64 (q.c : Int), .int .u64 (q.d : Int)] 45) := ⟨_, rfl⟩
  have hb1 : Below w.heap.size w w1 := by rw [hw1]; exact (Below.refl _ _).alloc (Nat.le_refl _) _
  have HX := (show Hid (Bx w1 B g x v) from h.later hb1)
  have c3 := HX.out.c3
  have hB1 : B ≤ w1.heap.size := Nat.le_trans hB hb1.size
  have b5 : w1.heap[w.heap.size]? = some (.cells #[.int .u64 (q.a : Int), .int .u64 (q.b : Int), .int .u64 (q.c : Int), .int .u64 (q.d : Int)] 45 (0, 0)) := by rw [hw1]; exact heap_alloc_new w _
  have d0 : w1.cell? ⟨w.heap.size, 0, none⟩ = some (.int .u64 (q.a : Int)) := by rw [Lib.cell_of_heap b5]; rfl
  have d1 : w1.cell? ⟨w.heap.size, 1, none⟩ = some (.int .u64 (q.b : Int)) := by rw [Lib.cell_of_heap b5]; rfl
  have d2 : w1.cell? ⟨w.heap.size, 2, none⟩ = some (.int .u64 (q.c : Int)) := by rw [Lib.cell_of_heap b5]; rfl
  have d3 : w1.cell? ⟨w.heap.size, 3, none⟩ = some (.int .u64 (q.d : Int)) := by rw [Lib.cell_of_heap b5]; rfl
  have HM := (show Hid (Mv g v v w w1) from Mv.of hb1)
  clear h hb1 b5
  go_enter Try.func47, Try.ntmps47
  go_wp2_with (fail)
  rw [← hw1]
  clear hw1
  have c3' := (HX.out.later ((Below.refl _ _).alloc (Nat.le_refl _) (.cells #[.int .i64 (f : Int), .int .i64 (t : Int), .bool false, .int .u64 (q.a : Int), .int .u64 (q.b : Int), .int .u64 (q.c : Int), .int .u64 (q.d : Int)] 105))).c3
  go_region_law (first | (refine ow.step_append (by rfl) (.tmp 13) (.tmp 18) 50 (by rfl) 105 _ 7 56 Try.underlying50 info105 rfl (by decide) (by decide) B v x.es.length (edsC x.es) w1.heap.size (edC ⟨f, t, false, q.a, q.b, q.c, q.d⟩) (by rfl) (by rfl) (ow.later HX.out.own (Below.drew ((Below.refl _ _).alloc (Nat.le_refl _) _))) rfl (new7 w1 _) (one7 _) he (by simp; omega) ?_; intro g' cap' w3 ho hg hw; obtain ⟨⟨k1, k2⟩, k3, k4⟩ := HX.out.put (Below.drew ((Below.refl _ _).alloc (Nat.le_refl _) _)) ⟨f, t, false, q.a, q.b, q.c, q.d⟩ ho hg hw))
  all_goals
    go_end0
    exact ⟨rfl, _, k3, HM.out.trans k4⟩
end Go.Proofs.Ytkdkibnjfgcppaa.nb

namespace Go.Proofs.Ytkdkibnjfgcppaa.st
open Go.ChangeShapes Go.WideShapes Go.ChangeAt Go.RowKit
set_option linter.unusedVariables false

def FitsIs (t : Tr) (lv n : Nat) (r : Bool) (m : Nat) : Prop := ∀ g v w, Is w (· ≠ g) t v → One w g n → Calls Try.prog 45 #[.agg #[.int .i64 t.kind, .int .u64 t.set.a, .int .u64 t.set.b, .int .u64 t.set.c, .int .u64 t.set.d, .int .i64 t.min, .int .i64 t.max, v], .int .i64 lv, .pointer (some ⟨g, 0, none⟩)] w fun e w' =>
  e = .returned (.bool r) ∧ (r = true → One w' g (m : Int)) ∧ w.grownBy w' (some g)

theorem below_alloc (w : World) (o : Obj) : Below w.heap.size w (w.alloc o) := (Below.refl _ _).alloc (Nat.le_refl _) o

theorem fits_none_left (t : Tr) (n m : Nat) : FitsIs t 0 n false m := by
  intro g v w hi ho
  clear hi
  generalize t.kind = k at *
  generalize t.set = q at *
  generalize t.min = mn at *
  generalize t.max = mx at *
  go_enter Try.func45, Try.ntmps45
  go_wp2
  go_ret
  exact ⟨rfl, fun h => (by cases h), touch_alloc (touch_refl _ _) _⟩
theorem fits_no_nodes (t : Tr) (lv m : Nat) (hlv : lv ≠ 0) : FitsIs t lv 0 false m := by
  intro g v w hi ho
  have hne : ((lv : Int) == 0) = false := by rw [beq_eq_false_iff_ne]; omega
  clear hi
  generalize t.kind = k at *
  generalize t.set = q at *
  generalize t.min = mn at *
  generalize t.max = mx at *
  have c0 := ho.c
  have c1 : ∀ o, (w.alloc o).cell? ⟨g, 0, none⟩ = some (.int .i64 0) := fun o => (cell_same ((below_alloc w o).block g ho.lt) 0).trans (by simpa using c0)
  clear c0 ho
  go_enter Try.func45, Try.ntmps45
  go_wp2
  go_ret
  exact ⟨rfl, fun h => (by cases h), touch_alloc (touch_refl _ _) _⟩

set_option maxHeartbeats 1000000 in
set_option maxRecDepth 100000 in
theorem fits_step (d : Nat) (ih : ∀ (t : Tr) (lv n : Nat) (r : Bool) (m : Nat), t.depth ≤ d → lv ≤ 9223372036854775807 → n ≤ 9223372036854775807 → r = (decide (t.depth ≤ lv) && decide (t.nodes ≤ n)) → m = n - t.nodes → FitsIs t lv n r m)
    (t : Tr) (L N lv n : Nat) (r : Bool) (M : Nat) (hd : t.depth ≤ d + 1) (hL : L ≤ 9223372036854775807) (hN : N ≤ 9223372036854775807) (eL : L = lv + 1) (eN : N = n + 1) (hr : r = (decide (t.depth ≤ L) && decide (t.nodes ≤ N))) (hM : M = N - t.nodes) : FitsIs t L N r M := by
  intro g v w hi ho
  obtain ⟨o, cap, b, off, vs, rfl, hcap, hk⟩ := hi.form
  have hDe := t.depth_eq
  have hNe := t.nodes_eq
  have HK : Hid (∀ i, i < t.kids.length → (nthT t.kids i).depth ≤ d) := fun i hi => by have := depth_nth t.kids i hi; omega
  have c0 := ho.c
  have hlt := ho.lt
  have f0 := ho.fz
  have c1 : ∀ o, (w.alloc o).cell? ⟨g, 0, none⟩ = some (.int .i64 N) := fun o => (cell_same ((below_alloc w o).block g hlt) 0).trans c0
  have f1 : ∀ o, (w.alloc o).frozen? ⟨g, 0, none⟩ = false := fun o => (ho.below (below_alloc w o)).fz
  have HR : Hid (r = (decide (depths t.kids ≤ lv) && decide (nodesOf t.kids ≤ n)) ∧ M = n - nodesOf t.kids) := by
    refine ⟨?_, by omega⟩
    rw [hr, hDe, hNe, eL, eN]; simp only [Nat.add_le_add_iff_right]
  have hne1 : ((L : Int) == 0) = false := by rw [beq_eq_false_iff_ne]; omega
  have hne2 : ((N : Int) == 0) = false := by rw [beq_eq_false_iff_ne]; omega
  have hs1 : (N : Int) - 1 = (n : Int) := by omega
  have hs2 : (L : Int) - 1 = (lv : Int) := by omega
  have hlv : lv ≤ 9223372036854775807 := by omega
  have hn : n ≤ 9223372036854775807 := by omega
  have hll : t.kids.length ≤ 9223372036854775807 := by
    by_cases h0 : 0 < t.kids.length
    · have := (hk 0 h0).2.1; omega
    · omega
  clear hDe hNe hd hi eL eN hr hM
  generalize t.kind = k at *
  generalize t.set = q at *
  generalize t.min = mn at *
  generalize t.max = mx at *
  generalize t.kids = l at *
  go_enter Try.func45, Try.ntmps45
  go_wp2
  go_loopw [25] (fun x wr => ∃ (i m : Nat), x = .int .i64 i ∧ i ≤ l.length ∧ One wr g (m : Int) ∧ w.grownBy wr (some g) ∧ w.heap.size + 1 ≤ wr.heap.size ∧ Hid (depths (l.take i) ≤ lv ∧ m + nodesOf (l.take i) = n)) (fun x _ => l.length - (intOf x).toNat)
  case atStart => exact ⟨0, n, rfl, by omega, (ho.set n).below (below_alloc _ _), touch_alloc (touch_cell _ _ _ _) _, by simp, by show _ ∧ _; simp [depths, nodesOf]⟩
  case round =>
    obtain ⟨i, m, rfl, hil, hone, hT, hsz, HI⟩ := hrel
    by_cases hend : i < l.length
    · obtain ⟨rfl, hcm, hb, hne, hcells, hkid⟩ := hk i hend
      have hcells2 := hcells.same (hT.block b hb (fun e => hne (Option.some.inj e)))
      have hkid2 := hkid.grown hT
      obtain ⟨k0, k1, k2, k3, k4, k5, k6, k7⟩ := hcells2
      obtain ⟨o2, n2, cap2, hv2⟩ := hkid2.shape
      rw [hv2] at k7 hkid2
      clear hcells hkid hk hv2
      by_cases hyes : (nthT l i).depth ≤ lv ∧ (nthT l i).nodes ≤ m
      · have hcall := ih (nthT l i) lv m true (m - (nthT l i).nodes) (HK.out i hend) hlv (by have := HI.out.2; omega) (by simp [hyes]) rfl
        have HJ : Hid (depths (l.take (i + 1)) ≤ lv ∧ m - (nthT l i).nodes + nodesOf (l.take (i + 1)) = n) := by
          refine ⟨?_, ?_⟩
          · rw [depths_take l i hend]; have := HI.out.1; omega
          · rw [nodesOf_take l i hend]; have := HI.out.2; omega
        clear hyes
        generalize nthT l i = x at *
        go_wp2_with (go_at_call 45; refine (hcall _ _ _ (hkid2.later (below_alloc _ _)) (hone.below (below_alloc _ _))).mono ?_; rintro e w1 ⟨rfl, h1, t1⟩)
        go_roundw
        case rel => exact ⟨i + 1, _, by go_num, by omega, h1 trivial, touch_trans (touch_alloc hT _) t1, by have := t1.size; simp at this; omega, HJ⟩
        case measure => simp [intOf]; omega
      · have hcall := ih (nthT l i) lv m false (m - (nthT l i).nodes) (HK.out i hend) hlv (by have := HI.out.2; omega) (by symm; simp; omega) rfl
        have HF : Hid (r = false) := by
          have h1 := depth_nth l i hend
          have h2 := nodes_nth l i hend
          have h3 := HI.out.2
          show _ = _
          rw [HR.out.1]; simp; omega
        clear hyes
        generalize nthT l i = x at *
        go_wp2_with (go_at_call 45; refine (hcall _ _ _ (hkid2.later (below_alloc _ _)) (hone.below (below_alloc _ _))).mono ?_; rintro e w1 ⟨rfl, h1, t1⟩)
        go_ret
        exact ⟨by rw [HF.out]; rfl, fun h => absurd h (by rw [HF.out]; decide), touch_trans (touch_alloc hT _) t1⟩
    · have HF : Hid (r = true ∧ M = m) := by
        have h := HI.out
        rw [List.take_of_length_le (by omega)] at h
        refine ⟨?_, ?_⟩
        · rw [HR.out.1]; simp; omega
        · rw [HR.out.2]; omega
      go_wp2
      go_ret
      exact ⟨by rw [HF.out.1]; rfl, fun _ => by rw [HF.out.2]; exact hone, hT⟩

theorem fits_any (d : Nat) : ∀ (t : Tr) (lv n : Nat) (r : Bool) (m : Nat), t.depth ≤ d → lv ≤ 9223372036854775807 → n ≤ 9223372036854775807 → r = (decide (t.depth ≤ lv) && decide (t.nodes ≤ n)) → m = n - t.nodes → FitsIs t lv n r m := by
  induction d with
  | zero => intro t lv n r m hd; have := t.depth_eq; omega
  | succ d ih =>
    intro t lv n r m hd hlv hn hr hm
    have hDe := t.depth_eq
    have hNe := t.nodes_eq
    match lv, n, hr with
    | 0, n, hr =>
      have e : r = false := by rw [hr]; simp; omega
      rw [e]; exact fits_none_left t n m
    | lv + 1, 0, hr =>
      have e : r = false := by rw [hr]; simp; omega
      rw [e]; exact fits_no_nodes t (lv + 1) m (by omega)
    | lv + 1, n + 1, hr => exact fits_step d ih t _ _ lv n r m hd hlv hn rfl rfl hr hm
end Go.Proofs.Ytkdkibnjfgcppaa.st

namespace Go.Proofs.Ytkdkibnjfgcppaa.st
open Go.ChangeShapes Go.WideShapes Go.ChangeAt Go.RowKit
set_option linter.unusedVariables false

theorem info42 : (Try.prog.info? 42).map (fun i => (i.zero, i.size, i.bytes)) = some (some (.int .u64 0), 1, 8) := by kernel_rfl
theorem eq23 (a b c d a' b' c' d' : Int) (W : World) : (Op.equalIn 9999 43 (.agg #[.int .u64 a, .int .u64 b, .int .u64 c, .int .u64 d]) (.agg #[.int .u64 a', .int .u64 b', .int .u64 c', .int .u64 d'])).run Try.prog W = .ok (a == a' && (b == b' && (c == c' && d == d'))) W := by
  obtain ⟨i, hi, _, _, _⟩ := info_parts info42
  have c22 : Try.prog.cellsOf 42 = 1 := by kernel_rfl
  have r4 : List.range 4 = [0, 1, 2, 3] := rfl
  have he : ∀ x y : Int, (Op.equalIn 9998 42 (.int .u64 x) (.int .u64 y)).run Try.prog W = .ok (x == y) W := fun x y => by
    rw [run_equalIn_int W 9997 42 .u64 .u64 x y Try.underlying42]
  rw [run_equalIn_array W 9998 _ _ Try.underlying43 hi, c22, r4]
  simp only [Op.eqItems, part]
  cases h1 : (a == a') <;> cases h2 : (b == b') <;> cases h3 : (c == c') <;> cases h4 : (d == d') <;> simp [he, h1, h2, h3, h4]
theorem noSet_is (q : Q4) : ((q.a : Int) == 0 && ((q.b : Int) == 0 && ((q.c : Int) == 0 && (q.d : Int) == 0))) = noSet q := by
  unfold noSet
  have h : ∀ x : Nat, ((x : Int) == 0) = decide (x = 0) := fun x => by
    by_cases hx : x = 0
    · subst hx; rfl
    · rw [decide_eq_false hx, beq_eq_false_iff_ne]; omega
  rw [h, h, h, h, Bool.and_assoc, Bool.and_assoc]

def OnceIs (a b : Int) (r : Bool) : Prop := ∀ w, Calls Try.prog 91 #[.int .i64 a, .int .i64 b] w fun e w' => e = .returned (.bool r) ∧ w' = w
theorem once_any (a b : Int) (r : Bool) (hr : r = (decide (a = 1) && decide (b = 1))) : OnceIs a b r := by
  intro w
  have HR : Hid (r = (decide (a = 1) && decide (b = 1))) := hr
  clear hr
  by_cases h1 : a = 1 <;> by_cases h2 : b = 1
  all_goals
    go_enter Try.func91, Try.ntmps91
    go_wp2
    go_ret
    refine ⟨?_, rfl⟩
    rw [HR.out]
    simp [*]

def TimesIs (a b : Int) (r : Bool) : Prop := ∀ w, Calls Try.prog 83 #[.int .i64 a, .int .i64 b] w fun e w' => e = .returned (.bool r) ∧ w' = w
theorem times_any (a b : Int) (r : Bool) (hr : r = timesOk a b) : TimesIs a b r := by
  intro w
  have HR : Hid (r = timesOk a b) := hr
  have ho := once_any a b _ rfl
  clear hr
  by_cases h0 : a < 0
  · go_enter Try.func83, Try.ntmps83
    go_wp2_with (fail)
    go_ret
    exact ⟨by rw [HR.out]; simp [timesOk]; omega, rfl⟩
  by_cases h20 : 20 < a
  · go_enter Try.func83, Try.ntmps83
    go_wp2_with (fail)
    go_ret
    exact ⟨by rw [HR.out]; simp [timesOk]; omega, rfl⟩
  by_cases h1 : a = 1 ∧ b = 1
  · obtain ⟨rfl, rfl⟩ := h1
    go_enter Try.func83, Try.ntmps83
    go_wp2_with (go_at_call 91; refine (ho _).mono ?_; rintro e w1 ⟨rfl, rfl⟩)
    go_ret
    exact ⟨by rw [HR.out]; rfl, rfl⟩
  · have ho2 : OnceIs a b false := by
      have e : (decide (a = 1) && decide (b = 1)) = false := by simp; omega
      rw [e] at ho; exact ho
    have HO : Hid (timesOk a b = (decide (b = -1) || (decide (a ≤ b) && decide (b ≤ 20)))) := by
      show _ = _
      unfold timesOk
      have e : (decide (a = 1) && decide (b = 1)) = false := by simp; omega
      rw [e, decide_eq_true (by omega : 0 ≤ a), decide_eq_true (by omega : a ≤ 20)]
      simp
    clear ho h1
    by_cases h2 : b = -1
    · subst h2
      go_enter Try.func83, Try.ntmps83
      go_wp2_with (go_at_call 91; refine (ho2 _).mono ?_; rintro e w1 ⟨rfl, rfl⟩)
      go_ret
      exact ⟨by rw [HR.out, HO.out]; rfl, rfl⟩
    · by_cases h3 : a ≤ b
      · by_cases h4 : b ≤ 20
        · go_enter Try.func83, Try.ntmps83
          go_wp2_with (go_at_call 91; refine (ho2 _).mono ?_; rintro e w1 ⟨rfl, rfl⟩)
          go_ret
          exact ⟨by rw [HR.out, HO.out]; simp [*], rfl⟩
        · go_enter Try.func83, Try.ntmps83
          go_wp2_with (go_at_call 91; refine (ho2 _).mono ?_; rintro e w1 ⟨rfl, rfl⟩)
          go_ret
          exact ⟨by rw [HR.out, HO.out]; simp [*], rfl⟩
      · go_enter Try.func83, Try.ntmps83
        go_wp2_with (go_at_call 91; refine (ho2 _).mono ?_; rintro e w1 ⟨rfl, rfl⟩)
        go_ret
        exact ⟨by rw [HR.out, HO.out, decide_eq_false (by omega : ¬ a ≤ b), decide_eq_false h2]; simp [h2], rfl⟩

theorem any_take_le (k : Int) (l : List Tr) (i : Nat) (h : l.length ≤ i) : anyKind k (l.take i) = anyKind k l := by rw [List.take_of_length_le h]

/-- a list of kids -/
def KidsIs (w : World) (P : Nat → Prop) (l : List Tr) (v : Value) : Prop := Is w P (.node 0 none4 0 0 l) v
theorem Is.toKids {w : World} {P : Nat → Prop} {t : Tr} {v : Value} (h : Is w P t v) : KidsIs w P t.kids v := by
  cases h with
  | leaf k q mn mx a cap => exact .leaf _ _ _ _ a cap
  | node k q mn mx l b off cap vs hl hc hb hP cells kids => exact .node _ _ _ _ l b off cap vs hl hc hb hP cells kids
theorem KidsIs.toTree {w : World} {P : Nat → Prop} {l : List Tr} {v : Value} (h : KidsIs w P l v) (k : Int) (q : Q4) (mn mx : Int) : Is w P (.node k q mn mx l) v := by
  unfold KidsIs at h
  cases h with
  | leaf _ _ _ _ a cap => exact .leaf _ _ _ _ a cap
  | node _ _ _ _ l b off cap vs hl hc hb hP cells kids => exact .node _ _ _ _ l b off cap vs hl hc hb hP cells kids

def HasTIs (l : List Tr) (k : Int) (r : Bool) : Prop := ∀ v w P, KidsIs w P l v → Calls Try.prog 82 #[v, .int .i64 k] w fun e w' => e = .returned (.bool r) ∧ Below w.heap.size w w'
set_option maxHeartbeats 1000000 in
set_option maxRecDepth 100000 in
theorem hasT_any (l : List Tr) (k : Int) (r : Bool) (hr : r = anyKind k l) : HasTIs l k r := by
  intro v w P hi
  have HR : Hid (r = anyKind k l) := hr
  obtain ⟨o, cap, b, off, vs, rfl, hcap, hk⟩ := hi.form
  simp only [Tr.kids] at hcap hk ⊢
  have hll : l.length ≤ 9223372036854775807 := by
    by_cases h0 : 0 < l.length
    · have := (hk 0 h0).2.1; omega
    · omega
  clear hr hi
  go_enter Try.func82, Try.ntmps82
  go_wp2
  go_loopw [9] (fun x wr => ∃ (i : Nat), x = .int .i64 i ∧ i ≤ l.length ∧ Below w.heap.size w wr ∧ Hid (anyKind k (l.take i) = false)) (fun x _ => l.length - (intOf x).toNat)
  case atStart => exact ⟨0, rfl, by omega, Below.refl _ _, rfl⟩
  case round =>
    obtain ⟨i, rfl, hil, hB, HI⟩ := hrel
    by_cases hend : i < l.length
    · obtain ⟨rfl, hcm, hb, hne, hcells, hkid⟩ := hk i hend
      have hcells2 := hcells.same (hB.block b hb)
      obtain ⟨o2, n2, cap2, hv2⟩ := hkid.shape
      rw [hv2] at hcells2
      obtain ⟨k0, k1, k2, k3, k4, k5, k6, k7⟩ := hcells2
      clear hcells hkid hk hv2
      by_cases hyes : (nthT l i).kind = k
      · have HF : Hid (r = true) := HR.out.trans (any_true k l i hend hyes)
        generalize nthT l i = x at *
        go_wp2
        go_ret
        exact ⟨by rw [HF.out]; rfl, hB.alloc hB.size _⟩
      · have HJ : Hid (anyKind k (l.take (i + 1)) = false) := by
          show _ = _
          rw [any_take k l i hend, HI.out, decide_eq_false hyes]; rfl
        generalize nthT l i = x at *
        go_wp2
        go_roundw
        case rel => exact ⟨i + 1, by go_num, by omega, hB.alloc hB.size _, HJ⟩
        case measure => simp [intOf]; omega
    · have HF : Hid (r = false) := by
        show _ = _
        rw [HR.out, ← HI.out, any_take_le k l i (by omega)]
      go_wp2
      go_ret
      exact ⟨by rw [HF.out]; rfl, hB⟩

def okB (k : Int) (ns : Bool) (mn mx : Int) (n : Nat) (h2 h3 tm : Bool) : Bool :=
  if k = 1 then decide (mn = 0) && decide (mx = 0) && decide (n = 0)
  else if k = 2 then ns && decide (mn = 0) && decide (mx = 0) && !decide (n = 1) && !h2
  else if k = 3 then ns && decide (mn = 0) && decide (mx = 0) && decide (2 ≤ n) && !h3
  else if k = 4 then ns && tm && decide (n = 1)
  else false
theorem okB_is (t : Tr) : okNode t = okB t.kind (noSet t.set) t.min t.max t.kids.length (anyKind 2 t.kids) (anyKind 3 t.kids) (timesOk t.min t.max) := rfl

def NodeIs (f : Nat) (t : Tr) (r : Bool) : Prop := ∀ v w P, Is w P t v → Calls Try.prog f #[.agg #[.int .i64 t.kind, .int .u64 t.set.a, .int .u64 t.set.b, .int .u64 t.set.c, .int .u64 t.set.d, .int .i64 t.min, .int .i64 t.max, v]] w fun e w' => e = .returned (.bool r) ∧ Below w.heap.size w w'

end Go.Proofs.Ytkdkibnjfgcppaa.st

namespace Go.Proofs.Ytkdkibnjfgcppaa.st
open Go.ChangeShapes Go.WideShapes Go.ChangeAt Go.RowKit
set_option linter.unusedVariables false

theorem heq_of (q : Q4) (W : World) : (Op.equalIn 9999 43 (.agg #[.int .u64 q.a, .int .u64 q.b, .int .u64 q.c, .int .u64 q.d]) (.agg #[.int .u64 0, .int .u64 0, .int .u64 0, .int .u64 0])).run Try.prog W = .ok (noSet q) W := by rw [eq23, noSet_is]
theorem beq0 (n : Nat) : ((n : Int) == 0) = decide (n = 0) := by
  by_cases h : n = 0
  · subst h; rfl
  · rw [decide_eq_false h, beq_eq_false_iff_ne]; omega
theorem beq1 (n : Nat) : ((n : Int) == 1) = decide (n = 1) := by
  by_cases h : n = 1
  · subst h; rfl
  · rw [decide_eq_false h, beq_eq_false_iff_ne]; omega
theorem leq2 (n : Nat) : decide (2 ≤ (n : Int)) = decide (2 ≤ n) := by
  by_cases h : 2 ≤ n
  · rw [decide_eq_true h, decide_eq_true (by omega)]
  · rw [decide_eq_false h, decide_eq_false (by omega)]
def EqS (q : Q4) (ns : Bool) : Prop := ∀ W, (Op.equalIn 9999 43 (.agg #[.int .u64 q.a, .int .u64 q.b, .int .u64 q.c, .int .u64 q.d]) (.agg #[.int .u64 0, .int .u64 0, .int .u64 0, .int .u64 0])).run Try.prog W = .ok ns W
def HasAt (w : World) (v : Value) (k : Int) (r : Bool) : Prop := ∀ o, Calls Try.prog 82 #[v, .int .i64 k] (w.alloc o) fun e w' => e = .returned (.bool r) ∧ Below w.heap.size w w'
theorem beqf {a b : Int} (h : ¬ a = b) : (a == b) = false := by rw [beq_eq_false_iff_ne]; exact h
def NodeAt (w : World) (k : Int) (q : Q4) (mn mx : Int) (o : Option Addr) (n cap : Nat) (r : Bool) : Prop :=
  Calls Try.prog 64 #[.agg #[.int .i64 k, .int .u64 q.a, .int .u64 q.b, .int .u64 q.c, .int .u64 q.d, .int .i64 mn, .int .i64 mx, .slice o n cap]] w fun e w' => e = .returned (.bool r) ∧ Below w.heap.size w w'
end Go.Proofs.Ytkdkibnjfgcppaa.st

namespace Go.Proofs.Ytkdkibnjfgcppaa.st
open Go.ChangeShapes Go.WideShapes Go.ChangeAt Go.RowKit
set_option linter.unusedVariables false

set_option maxHeartbeats 2000000 in
set_option maxRecDepth 100000 in
theorem node1 (w : World) (q : Q4) (mn mx : Int) (o : Option Addr) (n cap : Nat) (ns r : Bool) (hn : n ≤ 9223372036854775807) (heq : EqS q ns) (hr : r = (decide (mn = 0) && decide (mx = 0) && decide (n = 0))) : NodeAt w 1 q mn mx o n cap r := by
  have HR : Hid (r = (decide (mn = 0) && decide (mx = 0) && decide (n = 0))) := hr
  unfold EqS at heq
  unfold NodeAt
  clear hr
  by_cases hmn : mn = 0
  · subst hmn
    by_cases hmx : mx = 0
    · subst hmx
      cases ns
      all_goals
        go_enter Try.func64, Try.ntmps64
        go_wp2_with (fail)
        go_ret
        exact ⟨by rw [HR.out, ← beq0]; rfl, below_alloc _ _⟩
    · have hmx2 := beqf hmx
      have HX : Hid (r = false) := by show _ = _; rw [HR.out]; simp [hmx]
      clear hmx
      cases ns
      all_goals
        go_enter Try.func64, Try.ntmps64
        go_wp2_with (fail)
        go_ret
        exact ⟨by rw [HX.out]; rfl, below_alloc _ _⟩
  · have hmn2 := beqf hmn
    have HX : Hid (r = false) := by show _ = _; rw [HR.out]; simp [hmn]
    clear hmn
    cases ns
    all_goals
      go_enter Try.func64, Try.ntmps64
      go_wp2_with (fail)
      go_ret
      exact ⟨by rw [HX.out]; rfl, below_alloc _ _⟩

set_option maxHeartbeats 2000000 in
set_option maxRecDepth 100000 in
theorem node5 (w : World) (k : Int) (q : Q4) (mn mx : Int) (o : Option Addr) (n cap : Nat) (ns : Bool) (heq : EqS q ns) (k1 : (k == 1) = false) (k2 : (k == 2) = false) (k3 : (k == 3) = false) (k4 : (k == 4) = false) : NodeAt w k q mn mx o n cap false := by
  unfold EqS at heq
  unfold NodeAt
  have h3 : (mn == 0) = false ∨ (mn = 0 ∧ mx = 0) ∨ (mn = 0 ∧ (mx == 0) = false) := by
    by_cases h : mn = 0
    · by_cases h' : mx = 0
      · exact .inr (.inl ⟨h, h'⟩)
      · exact .inr (.inr ⟨h, beqf h'⟩)
    · exact .inl (beqf h)
  cases ns
  all_goals rcases h3 with h3 | ⟨rfl, rfl⟩ | ⟨rfl, h3⟩
  all_goals
    go_enter Try.func64, Try.ntmps64
    go_wp2_with (fail)
    go_ret
    exact ⟨rfl, below_alloc _ _⟩
end Go.Proofs.Ytkdkibnjfgcppaa.st

namespace Go.Proofs.Ytkdkibnjfgcppaa.st
open Go.ChangeShapes Go.WideShapes Go.ChangeAt Go.RowKit
set_option linter.unusedVariables false

set_option maxHeartbeats 2000000 in
set_option maxRecDepth 100000 in
theorem node2 (w : World) (q : Q4) (mn mx : Int) (o : Option Addr) (n cap : Nat) (ns bk r : Bool) (hn : n ≤ 9223372036854775807) (heq : EqS q ns) (hh : HasAt w (.slice o n cap) 2 bk) (hr : r = (ns && decide (mn = 0) && decide (mx = 0) && !decide (n = 1) && !bk)) : NodeAt w 2 q mn mx o n cap r := by
  have HR : Hid (r = (ns && decide (mn = 0) && decide (mx = 0) && !decide (n = 1) && !bk)) := hr
  unfold EqS at heq
  unfold NodeAt
  unfold HasAt at hh
  clear hr
  by_cases hmn : mn = 0
  · subst hmn
    by_cases hmx : mx = 0
    · subst hmx
      cases ns
      · have HX : Hid (r = false) := by show _ = _; rw [HR.out]; rfl
        go_enter Try.func64, Try.ntmps64
        go_wp2_with (fail)
        go_ret
        exact ⟨by rw [HX.out]; rfl, below_alloc _ _⟩
      · by_cases hc : ¬ n = 1
        · have HX : Hid (r = !bk) := by show _ = _; rw [HR.out]; simp [hc]
          have hc2 : ((n : Int) != 1) = true := by rw [bne_iff_ne]; omega
          clear hc
          go_enter Try.func64, Try.ntmps64
          go_wp2_with (go_at_call 82; refine (hh _).mono ?_; rintro e w1 ⟨rfl, b1⟩)
          go_ret
          exact ⟨by rw [HX.out]; rfl, b1⟩
        · have HX : Hid (r = false) := by show _ = _; rw [HR.out]; simp [hc]
          have hc2 : n = 1 := by omega
          subst hc2
          clear hc
          go_enter Try.func64, Try.ntmps64
          go_wp2_with (fail)
          go_ret
          exact ⟨by rw [HX.out]; rfl, below_alloc _ _⟩
    · have hmx2 := beqf hmx
      have HX : Hid (r = false) := by show _ = _; rw [HR.out]; simp [hmx]
      clear hmx
      cases ns
      all_goals
        go_enter Try.func64, Try.ntmps64
        go_wp2_with (fail)
        go_ret
        exact ⟨by rw [HX.out]; rfl, below_alloc _ _⟩
  · have hmn2 := beqf hmn
    have HX : Hid (r = false) := by show _ = _; rw [HR.out]; simp [hmn]
    clear hmn
    cases ns
    all_goals
      go_enter Try.func64, Try.ntmps64
      go_wp2_with (fail)
      go_ret
      exact ⟨by rw [HX.out]; rfl, below_alloc _ _⟩
end Go.Proofs.Ytkdkibnjfgcppaa.st

namespace Go.Proofs.Ytkdkibnjfgcppaa.st
open Go.ChangeShapes Go.WideShapes Go.ChangeAt Go.RowKit
set_option linter.unusedVariables false

set_option maxHeartbeats 2000000 in
set_option maxRecDepth 100000 in
theorem node3 (w : World) (q : Q4) (mn mx : Int) (o : Option Addr) (n cap : Nat) (ns bk r : Bool) (hn : n ≤ 9223372036854775807) (heq : EqS q ns) (hh : HasAt w (.slice o n cap) 3 bk) (hr : r = (ns && decide (mn = 0) && decide (mx = 0) && decide (2 ≤ n) && !bk)) : NodeAt w 3 q mn mx o n cap r := by
  have HR : Hid (r = (ns && decide (mn = 0) && decide (mx = 0) && decide (2 ≤ n) && !bk)) := hr
  unfold EqS at heq
  unfold NodeAt
  unfold HasAt at hh
  clear hr
  by_cases hmn : mn = 0
  · subst hmn
    by_cases hmx : mx = 0
    · subst hmx
      cases ns
      · have HX : Hid (r = false) := by show _ = _; rw [HR.out]; rfl
        go_enter Try.func64, Try.ntmps64
        go_wp2_with (fail)
        go_ret
        exact ⟨by rw [HX.out]; rfl, below_alloc _ _⟩
      · by_cases hc : 2 ≤ n
        · have HX : Hid (r = !bk) := by show _ = _; rw [HR.out]; simp [hc]
          skip
          go_enter Try.func64, Try.ntmps64
          go_wp2_with (go_at_call 82; refine (hh _).mono ?_; rintro e w1 ⟨rfl, b1⟩)
          go_ret
          exact ⟨by rw [HX.out]; rfl, b1⟩
        · have HX : Hid (r = false) := by show _ = _; rw [HR.out]; simp [hc]
          skip
          go_enter Try.func64, Try.ntmps64
          go_wp2_with (fail)
          go_ret
          exact ⟨by rw [HX.out]; rfl, below_alloc _ _⟩
    · have hmx2 := beqf hmx
      have HX : Hid (r = false) := by show _ = _; rw [HR.out]; simp [hmx]
      clear hmx
      cases ns
      all_goals
        go_enter Try.func64, Try.ntmps64
        go_wp2_with (fail)
        go_ret
        exact ⟨by rw [HX.out]; rfl, below_alloc _ _⟩
  · have hmn2 := beqf hmn
    have HX : Hid (r = false) := by show _ = _; rw [HR.out]; simp [hmn]
    clear hmn
    cases ns
    all_goals
      go_enter Try.func64, Try.ntmps64
      go_wp2_with (fail)
      go_ret
      exact ⟨by rw [HX.out]; rfl, below_alloc _ _⟩
end Go.Proofs.Ytkdkibnjfgcppaa.st

namespace Go.Proofs.Ytkdkibnjfgcppaa.st
open Go.ChangeShapes Go.WideShapes Go.ChangeAt Go.RowKit
set_option linter.unusedVariables false

set_option maxHeartbeats 2000000 in
set_option maxRecDepth 100000 in
theorem node4 (w : World) (q : Q4) (mn mx : Int) (o : Option Addr) (n cap : Nat) (ns tm r : Bool) (hn : n ≤ 9223372036854775807) (heq : EqS q ns) (hh : TimesIs mn mx tm) (hr : r = (ns && tm && decide (n = 1))) : NodeAt w 4 q mn mx o n cap r := by
  have HR : Hid (r = (ns && tm && decide (n = 1))) := hr
  unfold EqS at heq
  unfold NodeAt
  clear hr
  have h3 : (mn == 0) = false ∨ (mn = 0 ∧ mx = 0) ∨ (mn = 0 ∧ (mx == 0) = false) := by
    by_cases h : mn = 0
    · by_cases h' : mx = 0
      · exact .inr (.inl ⟨h, h'⟩)
      · exact .inr (.inr ⟨h, beqf h'⟩)
    · exact .inl (beqf h)
  cases ns
  · have HX : Hid (r = false) := by show _ = _; rw [HR.out]; rfl
    rcases h3 with h3 | ⟨rfl, rfl⟩ | ⟨rfl, h3⟩
    all_goals
      go_enter Try.func64, Try.ntmps64
      go_wp2_with (fail)
      go_ret
      exact ⟨by rw [HX.out]; rfl, below_alloc _ _⟩
  · cases tm
    · have HX : Hid (r = false) := by show _ = _; rw [HR.out]; rfl
      rcases h3 with h3 | ⟨rfl, rfl⟩ | ⟨rfl, h3⟩
      all_goals
        go_enter Try.func64, Try.ntmps64
        go_wp2_with (go_at_call 83; refine (hh _).mono ?_; rintro e w1 ⟨rfl, h⟩; obtain rfl := h.symm)
        go_ret
        exact ⟨by rw [HX.out]; rfl, below_alloc _ _⟩
    · have HX : Hid (r = ((n : Int) == 1)) := by show _ = _; rw [HR.out, beq1]; rfl
      rcases h3 with h3 | ⟨rfl, rfl⟩ | ⟨rfl, h3⟩
      all_goals
        go_enter Try.func64, Try.ntmps64
        go_wp2_with (go_at_call 83; refine (hh _).mono ?_; rintro e w1 ⟨rfl, h⟩; obtain rfl := h.symm)
        go_ret
        exact ⟨by rw [HX.out]; rfl, below_alloc _ _⟩
end Go.Proofs.Ytkdkibnjfgcppaa.st

namespace Go.Proofs.Ytkdkibnjfgcppaa.st
open Go.ChangeShapes Go.WideShapes Go.ChangeAt Go.RowKit
set_option linter.unusedVariables false

theorem bnet {a b : Int} (h : ¬ a = b) : (a != b) = true := by rw [bne_iff_ne]; exact h

end Go.Proofs.Ytkdkibnjfgcppaa.st

namespace Go.Proofs.Ytkdkibnjfgcppaa.st
open Go.ChangeShapes Go.WideShapes Go.ChangeAt Go.RowKit
set_option linter.unusedVariables false

end Go.Proofs.Ytkdkibnjfgcppaa.st

namespace Go.Proofs.Ytkdkibnjfgcppaa.st
open Go.ChangeShapes Go.WideShapes Go.ChangeAt Go.RowKit
set_option linter.unusedVariables false

end Go.Proofs.Ytkdkibnjfgcppaa.st

namespace Go.Proofs.Ytkdkibnjfgcppaa.st
open Go.ChangeShapes Go.WideShapes Go.ChangeAt Go.RowKit
set_option linter.unusedVariables false

theorem Is.len {w : World} {P : Nat → Prop} {t : Tr} {v : Value} (h : Is w P t v) : ∃ o cap, v = .slice o t.kids.length cap ∧ t.kids.length ≤ 9223372036854775807 := by
  cases h with
  | leaf k q mn mx a cap => exact ⟨_, _, rfl, by simp [Tr.kids]⟩
  | node k q mn mx l b off cap vs hl hc hb hP cells kids => exact ⟨_, _, rfl, by simp only [Tr.kids]; omega⟩

theorem chainG {w w1 w2 : World} (h1 : Below w.heap.size w w1) (h2 : Below w1.heap.size w1 w2) : Below w.heap.size w w2 := h1.trans (h2.mono h1.size)

theorem node_any (t : Tr) (r : Bool) (hr : r = okNode t) : NodeIs 64 t r := by
  intro v w P hi
  obtain ⟨o, cap, rfl, hll⟩ := hi.len
  have heq : EqS t.set (noSet t.set) := heq_of t.set
  have hh : ∀ k, HasAt w (.slice o t.kids.length cap) k (anyKind k t.kids) := fun k x => (hasT_any t.kids k _ rfl _ _ _ (hi.toKids.later (below_alloc w x))).mono fun e w' h => ⟨h.1, chainG (below_alloc _ _) h.2⟩
  have htm := times_any t.min t.max _ rfl
  rw [okB_is] at hr
  unfold okB at hr
  by_cases h1 : t.kind = 1
  · rw [if_pos h1] at hr; rw [h1]; exact node1 w t.set t.min t.max o _ cap _ r hll heq hr
  rw [if_neg h1] at hr
  by_cases h2 : t.kind = 2
  · rw [if_pos h2] at hr; rw [h2]; exact node2 w t.set t.min t.max o _ cap _ _ r hll heq (hh 2) hr
  rw [if_neg h2] at hr
  by_cases h3 : t.kind = 3
  · rw [if_pos h3] at hr; rw [h3]; exact node3 w t.set t.min t.max o _ cap _ _ r hll heq (hh 3) hr
  rw [if_neg h3] at hr
  by_cases h4 : t.kind = 4
  · rw [if_pos h4] at hr; rw [h4]; exact node4 w t.set t.min t.max o _ cap _ _ r hll heq htm hr
  rw [if_neg h4] at hr
  rw [hr]
  exact node5 w _ t.set t.min t.max o _ cap _ heq (beqf h1) (beqf h2) (beqf h3) (beqf h4)

set_option maxHeartbeats 1000000 in
set_option maxRecDepth 100000 in
theorem right_any (d : Nat) : ∀ (t : Tr) (r : Bool), t.depth ≤ d → r = t.good → NodeIs 46 t r := by
  induction d with
  | zero => intro t r hd; have := t.depth_eq; omega
  | succ d ih =>
    intro t r hd hr v w P hi
    have hDe := t.depth_eq
    have HK : Hid (∀ i, i < t.kids.length → (nthT t.kids i).depth ≤ d) := fun i hi => by have := depth_nth t.kids i hi; omega
    have hnode := node_any t _ rfl
    have HR : Hid (r = (okNode t && goods t.kids)) := by show _ = _; rw [hr, t.good_eq]
    have hnd := hnode v
    have hi1 := fun o => hi.later (below_alloc w o)
    obtain ⟨o, cap, b, off, vs, rfl, hcap, hk⟩ := hi.form
    have hll : t.kids.length ≤ 9223372036854775807 := by
      by_cases h0 : 0 < t.kids.length
      · have := (hk 0 h0).2.1; omega
      · omega
    have hnd2 : ∀ x, Calls Try.prog 64 #[.agg #[.int .i64 t.kind, .int .u64 t.set.a, .int .u64 t.set.b, .int .u64 t.set.c, .int .u64 t.set.d, .int .i64 t.min, .int .i64 t.max, .slice o t.kids.length cap]] (w.alloc x) fun e w' => e = .returned (.bool (okNode t)) ∧ Below (w.alloc x).heap.size (w.alloc x) w' := fun x => hnd _ P (hi1 x)
    clear hDe hd hr hi hnode hnd hi1
    generalize okNode t = ok at *
    generalize t.kind = k at *
    generalize t.set = q at *
    generalize t.min = mn at *
    generalize t.max = mx at *
    generalize t.kids = l at *
    cases ok
    · have HX : Hid (r = false) := HR.out
      clear hk HR
      go_enter Try.func46, Try.ntmps46
      go_wp2_with (go_at_call 64; refine (hnd2 _).mono ?_; rintro e w1 ⟨rfl, b1⟩)
      go_ret
      exact ⟨by rw [HX.out]; rfl, chainG (below_alloc _ _) b1⟩
    · have HX : Hid (r = goods l) := HR.out
      clear HR
      go_enter Try.func46, Try.ntmps46
      go_wp2_with (go_at_call 64; refine (hnd2 _).mono ?_; rintro e w1 ⟨rfl, b1⟩; have c7 : w1.cell? ⟨w.heap.size, 7, none⟩ = some (.slice o l.length cap) := (cell_same (b1.block _ (by simp)) 7).trans (by simp [go_sem]))
      go_loopw [11] (fun x wr => ∃ (i : Nat), x = .int .i64 i ∧ i ≤ l.length ∧ Below w.heap.size w wr ∧ Hid (goods (l.take i) = true)) (fun x _ => l.length - (intOf x).toNat)
      case atStart => exact ⟨0, rfl, by omega, chainG (below_alloc _ _) b1, rfl⟩
      case round =>
        obtain ⟨i, rfl, hil, hB, HI⟩ := hrel
        by_cases hend : i < l.length
        · obtain ⟨rfl, hcm, hb, hne, hcells, hkid⟩ := hk i hend
          have hcells2 := hcells.same (hB.block b hb)
          have hkid2 := hkid.later hB
          obtain ⟨o2, n2, cap2, hv2⟩ := hkid.shape
          rw [hv2] at hcells2 hkid2
          obtain ⟨k0, k1, k2, k3, k4, k5, k6, k7⟩ := hcells2
          clear hcells hkid hk hv2
          by_cases hyes : (nthT l i).good = true
          · have hcall := ih (nthT l i) true (HK.out i hend) hyes.symm
            have HJ : Hid (goods (l.take (i + 1)) = true) := by show _ = _; rw [goods_take l i hend, HI.out, hyes]; rfl
            clear hyes
            generalize nthT l i = x at *
            go_wp2_with (go_at_call 46; refine (hcall _ _ _ (hkid2.later (below_alloc _ _))).mono ?_; rintro e w2 ⟨rfl, b2⟩)
            go_roundw
            case rel => exact ⟨i + 1, by go_num, by omega, hB.trans (Below.mono (chainG (below_alloc _ _) b2) hB.size), HJ⟩
            case measure => simp [intOf]; omega
          · have hno : (nthT l i).good = false := by simpa using hyes
            have hcall := ih (nthT l i) false (HK.out i hend) hno.symm
            have HF : Hid (r = false) := HX.out.trans (goods_false l i hend hno)
            clear hyes hno
            generalize nthT l i = x at *
            go_wp2_with (go_at_call 46; refine (hcall _ _ _ (hkid2.later (below_alloc _ _))).mono ?_; rintro e w2 ⟨rfl, b2⟩)
            go_ret
            exact ⟨by rw [HF.out]; rfl, hB.trans (Below.mono (chainG (below_alloc _ _) b2) hB.size)⟩
        · have HF : Hid (r = true) := by
            have h := HI.out
            rw [List.take_of_length_le (by omega)] at h
            exact HX.out.trans h
          go_wp2_with (fail)
          go_ret
          exact ⟨by rw [HF.out]; rfl, hB⟩

end Go.Proofs.Ytkdkibnjfgcppaa.st

namespace Go.Proofs.Ytkdkibnjfgcppaa.st
open Go.ChangeShapes Go.WideShapes Go.ChangeAt Go.RowKit
set_option linter.unusedVariables false

def UpIs (f : Nat) (t : Tr) (most r : Nat) : Prop := ∀ v w P, Is w P t v → Calls Try.prog f #[.agg #[.int .i64 t.kind, .int .u64 t.set.a, .int .u64 t.set.b, .int .u64 t.set.c, .int .u64 t.set.d, .int .i64 t.min, .int .i64 t.max, v], .int .i64 most] w fun e w' => e = .returned (.int .i64 r) ∧ Below w.heap.size w w'

def RightIs (f : Nat) (t : Tr) (r : Nat) : Prop := ∀ v w, Is w (fun _ => True) t v → Calls Try.prog f #[.agg #[.int .i64 t.kind, .int .u64 t.set.a, .int .u64 t.set.b, .int .u64 t.set.c, .int .u64 t.set.d, .int .i64 t.min, .int .i64 t.max, v]] w fun e w' => e = .returned (.int .i64 r) ∧ Below w.heap.size w w'

theorem Is.old {w : World} {P : Nat → Prop} {t : Tr} {v : Value} (h : Is w P t v) : Is w (fun b => b < w.heap.size) t v := h.carry (Nat.le_refl _) (fun _ _ h => h) (fun _ _ _ => rfl)
theorem Is.weak {w : World} {P : Nat → Prop} {t : Tr} {v : Value} (h : Is w P t v) : Is w (fun _ => True) t v := h.carry (Nat.le_refl _) (fun _ _ _ => trivial) (fun _ _ _ => rfl)
theorem Is.fresh {w w' : World} {P : Nat → Prop} {t : Tr} {v : Value} (h : Is w P t v) (b : Below w.heap.size w w') (g : Nat) (hg : w.heap.size ≤ g) : Is w' (· ≠ g) t v :=
  h.old.carry b.size (fun k hk _ => by show k ≠ g; omega) (fun k hk _ => b.block k hk)

def rightN (t : Tr) : Nat := if t.depth ≤ 30 ∧ t.nodes ≤ 512 then (if t.good then 0 else 61) else 2

/-- a tree in a block of its own -/
def Box (w : World) (g : Nat) (t : Tr) (v : Value) : Prop := w.heap[g]? = some (.cells #[.int .i64 t.kind, .int .u64 t.set.a, .int .u64 t.set.b, .int .u64 t.set.c, .int .u64 t.set.d, .int .i64 t.min, .int .i64 t.max, v] 48 (0, 0))
theorem Box.lt {w : World} {g : Nat} {t : Tr} {v : Value} (h : Box w g t v) : g < w.heap.size := (Array.getElem?_eq_some_iff.1 h).1
theorem Box.cells {w : World} {g : Nat} {t : Tr} {v : Value} (h : Box w g t v) :
    w.cell? ⟨g, 0, none⟩ = some (.int .i64 t.kind) ∧ w.cell? ⟨g, 1, none⟩ = some (.int .u64 t.set.a) ∧ w.cell? ⟨g, 2, none⟩ = some (.int .u64 t.set.b) ∧ w.cell? ⟨g, 3, none⟩ = some (.int .u64 t.set.c) ∧
    w.cell? ⟨g, 4, none⟩ = some (.int .u64 t.set.d) ∧ w.cell? ⟨g, 5, none⟩ = some (.int .i64 t.min) ∧ w.cell? ⟨g, 6, none⟩ = some (.int .i64 t.max) ∧ w.cell? ⟨g, 7, none⟩ = some v := by
  refine ⟨?_, ?_, ?_, ?_, ?_, ?_, ?_, ?_⟩ <;> (rw [Lib.cell_of_heap h]; rfl)
theorem Box.grown {w w' : World} {g k : Nat} {t : Tr} {v : Value} (h : Box w g t v) (b : w.grownBy w' (some k)) (hne : g ≠ k) : Box w' g t v := by
  unfold Box; rw [b.block g h.lt (fun e => hne (Option.some.inj e))]; exact h
theorem Box.below {w w' : World} {g : Nat} {t : Tr} {v : Value} (h : Box w g t v) (b : Below w.heap.size w w') : Box w' g t v := by
  unfold Box; rw [b.block g h.lt]; exact h
theorem box_new (w : World) (t : Tr) (v : Value) : Box (w.alloc (.cells #[.int .i64 t.kind, .int .u64 t.set.a, .int .u64 t.set.b, .int .u64 t.set.c, .int .u64 t.set.d, .int .i64 t.min, .int .i64 t.max, v] 48)) w.heap.size t v := heap_alloc_new w _

set_option maxHeartbeats 1000000 in
set_option maxRecDepth 100000 in
theorem right_is (t : Tr) (r : Nat) (hr : r = rightN t) : RightIs 30 t r := by
  intro v w hi
  have HR : Hid (r = rightN t) := hr
  clear hr
  obtain ⟨o, n, cap, hv⟩ := hi.shape
  subst hv
  have hB1 : ∀ x y, Below w.heap.size w ((w.alloc x).alloc y) := fun x y => chainG (below_alloc w x) (below_alloc (w.alloc x) y)
  have hf : ∀ x y, Is ((w.alloc x).alloc y) (· ≠ w.heap.size + 1) t (.slice o n cap) := fun x y => hi.fresh (hB1 x y) _ (by omega)
  have hone : ∀ x, One ((w.alloc x).alloc (.cells #[.int .i64 512] 3)) (w.heap.size + 1) (512 : Nat) := fun x => heap_alloc2_new w _ _
  have hbox : ∀ y, Box ((w.alloc (.cells #[.int .i64 t.kind, .int .u64 t.set.a, .int .u64 t.set.b, .int .u64 t.set.c, .int .u64 t.set.d, .int .i64 t.min, .int .i64 t.max, .slice o n cap] 48)).alloc y) w.heap.size t (.slice o n cap) := fun y => (box_new w t _).below (below_alloc _ _)
  by_cases hfit : t.depth ≤ 30 ∧ t.nodes ≤ 512
  · have hcall := fits_any t.depth t 30 512 true _ (Nat.le_refl _) (by decide) (by decide) (by simp [hfit]) rfl
    have HS : Hid (r = if t.good then 0 else 61) := by show _ = _; rw [HR.out, rightN, if_pos hfit]
    have hgood := right_any t.depth t _ (Nat.le_refl _) rfl
    clear HR hfit
    generalize t.good = gd at *
    cases gd
    · have HX : Hid (r = 61) := HS.out
      go_enter Try.func30, Try.ntmps30
      go_wp2_with (first | (go_at_call 45; refine (hcall _ _ _ (hf _ _) (hone _)).mono ?_; rintro e w1 ⟨rfl, h1, t1⟩; have B1 := (hbox _).grown t1 (by omega); have S1 := (hf _ _).grown t1; obtain ⟨k0, k1, k2, k3, k4, k5, k6, k7⟩ := B1.cells) | (go_at_call 46; refine (hgood _ _ _ S1).mono ?_; rintro e w2 ⟨rfl, b2⟩))
      go_ret
      exact ⟨by rw [HX.out]; rfl, (Below.grown (hB1 _ _) t1 (hB1 _ _).size (by intro k hk; simp at hk; omega)).trans (b2.mono (Nat.le_trans (hB1 _ _).size t1.size))⟩
    · have HX : Hid (r = 0) := HS.out
      go_enter Try.func30, Try.ntmps30
      go_wp2_with (first | (go_at_call 45; refine (hcall _ _ _ (hf _ _) (hone _)).mono ?_; rintro e w1 ⟨rfl, h1, t1⟩; have B1 := (hbox _).grown t1 (by omega); have S1 := (hf _ _).grown t1; obtain ⟨k0, k1, k2, k3, k4, k5, k6, k7⟩ := B1.cells) | (go_at_call 46; refine (hgood _ _ _ S1).mono ?_; rintro e w2 ⟨rfl, b2⟩))
      go_ret
      exact ⟨by rw [HX.out]; rfl, (Below.grown (hB1 _ _) t1 (hB1 _ _).size (by intro k hk; simp at hk; omega)).trans (b2.mono (Nat.le_trans (hB1 _ _).size t1.size))⟩
  · have hcall := fits_any t.depth t 30 512 false _ (Nat.le_refl _) (by decide) (by decide) (by symm; simp; omega) rfl
    have HX : Hid (r = 2) := by show _ = _; rw [HR.out, rightN, if_neg hfit]
    clear HR hfit
    go_enter Try.func30, Try.ntmps30
    go_wp2_with (go_at_call 45; refine (hcall _ _ _ (hf _ _) (hone _)).mono ?_; rintro e w1 ⟨rfl, h1, t1⟩)
    go_ret
    exact ⟨by rw [HX.out]; rfl, Below.grown (hB1 _ _) t1 (hB1 _ _).size (by intro k hk; simp at hk; omega)⟩

end Go.Proofs.Ytkdkibnjfgcppaa.st

namespace Go.Proofs.Ytkdkibnjfgcppaa.nb
open Go.ChangeShapes Go.WideShapes Go.ChangeAt Go.RowKit
open st (Tr Q4 nodesOf goods okNode Is Box)
open nf (Ed)
set_option linter.unusedVariables false
set_option maxRecDepth 100000

abbrev trV (t : Tr) (v : Value) : Value := .agg #[.int .i64 t.kind, .int .u64 t.set.a, .int .u64 t.set.b, .int .u64 t.set.c, .int .u64 t.set.d, .int .i64 t.min, .int .i64 t.max, v]
/-- room for a tree -/
structure Room (t : Tr) (a : Nat) : Prop where
  lo : 16000 ≤ a
  nd : t.nodes ≤ 512
  hi : a + 16000 * t.depth ≤ 900000
def LayIs (t : Tr) : Prop := ∀ (f to : Nat) (x : St) (a : Nat), Most x a a → Room t a → ∀ B g v w tv, Bx w B g x v → B ≤ w.heap.size → Is w (· < B) t tv →
  Calls Try.prog 31 #[.pointer (some ⟨g, 0, none⟩), trV t tv, .int .i64 (f : Int), .int .i64 (to : Int)] w fun e w' => e = .returned (.tuple #[]) ∧ ∃ v', Bx w' B g (layT t f to x) v' ∧ Mv g v v' w w'
def OneIs (t : Tr) : Prop := ∀ (f : Nat) (x : St) (a : Nat), Most x.new a a → Room t a → ∀ B g v w tv, Bx w B g x v → B ≤ w.heap.size → Is w (· < B) t tv →
  Calls Try.prog 65 #[.pointer (some ⟨g, 0, none⟩), trV t tv, .int .i64 (f : Int)] w fun e w' => e = .returned (.int .i64 (x.n : Int)) ∧ ∃ v', Bx w' B g (layT t f x.n x.new) v' ∧ Mv g v v' w w'
theorem info48 : (Try.prog.info? 48).map (·.size) = some 8 := by kernel_rfl
theorem is_mv {w w' : World} {B g : Nat} {x : St} {v v' : Value} {t : Tr} {tv : Value} (h : Is w (· < B) t tv) (hx : Bx w B g x v) (hB : B ≤ w.heap.size) (m : Mv g v v' w w') : Is w' (· < B) t tv :=
  h.carry m.size (fun _ p _ => p) (fun b p hlt => m.block b hlt (by have := hx.bg; omega) (fun e => by have := (ow.lt hx.own e.symm).1; omega))
theorem box_mv {w w' : World} {B g k : Nat} {x : St} {v v' : Value} {t : Tr} {tv : Value} (h : Box w k t tv) (hx : Bx w B g x v) (m : Mv g v v' w w') : Box w' k t tv := by
  unfold Box at h ⊢
  rw [m.block k (Array.getElem?_eq_some_iff.1 h).1 (fun e => by subst e; rw [hx.blk] at h; simp at h) (ow.type hx.own h (by decide))]
  exact h
set_option maxHeartbeats 1000000 in
theorem one_any (t : Tr) (hL : LayIs t) : OneIs t := by
  intro f x a hm hr B g v w tv hx hB ht
  obtain ⟨w1, hw1⟩ : ∃ w1, w1 = w.alloc (.cells #[.int .i64 t.kind, .int .u64 t.set.a, .int .u64 t.set.b, .int .u64 t.set.c, .int .u64 t.set.d, .int .i64 t.min, .int .i64 t.max, tv] 48) := ⟨_, rfl⟩
  have b1 : Below w.heap.size w w1 := by rw [hw1]; exact (Below.refl _ _).alloc (Nat.le_refl _) _
  have bx1 : Box w1 w.heap.size t tv := by rw [hw1]; exact st.box_new w t tv
  have hx1 := hx.later b1
  have hB1 : B ≤ w1.heap.size := Nat.le_trans hB b1.size
  have ht1 := is_mv ht hx hB (Mv.of (g := g) (v := v) b1)
  have HM := (show Hid (Mv g v v w w1) from Mv.of b1)
  have hlo := hr.lo
  have hhi := hr.hi
  have hn : x.n ≤ 1000000 := by have := hm.n; simp [St.new] at this; omega
  have h75 := state_any x hn B g v w1 hx1
  have HL := (show Hid (∀ W, Bx W B g x.new v → Mv g v v w1 W → Calls Try.prog 31 #[.pointer (some ⟨g, 0, none⟩), trV t tv, .int .i64 (f : Int), .int .i64 (x.n : Int)] W fun e w' => e = .returned (.tuple #[]) ∧ ∃ v', Bx w' B g (layT t f x.n x.new) v' ∧ Mv g v v' W w') from fun W h m => hL f x.n x.new a hm hr B g v W tv h (Nat.le_trans hB1 m.size) (is_mv ht1 hx1 hB1 m))
  have HB := (show Hid (∀ W, Mv g v v w1 W → Box W w.heap.size t tv) from fun W m => box_mv bx1 hx1 m)
  clear ht ht1 hx hm hr b1 bx1 hx1
  go_enter Try.func65, Try.ntmps65
  go_wp2_with (first | (go_at_call 66; (try rw [← hw1]); refine h75.mono ?_; rintro e w2 ⟨rfl, hx2, m2⟩; clear h75; have b2 := HB.out w2 m2; have c27 := HL.out w2 hx2 m2) | (refine wpList_load_row rfl 48 (.tmp 4) rfl w.heap.size rfl 48 _ (0, 0) _ b2 Try.underlying48 rfl info48 ?_) | (go_at_call 31; refine c27.mono ?_; rintro e w3 ⟨rfl, v3, hx3, m3⟩))
  go_ret
  exact ⟨rfl, v3, hx3, HM.out.trans (m2.trans m3)⟩
end Go.Proofs.Ytkdkibnjfgcppaa.nb

namespace Go.Proofs.Ytkdkibnjfgcppaa.nb
open Go.ChangeShapes Go.WideShapes Go.ChangeAt Go.RowKit
open st (Tr Q4 nodesOf goods okNode Is Box nthT)
open nf (Ed)
set_option linter.unusedVariables false
set_option maxRecDepth 100000

theorem rowT_append : ∀ (l m : List Tr) (f : Nat) (x : St), rowT (l ++ m) f x = rowT m (rowT l f x).1 (rowT l f x).2
  | [], m, f, x => by rw [rowT]; rfl
  | t :: l, m, f, x => by
    rw [List.cons_append, rowT, rowT_append l m, rowT]
theorem rowT_take (l : List Tr) (i : Nat) (h : i < l.length) (f : Nat) (x : St) : rowT (l.take (i + 1)) f x = ((rowT (l.take i) f x).2.n, layT (nthT l i) (rowT (l.take i) f x).1 (rowT (l.take i) f x).2.n (rowT (l.take i) f x).2.new) := by
  rw [st.take_nthT l i h, rowT_append, rowT, rowT]
theorem altT_append : ∀ (l m : List Tr) (f to : Nat) (x : St), altT (l ++ m) f to x = altT m f to (altT l f to x)
  | [], m, f, to, x => by rw [altT]; rfl
  | t :: l, m, f, to, x => by
    rw [List.cons_append, altT, altT_append l m, altT]
theorem altT_take (l : List Tr) (i : Nat) (h : i < l.length) (f to : Nat) (x : St) : altT (l.take (i + 1)) f to x = layT (nthT l i) f to (altT (l.take i) f to x) := by
  rw [st.take_nthT l i h, altT_append, altT, altT]
theorem kid_lim (t : Tr) (hg : t.good = true) : ∀ u ∈ t.kids, Lim (layT u) (30 * u.nodes - 5) := fun u hu => lay_lim u.depth u (Nat.le_refl _) (goods_mem t.kids (by rw [Tr.good_eq, Bool.and_eq_true] at hg; exact hg.2) u hu)
theorem take_nodes (l : List Tr) (i : Nat) : nodesOf (l.take i) ≤ nodesOf l := st.nodesOf_le l i
/-- room for a kid, behind those ahead of it -/
theorem kid_room {t : Tr} {a : Nat} (h : Room t a) (i : Nat) (hi : i < t.kids.length) (c : Nat) (hc : c ≤ 30 * nodesOf (t.kids.take i) + 30) : Room (nthT t.kids i) (a + c) := by
  have h1 := st.nodes_nth t.kids i hi
  have h2 := st.depth_nth t.kids i hi
  have h3 := t.nodes_eq
  have h4 := t.depth_eq
  have h5 := h.nd
  have h6 := h.hi
  have h7 : 1 ≤ (nthT t.kids i).nodes := by rw [Tr.nodes_eq]; omega
  exact ⟨by have := h.lo; omega, by omega, by rw [h4] at h6; omega⟩
theorem cells_mv {w w' : World} {B g b o : Nat} {x : St} {v v' : Value} {t : Tr} {tv : Value} (h : st.Cells w b o t tv) (hb : b < w.heap.size) (hp : b < B) (hx : Bx w B g x v) (m : Mv g v v' w w') : st.Cells w' b o t tv :=
  h.same (m.block b hb (by have := hx.bg; omega) (fun e => by have := (ow.lt hx.own e.symm).1; omega))
def RowIs (t : Tr) : Prop := ∀ (f : Nat) (x : St) (a : Nat), Most x a a → Room t a → ∀ B g v w tv, Bx w B g x v → B ≤ w.heap.size → Is w (· < B) t tv →
  Calls Try.prog 49 #[.pointer (some ⟨g, 0, none⟩), tv, .int .i64 (f : Int)] w fun e w' => e = .returned (.int .i64 ((rowT t.kids f x).1 : Int)) ∧ ∃ v', Bx w' B g (rowT t.kids f x).2 v' ∧ Mv g v v' w w'
set_option maxHeartbeats 1000000 in
theorem row_any (t : Tr) (hg : t.good = true) (hO : ∀ i, i < t.kids.length → OneIs (nthT t.kids i)) : RowIs t := by
  intro f x a hm hr B g v w tv hx hB ht
  have HMo := (show Hid (∀ i, Most (rowT (t.kids.take i) f x).2 (a + 30 * nodesOf (t.kids.take i)) (a + 30 * nodesOf (t.kids.take i))) from fun i => row_most (t.kids.take i) (fun u hu => kid_lim t hg u (List.mem_of_mem_take hu)) f x a a (by have := hr.lo; omega) hr.lo hm)
  obtain ⟨o, cap, b, off, vs, rfl, hcap, hk⟩ := ht.form
  have hll : t.kids.length ≤ 9223372036854775807 := by
    by_cases h0 : 0 < t.kids.length
    · have := (hk 0 h0).2.1; omega
    · omega
  have HO := (show Hid (∀ (i : Nat) (hi : i < t.kids.length) (v1 : Value) (W : World), Bx W B g (rowT (t.kids.take i) f x).2 v1 → Mv g v v1 w W → Calls Try.prog 65 #[.pointer (some ⟨g, 0, none⟩), trV (nthT t.kids i) (vs i), .int .i64 ((rowT (t.kids.take i) f x).1 : Int)] W fun e w' => e = .returned (.int .i64 ((rowT (t.kids.take (i + 1)) f x).1 : Int)) ∧ ∃ v', Bx w' B g (rowT (t.kids.take (i + 1)) f x).2 v' ∧ Mv g v1 v' W w') from fun i hi v1 W h m => by
    have h1 := hO i hi (rowT (t.kids.take i) f x).1 (rowT (t.kids.take i) f x).2 (a + (30 * nodesOf (t.kids.take i) + 1)) ((HMo.out i).new.up (by omega) (by omega)) (kid_room hr i hi _ (by omega)) B g v1 W (vs i) h (Nat.le_trans hB m.size) (is_mv (hk i hi).2.2.2.2.2 hx hB m)
    rw [rowT_take t.kids i hi]
    exact h1)
  have HC := (show Hid (∀ (i : Nat) (hi : i < t.kids.length) (v1 : Value) (W : World), Mv g v v1 w W → st.Cells W b (off + i * 8) (nthT t.kids i) (vs i)) from fun i hi v1 W m => cells_mv (hk i hi).2.2.2.2.1 (hk i hi).2.2.1 (hk i hi).2.2.2.1 hx m)
  have HSh := (show Hid (∀ (i : Nat) (hi : i < t.kids.length), o = some ⟨b, off, none⟩ ∧ cap ≤ 9223372036854775807 ∧ ∃ (o : Option Addr) (n c : Nat), vs i = .slice o n c) from fun i hi => ⟨(hk i hi).1, (hk i hi).2.1, (hk i hi).2.2.2.2.2.shape⟩)
  have HX := (show Hid (Bx w B g x v) from hx)
  have HR0 := (show Hid (rowT (t.kids.take 0) f x = (f, x)) from by show _ = _; rw [List.take_zero, rowT])
  have HRn := (show Hid (t.kids.take t.kids.length = t.kids) from List.take_length)
  clear hk ht hx hm hr HMo hO hg
  generalize t.kids = l at *
  go_enter Try.func49, Try.ntmps49
  go_wp2_with (fail)
  go_loopw [2, 11] (fun u y wr => ∃ (i : Nat) (v1 : Value), u = .int .i64 ((rowT (l.take i) f x).1 : Int) ∧ y = .int .i64 (i : Int) ∧ i ≤ l.length ∧ Hid (Bx wr B g (rowT (l.take i) f x).2 v1) ∧ Hid (Mv g v v1 w wr)) (fun _ y _ => l.length - (intOf y).toNat)
  case atStart => exact ⟨0, v, by rw [HR0.out], rfl, by omega, by rw [HR0.out]; exact HX, Mv.refl _ _ _⟩
  case round =>
    obtain ⟨i, v1, rfl, rfl, hil, H1, H2⟩ := hrel
    by_cases hend : i < l.length
    · obtain ⟨rfl, hcm, o2, n2, cap2, hv2⟩ := HSh.out i hend
      have hcells := HC.out i hend v1 wr H2.out
      rw [hv2] at hcells
      obtain ⟨k0, k1, k2, k3, k4, k5, k6, k7⟩ := hcells
      have HO1 := (show Hid (∀ (W : World), Below wr.heap.size wr W → Calls Try.prog 65 #[.pointer (some ⟨g, 0, none⟩), trV (nthT l i) (.slice o2 n2 cap2), .int .i64 ((rowT (l.take i) f x).1 : Int)] W fun e w' => e = .returned (.int .i64 ((rowT (l.take (i + 1)) f x).1 : Int)) ∧ ∃ v', Bx w' B g (rowT (l.take (i + 1)) f x).2 v' ∧ Mv g v1 v' W w') from fun W hW => by
        have := HO.out i hend v1 W (H1.out.later hW) (H2.out.trans (Mv.of hW))
        rw [hv2] at this
        exact this)
      have HM2 := (show Hid (∀ (W W' : World) (v' : Value), Below wr.heap.size wr W → Mv g v1 v' W W' → Mv g v v' w W') from fun W W' v' hW m => H2.out.trans ((Mv.of hW).trans m))
      clear hv2 HC HSh HO
      generalize rowT (l.take i) f x = y at *
      obtain ⟨y2, hy2⟩ : ∃ y2, y2 = rowT (l.take (i + 1)) f x := ⟨_, rfl⟩
      rw [← hy2] at HO1
      have HY := (show Hid (rowT (l.take (i + 1)) f x = y2) from hy2.symm)
      clear hy2
      generalize nthT l i = u at *
      go_wp2_with (go_at_call 65; refine (HO1.out _ (nf.below_alloc _ _)).mono ?_; rintro e w2 ⟨rfl, v2, hx2, m2⟩)
      go_roundw
      case rel => exact ⟨i + 1, v2, by rw [HY.out], by go_num, by omega, by rw [HY.out]; exact hx2, HM2.out _ _ _ (nf.below_alloc _ _) m2⟩
      case measure => simp [intOf]; omega
    · have e : i = l.length := by omega
      subst e
      rw [HRn.out] at H1 ⊢
      go_wp2_with (fail)
      go_ret
      exact ⟨rfl, v1, H1.out, H2.out⟩
end Go.Proofs.Ytkdkibnjfgcppaa.nb

namespace Go.Proofs.Ytkdkibnjfgcppaa.nb
open Go.ChangeShapes Go.WideShapes Go.ChangeAt Go.RowKit
open st (Tr Q4 nodesOf goods okNode Is Box nthT)
open nf (Ed)
set_option linter.unusedVariables false
set_option maxRecDepth 100000

/-- a time more, ahead of which one may leave -/
def upStep (L : Lay) (least to i : Nat) (y : Nat × St) : Nat × St :=
  let z := if least ≤ i then y.2.free y.1 to else y.2
  (z.n, L y.1 z.n z.new)
/-- behind so many times -/
def upN (L : Lay) (least to f : Nat) (x : St) : Nat → Nat × St
  | 0 => (f, x)
  | k + 1 => upStep L least to k (upN L least to f x k)
theorem upTo_from (L : Lay) (least to : Nat) (f : Nat) (x : St) : ∀ (k i : Nat), upTo L least to k i (upN L least to f x i).1 (upN L least to f x i).2 = (upN L least to f x (i + k)).2.free (upN L least to f x (i + k)).1 to
  | 0, i => rfl
  | k + 1, i => by
    have := upTo_from L least to f x k (i + 1)
    rw [upTo]
    rw [show i + (k + 1) = i + 1 + k by omega]
    exact this
theorem upTo_eq (L : Lay) (least to most f : Nat) (x : St) : upTo L least to most 0 f x = (upN L least to f x most).2.free (upN L least to f x most).1 to := by
  have := upTo_from L least to f x most 0
  rw [Nat.zero_add] at this
  exact this
theorem upN_most {L : Lay} {G : Nat} (h : Lim L G) (least to f : Nat) (x : St) (a b : Nat) (hx : Most x a b) (ha : 2000 + G ≤ a) (hb : 16000 + G ≤ b) : ∀ k, Most (upN L least to f x k).2 (a + k) (b + k)
  | 0 => hx
  | k + 1 => by
    have ih := upN_most h least to f x a b hx ha hb k
    have hy : Most (if least ≤ k then (upN L least to f x k).2.free (upN L least to f x k).1 to else (upN L least to f x k).2) (a + k) (b + k + 1) := by
      split
      · exact ih.free _ to
      · exact ih.up (Nat.le_refl _) (by omega)
    exact (h.step _ _ _ (a + k + 1) (b + k + 1) hy.new (by omega) (by omega)).up (by omega) (by omega)
def UpToIs (u : Tr) : Prop := ∀ (least most f to : Nat) (x : St) (a : Nat), least ≤ 20 → most ≤ 20 → Most x a a → 16000 + (30 * u.nodes - 5) ≤ a → Room u (a + 60) → ∀ B g v w tv, Bx w B g x v → B ≤ w.heap.size → Is w (· < B) u tv →
  Calls Try.prog 51 #[.pointer (some ⟨g, 0, none⟩), trV u tv, .int .i64 (least : Int), .int .i64 (most : Int), .int .i64 (f : Int), .int .i64 (to : Int)] w fun e w' => e = .returned (.tuple #[]) ∧ ∃ v', Bx w' B g (upTo (layT u) least to most 0 f x) v' ∧ Mv g v v' w w'
set_option maxHeartbeats 2000000 in
theorem upTo_any (u : Tr) (hg : u.good = true) (hO : OneIs u) : UpToIs u := by
  intro least most f to x a hl20 hm20 hm ha hr B g v w tv hx hB ht
  have hr1 := hr.hi
  have HMo := (show Hid (∀ k, Most (upN (layT u) least to f x k).2 (a + k) (a + k)) from upN_most (lay_lim u.depth u (Nat.le_refl _) hg) least to f x a a hm (by omega) ha)
  obtain ⟨w1, hw1⟩ : ∃ w1, w1 = w.alloc (.cells #[.int .i64 u.kind, .int .u64 u.set.a, .int .u64 u.set.b, .int .u64 u.set.c, .int .u64 u.set.d, .int .i64 u.min, .int .i64 u.max, tv] 48) := ⟨_, rfl⟩
  have b1 : Below w.heap.size w w1 := by rw [hw1]; exact (Below.refl _ _).alloc (Nat.le_refl _) _
  have bx1 : Box w1 w.heap.size u tv := by rw [hw1]; exact st.box_new w u tv
  have hx1 := hx.later b1
  have hB1 : B ≤ w1.heap.size := Nat.le_trans hB b1.size
  have ht1 := is_mv ht hx hB (Mv.of (g := g) (v := v) b1)
  have HM := (show Hid (Mv g v v w w1) from Mv.of b1)
  have HX1 := (show Hid (Bx w1 B g x v) from hx1)
  have HBx := (show Hid (∀ W v1, Mv g v v1 w1 W → Box W w.heap.size u tv) from fun W v1 m => box_mv bx1 hx1 m)
  have HO := (show Hid (∀ (k : Nat) (z : St), k ≤ 20 → Most z (a + k) (a + k + 1) → ∀ (v1 : Value) (W : World) (f : Nat), Bx W B g z v1 → Mv g v v1 w1 W → Calls Try.prog 65 #[.pointer (some ⟨g, 0, none⟩), trV u tv, .int .i64 (f : Int)] W fun e w' => e = .returned (.int .i64 (z.n : Int)) ∧ ∃ v', Bx w' B g (layT u f z.n z.new) v' ∧ Mv g v1 v' W w') from fun k z hk hz v1 W f h m => hO f z (a + 60) (hz.new.up (by omega) (by omega)) hr B g v1 W tv h (Nat.le_trans hB1 m.size) (is_mv ht1 hx1 hB1 m))
  have HFr := (show Hid (∀ (k : Nat) (z : St) (f : Nat), k ≤ 20 → Most z (a + k) (a + k) → ∀ (v1 : Value) (W : World), Bx W B g z v1 → Mv g v v1 w1 W → Calls Try.prog 48 #[.pointer (some ⟨g, 0, none⟩), .int .i64 (f : Int), .int .i64 (to : Int)] W fun e w' => e = .returned (.tuple #[]) ∧ ∃ v', Bx w' B g (z.free f to) v' ∧ Mv g v1 v' W w') from fun k z f hk hz v1 W h m => free_any z f to (by have := hz.e; omega) B g v1 W h (Nat.le_trans hB1 m.size))
  have HEq := (show Hid (upTo (layT u) least to most 0 f x = (upN (layT u) least to f x most).2.free (upN (layT u) least to f x most).1 to) from upTo_eq _ _ _ _ _ _)
  clear ht ht1 hx hm hr b1 bx1 hx1 hO hg hB hB1
  go_enter Try.func51, Try.ntmps51
  go_wp2_with (fail)
  rw [← hw1]
  clear hw1
  go_loopw [4, 14] (fun p y wr => ∃ (i : Nat) (v1 : Value), p = .int .i64 ((upN (layT u) least to f x i).1 : Int) ∧ y = .int .i64 (i : Int) ∧ i ≤ most ∧ Hid (Bx wr B g (upN (layT u) least to f x i).2 v1) ∧ Hid (Mv g v v1 w1 wr)) (fun _ y _ => most - (intOf y).toNat)
  case atStart => exact ⟨0, v, rfl, rfl, by omega, HX1, Mv.refl _ _ _⟩
  case round =>
    obtain ⟨i, v1, rfl, rfl, him, H1, H2⟩ := hrel
    have hmo := HMo.out i
    by_cases hend : i < most
    · by_cases hli : least ≤ i
      · have HS := (show Hid (upN (layT u) least to f x (i + 1) = ((upN (layT u) least to f x i).2.n, layT u (upN (layT u) least to f x i).1 (upN (layT u) least to f x i).2.n ((upN (layT u) least to f x i).2.free (upN (layT u) least to f x i).1 to).new)) from by show _ = _; rw [upN]; simp only [upStep, if_pos hli]; rfl)
        have c49 := HFr.out i (upN (layT u) least to f x i).2 (upN (layT u) least to f x i).1 (by omega) hmo v1 wr H1.out H2.out
        have c74 := fun v2 W h m => HO.out i ((upN (layT u) least to f x i).2.free (upN (layT u) least to f x i).1 to) (by omega) (hmo.free _ _) v2 W (upN (layT u) least to f x i).1 h m
        generalize upN (layT u) least to f x i = y at *
        clear HFr HO HMo hmo
        go_wp2_with (first | (go_at_call 48; refine c49.mono ?_; rintro e w2 ⟨rfl, v2, hx2, m2⟩; clear c49; have c5 := c74 v2 w2 hx2 (H2.out.trans m2); clear c74; have b2 := HBx.out w2 v2 (H2.out.trans m2)) | (refine wpList_load_row rfl 48 (.tmp 7) rfl w.heap.size rfl 48 _ (0, 0) _ b2 Try.underlying48 rfl info48 ?_) | (go_at_call 65; refine c5.mono ?_; rintro e w3 ⟨rfl, v3, hx3, m3⟩))
        go_roundw
        case rel => exact ⟨i + 1, v3, by (rw [HS.out]; try rfl), by go_num, by omega, by rw [HS.out]; exact hx3, H2.out.trans (m2.trans m3)⟩
        case measure => simp [intOf]; omega
      · have HS := (show Hid (upN (layT u) least to f x (i + 1) = ((upN (layT u) least to f x i).2.n, layT u (upN (layT u) least to f x i).1 (upN (layT u) least to f x i).2.n (upN (layT u) least to f x i).2.new)) from by show _ = _; rw [upN]; simp only [upStep, if_neg hli])
        have c5 := HO.out i (upN (layT u) least to f x i).2 (by omega) (hmo.up (Nat.le_refl _) (by omega)) v1 wr (upN (layT u) least to f x i).1 H1.out H2.out
        have b2 := HBx.out wr v1 H2.out
        generalize upN (layT u) least to f x i = y at *
        clear HFr HO HMo hmo
        go_wp2_with (first | (refine wpList_load_row rfl 48 (.tmp 7) rfl w.heap.size rfl 48 _ (0, 0) _ b2 Try.underlying48 rfl info48 ?_) | (go_at_call 65; refine c5.mono ?_; rintro e w3 ⟨rfl, v3, hx3, m3⟩))
        go_roundw
        case rel => exact ⟨i + 1, v3, by (rw [HS.out]; try rfl), by go_num, by omega, by rw [HS.out]; exact hx3, H2.out.trans m3⟩
        case measure => simp [intOf]; omega
    · have e : i = most := by omega
      subst e
      have c49 := HFr.out i (upN (layT u) least to f x i).2 (upN (layT u) least to f x i).1 (by omega) hmo v1 wr H1.out H2.out
      rw [← HEq.out] at c49
      generalize upN (layT u) least to f x i = y at *
      clear HFr HO HMo hmo HEq
      go_wp2_with (go_at_call 48; refine c49.mono ?_; rintro e w2 ⟨rfl, v2, hx2, m2⟩)
      go_end0
      exact ⟨rfl, v2, hx2, HM.out.trans (H2.out.trans m2)⟩
end Go.Proofs.Ytkdkibnjfgcppaa.nb

namespace Go.Proofs.Ytkdkibnjfgcppaa.nb
open Go.ChangeShapes Go.WideShapes Go.ChangeAt Go.RowKit
open st (Tr Q4 nodesOf goods okNode Is Box nthT)
open nf (Ed)
set_option linter.unusedVariables false
set_option maxRecDepth 100000

theorem times_snoc (L : Lay) : ∀ (k f : Nat) (x : St), times L (k + 1) f x = ((times L k f x).2.n, L (times L k f x).1 (times L k f x).2.n (times L k f x).2.new)
  | 0, f, x => rfl
  | k + 1, f, x => by
    rw [times, times_snoc L k]
    rfl
def AgainIs (u : Tr) : Prop := ∀ (least f to : Nat) (x : St) (a : Nat), least ≤ 20 → Most x a a → 16000 + (30 * u.nodes - 5) ≤ a → Room u (a + 60) → ∀ B g v w tv, Bx w B g x v → B ≤ w.heap.size → Is w (· < B) u tv →
  Calls Try.prog 50 #[.pointer (some ⟨g, 0, none⟩), trV u tv, .int .i64 (least : Int), .int .i64 (f : Int), .int .i64 (to : Int)] w fun e w' => e = .returned (.tuple #[]) ∧ ∃ v', Bx w' B g (again (layT u) least f to x) v' ∧ Mv g v v' w w'
set_option maxHeartbeats 4000000 in
theorem again_any (u : Tr) (hg : u.good = true) (hL : LayIs u) : AgainIs u := by
  intro least f to x a hl20 hm ha hr B g v w tv hx hB ht
  have hr1 := hr.hi
  have hr2 := hr.nd
  have hlim := lay_lim u.depth u (Nat.le_refl _) hg
  have HMo := (show Hid (∀ k, Most (times (layT u) k f x).2 (a + k) a) from fun k => times_most hlim k f x a a hm (by omega) ha)
  obtain ⟨w1, hw1⟩ : ∃ w1, w1 = w.alloc (.cells #[.int .i64 u.kind, .int .u64 u.set.a, .int .u64 u.set.b, .int .u64 u.set.c, .int .u64 u.set.d, .int .i64 u.min, .int .i64 u.max, tv] 48) := ⟨_, rfl⟩
  have b1 : Below w.heap.size w w1 := by rw [hw1]; exact (Below.refl _ _).alloc (Nat.le_refl _) _
  have bx1 : Box w1 w.heap.size u tv := by rw [hw1]; exact st.box_new w u tv
  have hx1 := hx.later b1
  have hB1 : B ≤ w1.heap.size := Nat.le_trans hB b1.size
  have ht1 := is_mv ht hx hB (Mv.of (g := g) (v := v) b1)
  have HM := (show Hid (Mv g v v w w1) from Mv.of b1)
  have HX1 := (show Hid (Bx w1 B g x v) from hx1)
  have HBx := (show Hid (∀ W v1, Mv g v v1 w1 W → Box W w.heap.size u tv) from fun W v1 m => box_mv bx1 hx1 m)
  have HO := (show Hid (∀ (k : Nat) (z : St), k ≤ 20 → Most z (a + k) a → ∀ (v1 : Value) (W : World) (f : Nat), Bx W B g z v1 → Mv g v v1 w1 W → Calls Try.prog 65 #[.pointer (some ⟨g, 0, none⟩), trV u tv, .int .i64 (f : Int)] W fun e w' => e = .returned (.int .i64 (z.n : Int)) ∧ ∃ v', Bx w' B g (layT u f z.n z.new) v' ∧ Mv g v1 v' W w') from fun k z hk hz v1 W f h m => one_any u hL f z (a + 60) (hz.new.up (by omega) (by omega)) hr B g v1 W tv h (Nat.le_trans hB1 m.size) (is_mv ht1 hx1 hB1 m))
  have HFr := (show Hid (∀ (z : St) (f t : Nat), z.es.length ≤ 1000000 → ∀ (v1 : Value) (W : World), Bx W B g z v1 → Mv g v v1 w1 W → Calls Try.prog 48 #[.pointer (some ⟨g, 0, none⟩), .int .i64 (f : Int), .int .i64 (t : Int)] W fun e w' => e = .returned (.tuple #[]) ∧ ∃ v', Bx w' B g (z.free f t) v' ∧ Mv g v v' w1 w') from fun z f t hz v1 W h m => (free_any z f t hz B g v1 W h (Nat.le_trans hB1 m.size)).mono fun e w' ⟨h1, v', h2, h3⟩ => ⟨h1, v', h2, m.trans h3⟩)
  have HSt := (show Hid (∀ (z : St), z.n ≤ 1000000 → ∀ (v1 : Value) (W : World), Bx W B g z v1 → Mv g v v1 w1 W → Calls Try.prog 66 #[.pointer (some ⟨g, 0, none⟩)] W fun e w' => e = .returned (.int .i64 (z.n : Int)) ∧ Bx w' B g z.new v1 ∧ Mv g v v1 w1 w') from fun z hz v1 W h m => (state_any z hz B g v1 W h).mono fun e w' ⟨h1, h2, h3⟩ => ⟨h1, h2, m.trans h3⟩)
  have HLy := (show Hid (∀ (z : St) (f t : Nat), Most z (a + 60) (a + 60) → ∀ (v1 : Value) (W : World), Bx W B g z v1 → Mv g v v1 w1 W → Calls Try.prog 31 #[.pointer (some ⟨g, 0, none⟩), trV u tv, .int .i64 (f : Int), .int .i64 (t : Int)] W fun e w' => e = .returned (.tuple #[]) ∧ (layT u f t z).es.length ≤ 1000000 ∧ ∃ v', Bx w' B g (layT u f t z) v' ∧ Mv g v v' w1 w') from fun z f t hz v1 W h m => (hL f t z (a + 60) hz hr B g v1 W tv h (Nat.le_trans hB1 m.size) (is_mv ht1 hx1 hB1 m)).mono fun e w' ⟨h1, v', h2, h3⟩ => ⟨h1, by
      have := (hlim.add f t z (a + 60) (a + 60) (by omega) (by omega) hz).e
      have h4 := u.depth_eq
      rw [h4] at hr1
      omega, v', h2, m.trans h3⟩)
  clear ht ht1 hx hm hr b1 bx1 hx1 hg hB hB1 hlim
  go_enter Try.func50, Try.ntmps50
  go_wp2_with (fail)
  rw [← hw1]
  clear hw1
  go_loopw [3, 14] (fun p y wr => ∃ (i : Nat) (v1 : Value), p = .int .i64 ((times (layT u) i f x).1 : Int) ∧ y = .int .i64 (i : Int) ∧ i ≤ least - 1 ∧ Hid (Bx wr B g (times (layT u) i f x).2 v1) ∧ Hid (Mv g v v1 w1 wr)) (fun _ y _ => least - (intOf y).toNat)
  case atStart => exact ⟨0, v, rfl, rfl, by omega, HX1, Mv.refl _ _ _⟩
  case round =>
    obtain ⟨i, v1, rfl, rfl, him, H1, H2⟩ := hrel
    have hmo := HMo.out i
    by_cases hend : i + 1 < least
    · have HS := (show Hid (times (layT u) (i + 1) f x = ((times (layT u) i f x).2.n, layT u (times (layT u) i f x).1 (times (layT u) i f x).2.n (times (layT u) i f x).2.new)) from times_snoc _ _ _ _)
      have c5 := HO.out i (times (layT u) i f x).2 (by omega) hmo v1 wr (times (layT u) i f x).1 H1.out H2.out
      have b2 := HBx.out wr v1 H2.out
      have q : (i : Int) < (least : Int) - 1 := by omega
      generalize times (layT u) i f x = y at *
      clear HFr HO HMo hmo HSt HLy
      go_wp2_with (first | (refine wpList_load_row rfl 48 (.tmp 6) rfl w.heap.size rfl 48 _ (0, 0) _ b2 Try.underlying48 rfl info48 ?_) | (go_at_call 65; refine c5.mono ?_; rintro e w3 ⟨rfl, v3, hx3, m3⟩))
      go_roundw
      case rel => exact ⟨i + 1, v3, by (rw [HS.out]; try rfl), by go_num, by omega, by rw [HS.out]; exact hx3, H2.out.trans m3⟩
      case measure => simp [intOf]; omega
    · have e : i = least - 1 := by omega
      have q : (least : Int) - 1 ≤ (i : Int) := by omega
      have hn1 := hmo.n
      have he1 := hmo.e
      have HE := (show Hid (times (layT u) i f x = times (layT u) (least - 1) f x) from by show _ = _; rw [e])
      have c75 := HSt.out (times (layT u) i f x).2 (by omega) v1 wr H1.out H2.out
      by_cases h0 : 0 < least
      · have HG := (show Hid (again (layT u) least f to x = (layT u (times (layT u) i f x).2.n ((times (layT u) i f x).2.n + 1) (((times (layT u) i f x).2.new.free (times (layT u) i f x).1 (times (layT u) i f x).2.n).new.free ((times (layT u) i f x).2.n + 1) (times (layT u) i f x).2.n)).free ((times (layT u) i f x).2.n + 1) to) from by show _ = _; rw [HE.out]; unfold again; dsimp only; rw [if_pos h0]; rfl)
        have h60 : Most (((times (layT u) i f x).2.new.free (times (layT u) i f x).1 (times (layT u) i f x).2.n).new.free ((times (layT u) i f x).2.n + 1) (times (layT u) i f x).2.n) (a + 60) (a + 60) := ((hmo.new.free _ _).new.free _ _).up (by omega) (by omega)
        clear HE HMo HO hmo
        generalize times (layT u) i f x = y at *
        have c49 := HFr.out y.2.new y.1 y.2.n (by simp [St.new]; omega)
        have d75 := HSt.out (y.2.new.free y.1 y.2.n) (by simp [St.new, St.free]; omega)
        have d49 := HFr.out (y.2.new.free y.1 y.2.n).new (y.2.n + 1) y.2.n (by simp [St.new, St.free]; omega)
        have c27 := HLy.out _ y.2.n (y.2.n + 1) h60
        have e49 := HFr.out (layT u y.2.n (y.2.n + 1) ((y.2.new.free y.1 y.2.n).new.free (y.2.n + 1) y.2.n)) (y.2.n + 1) to
        rw [← HG.out] at e49
        have hzn : (y.2.new.free y.1 y.2.n).n = y.2.n + 1 := rfl
        rw [hzn] at d75
        clear HFr HSt HLy HG hzn h60
        go_wp2_with (first | (go_at_call 66; refine c75.mono ?_; rintro e w2 ⟨rfl, hx2, m2⟩; clear c75; have a49 := c49 v1 w2 hx2 m2; clear c49) | (go_at_call 48; refine a49.mono ?_; rintro e w3 ⟨rfl, v3, hx3, m3⟩; clear a49; have a75 := d75 v3 w3 hx3 m3; clear d75) | (go_at_call 66; refine a75.mono ?_; rintro e w4 ⟨rfl, hx4, m4⟩; clear a75; have b49 := d49 v3 w4 hx4 m4; clear d49) | (go_at_call 48; refine b49.mono ?_; rintro e w5 ⟨rfl, v5, hx5, m5⟩; clear b49; have a27 := c27 v5 w5 hx5 m5; clear c27; have b2 := HBx.out w5 v5 m5) | (refine wpList_load_row rfl 48 (.tmp 6) rfl w.heap.size rfl 48 _ (0, 0) _ b2 Try.underlying48 rfl info48 ?_) | (go_at_call 31; refine a27.mono ?_; rintro e w6 ⟨rfl, hlen, v6, hx6, m6⟩; clear a27; have f49 := e49 hlen v6 w6 hx6 m6; clear e49) | (go_at_call 48; refine f49.mono ?_; rintro e w7 ⟨rfl, v7, hx7, m7⟩; clear f49))
        go_end0
        exact ⟨rfl, v7, hx7, HM.out.trans m7⟩
      · have HG := (show Hid (again (layT u) least f to x = (layT u (times (layT u) i f x).2.n (times (layT u) i f x).2.n ((times (layT u) i f x).2.new.free (times (layT u) i f x).1 (times (layT u) i f x).2.n)).free (times (layT u) i f x).2.n to) from by show _ = _; rw [HE.out]; unfold again; dsimp only; rw [if_neg h0])
        have h60 : Most ((times (layT u) i f x).2.new.free (times (layT u) i f x).1 (times (layT u) i f x).2.n) (a + 60) (a + 60) := (hmo.new.free _ _).up (by omega) (by omega)
        clear HE HMo HO hmo
        have h00 : least = 0 := by omega
        subst h00
        generalize times (layT u) i f x = y at *
        have c49 := HFr.out y.2.new y.1 y.2.n (by simp [St.new]; omega)
        have c27 := HLy.out _ y.2.n y.2.n h60
        have e49 := HFr.out (layT u y.2.n y.2.n (y.2.new.free y.1 y.2.n)) y.2.n to
        rw [← HG.out] at e49
        clear HFr HSt HLy HG h60
        go_wp2_with (first | (go_at_call 66; refine c75.mono ?_; rintro e w2 ⟨rfl, hx2, m2⟩; clear c75; have a49 := c49 v1 w2 hx2 m2; clear c49) | (go_at_call 48; refine a49.mono ?_; rintro e w3 ⟨rfl, v3, hx3, m3⟩; clear a49; have a27 := c27 v3 w3 hx3 m3; clear c27; have b2 := HBx.out w3 v3 m3) | (refine wpList_load_row rfl 48 (.tmp 6) rfl w.heap.size rfl 48 _ (0, 0) _ b2 Try.underlying48 rfl info48 ?_) | (go_at_call 31; refine a27.mono ?_; rintro e w6 ⟨rfl, hlen, v6, hx6, m6⟩; clear a27; have f49 := e49 hlen v6 w6 hx6 m6; clear e49) | (go_at_call 48; refine f49.mono ?_; rintro e w7 ⟨rfl, v7, hx7, m7⟩; clear f49))
        go_end0
        exact ⟨rfl, v7, hx7, HM.out.trans m7⟩
end Go.Proofs.Ytkdkibnjfgcppaa.nb

namespace Go.Proofs.Ytkdkibnjfgcppaa.nb
open Go.ChangeShapes Go.WideShapes Go.ChangeAt Go.RowKit
open st (Tr Q4 nodesOf goods okNode Is Box nthT)
open nf (Ed)
set_option linter.unusedVariables false
set_option maxRecDepth 100000

theorem layT_eq (t : Tr) (f to : Nat) (x : St) : layT t f to x = if x.full = true then x else if t.kind = 1 then x.over t.set f to else if t.kind = 2 then (rowT t.kids f x).2.free (rowT t.kids f x).1 to else if t.kind = 3 then altT t.kids f to x
    else if t.kind = 4 then (if t.max = -1 then again (headT t.kids) t.min.toNat f to x else upTo (headT t.kids) t.min.toNat to t.max.toNat 0 f x) else x := by
  cases t
  rw [layT]
  rfl
/-- as lay has put its tree into a cell -/
structure Beg (t : Tr) (x : St) (a B g : Nat) (v : Value) (w : World) (tv : Value) (w1 : World) : Prop where
  ws : w1 = w.alloc (.cells #[.int .i64 t.kind, .int .u64 t.set.a, .int .u64 t.set.b, .int .u64 t.set.c, .int .u64 t.set.d, .int .i64 t.min, .int .i64 t.max, tv] 48)
  bl : Below w.heap.size w w1
  bx : Box w1 w.heap.size t tv
  x1 : Bx w1 B g x v
  b1 : B ≤ w1.heap.size
  t1 : Is w1 (· < B) t tv
  m1 : Mv g v v w w1
theorem beg_of {t : Tr} {x : St} {a B g : Nat} {v : Value} {w : World} {tv : Value} (hx : Bx w B g x v) (hB : B ≤ w.heap.size) (ht : Is w (· < B) t tv) : ∃ w1, Beg t x a B g v w tv w1 :=
  ⟨_, rfl, (Below.refl _ _).alloc (Nat.le_refl _) _, st.box_new w t tv, hx.later ((Below.refl _ _).alloc (Nat.le_refl _) _), by simp; omega, is_mv ht hx hB (Mv.of (g := g) (v := v) ((Below.refl _ _).alloc (Nat.le_refl _) _)), Mv.of ((Below.refl _ _).alloc (Nat.le_refl _) _)⟩
theorem box_cells {w : World} {k : Nat} {t : Tr} {tv : Value} (h : Box w k t tv) : w.cell? ⟨k, 0, none⟩ = some (.int .i64 t.kind) ∧ w.cell? ⟨k, 1, none⟩ = some (.int .u64 (t.set.a : Int)) ∧ w.cell? ⟨k, 2, none⟩ = some (.int .u64 (t.set.b : Int)) ∧ w.cell? ⟨k, 3, none⟩ = some (.int .u64 (t.set.c : Int)) ∧ w.cell? ⟨k, 4, none⟩ = some (.int .u64 (t.set.d : Int)) ∧ w.cell? ⟨k, 5, none⟩ = some (.int .i64 t.min) ∧ w.cell? ⟨k, 6, none⟩ = some (.int .i64 t.max) ∧ w.cell? ⟨k, 7, none⟩ = some tv := by
  unfold Box at h
  refine ⟨?_, ?_, ?_, ?_, ?_, ?_, ?_, ?_⟩ <;> (rw [Lib.cell_of_heap h]; rfl)
section
variable {t : Tr} {f to : Nat} {x : St} {a B g : Nat} {v : Value} {w : World} {tv : Value}
def Goal (t : Tr) (f to : Nat) (x : St) (B g : Nat) (v : Value) (w : World) (tv : Value) : Prop := Calls Try.prog 31 #[.pointer (some ⟨g, 0, none⟩), trV t tv, .int .i64 (f : Int), .int .i64 (to : Int)] w fun e w' => e = .returned (.tuple #[]) ∧ ∃ v', Bx w' B g (layT t f to x) v' ∧ Mv g v v' w w'
theorem lay_full (hm : Most x a a) (hr : Room t a) (hx : Bx w B g x v) (hB : B ≤ w.heap.size) (ht : Is w (· < B) t tv) (hf : x.full = true) : Goal t f to x B g v w tv := by
  obtain ⟨w1, hw1, _, _, x1, _, _, m1⟩ := beg_of (a := a) hx hB ht
  have h28 := full_any x (by have := hm.n; have := hr.hi; omega) (by have := hm.e; have := hr.hi; omega) B g v w1 x1
  rw [hf, hw1] at h28
  have HW := (show Hid _ from hw1)
  clear hw1
  unfold Goal
  rw [layT_full t f to x hf]
  have HX := (show Hid _ from x1)
  have HM := (show Hid _ from m1)
  clear x1 m1 hx ht hm hr
  go_enter Try.func31, Try.ntmps31
  go_wp2_with (go_at_call 32; refine h28.mono ?_; rintro e w2 ⟨rfl, hw2⟩; have hw3 : w1 = w2 := HW.out.trans hw2.symm; subst hw3; clear hw2 h28)
  (try simp only [Exit.inBlock, Exit.then]); refine bodyPost_ret (results_none rfl _ _ _) rfl ?_
  exact ⟨rfl, v, HX.out, HM.out⟩
set_option maxHeartbeats 1000000 in
theorem lay_1 (hm : Most x a a) (hr : Room t a) (hx : Bx w B g x v) (hB : B ≤ w.heap.size) (ht : Is w (· < B) t tv) (hf : x.full = false) (hk : t.kind = 1) : Goal t f to x B g v w tv := by
  obtain ⟨w1, hw1, _, bx, x1, b1, _, m1⟩ := beg_of (a := a) hx hB ht
  have he : x.es.length ≤ 1000000 := by have := hm.e; have := hr.hi; omega
  have h28 := full_any x (by have := hm.n; have := hr.hi; omega) he B g v w1 x1
  rw [hf, hw1] at h28
  have HW := (show Hid _ from hw1)
  clear hw1
  unfold Goal
  rw [layT_eq, if_neg (by rw [hf]; decide), if_pos hk]
  have c48 := over_any x t.set f to he B g v w1 x1 b1
  obtain ⟨k0, k1, k2, k3, k4, k5, k6, k7⟩ := box_cells bx
  rw [hk] at k0
  clear hk
  have HM := (show Hid _ from m1)
  clear x1 m1 hx ht hm hr bx
  go_enter Try.func31, Try.ntmps31
  go_wp2_with (first | (go_at_call 32; refine h28.mono ?_; rintro e w2 ⟨rfl, hw2⟩; have hw3 : w1 = w2 := HW.out.trans hw2.symm; subst hw3; clear hw2 h28) | (go_at_call 47; refine c48.mono ?_; rintro e w3 ⟨rfl, v3, hx3, m3⟩))
  go_end0
  exact ⟨rfl, v3, hx3, HM.out.trans m3⟩
set_option maxHeartbeats 1000000 in
theorem lay_2 (hg : t.good = true) (hR : RowIs t) (hm : Most x a a) (hr : Room t a) (hx : Bx w B g x v) (hB : B ≤ w.heap.size) (ht : Is w (· < B) t tv) (hf : x.full = false) (hk : t.kind = 2) : Goal t f to x B g v w tv := by
  obtain ⟨w1, hw1, _, bx, x1, b1, t1, m1⟩ := beg_of (a := a) hx hB ht
  have he : x.es.length ≤ 1000000 := by have := hm.e; have := hr.hi; omega
  have h28 := full_any x (by have := hm.n; have := hr.hi; omega) he B g v w1 x1
  rw [hf, hw1] at h28
  have HW := (show Hid _ from hw1)
  clear hw1
  unfold Goal
  rw [layT_eq, if_neg (by rw [hf]; decide), if_neg (by omega), if_pos hk]
  have c50 := hR f x a hm hr B g v w1 tv x1 b1 t1
  have hmo := (row_most t.kids (kid_lim t hg) f x a a (by have := hr.lo; omega) hr.lo hm).e
  have hnd : 30 * nodesOf t.kids ≤ 15360 := by have := hr.nd; have := t.nodes_eq; omega
  have he2 : (rowT t.kids f x).2.es.length ≤ 1000000 := by have := hr.hi; omega
  have c49 := fun v1 W h => free_any (rowT t.kids f x).2 (rowT t.kids f x).1 to he2 B g v1 W h
  obtain ⟨k0, k1, k2, k3, k4, k5, k6, k7⟩ := box_cells bx
  rw [hk] at k0
  clear hk
  obtain ⟨o, n, cap, rfl⟩ := t1.shape
  have HM := (show Hid _ from m1)
  have hB1 := b1
  clear x1 m1 hx ht hm hr bx t1 hR hmo hnd he2
  generalize rowT t.kids f x = y at *
  go_enter Try.func31, Try.ntmps31
  go_wp2_with (first | (go_at_call 32; refine h28.mono ?_; rintro e w2 ⟨rfl, hw2⟩; have hw3 : w1 = w2 := HW.out.trans hw2.symm; subst hw3; clear hw2 h28) | (go_at_call 49; refine c50.mono ?_; rintro e w3 ⟨rfl, v3, hx3, m3⟩; clear c50; have a49 := c49 v3 w3 hx3 (Nat.le_trans hB1 m3.size); clear c49) | (go_at_call 48; refine a49.mono ?_; rintro e w4 ⟨rfl, v4, hx4, m4⟩))
  go_end0
  exact ⟨rfl, v4, hx4, HM.out.trans (m3.trans m4)⟩
set_option maxHeartbeats 2000000 in
theorem lay_3 (hg : t.good = true) (hL : ∀ i, i < t.kids.length → LayIs (nthT t.kids i)) (hm : Most x a a) (hr : Room t a) (hx : Bx w B g x v) (hB : B ≤ w.heap.size) (ht : Is w (· < B) t tv) (hf : x.full = false) (hk : t.kind = 3) : Goal t f to x B g v w tv := by
  obtain ⟨w1, hw1, _, bx, x1, b1, t1, m1⟩ := beg_of (a := a) hx hB ht
  have he : x.es.length ≤ 1000000 := by have := hm.e; have := hr.hi; omega
  have h28 := full_any x (by have := hm.n; have := hr.hi; omega) he B g v w1 x1
  rw [hf, hw1] at h28
  have HW := (show Hid _ from hw1)
  clear hw1
  unfold Goal
  rw [layT_eq, if_neg (by rw [hf]; decide), if_neg (by omega), if_neg (by omega), if_pos hk]
  have HMo := (show Hid (∀ i, Most (altT (t.kids.take i) f to x) (a + 30 * nodesOf (t.kids.take i)) (a + 30 * nodesOf (t.kids.take i))) from fun i => alt_most (t.kids.take i) (fun u hu => kid_lim t hg u (List.mem_of_mem_take hu)) f to x a a (by have := hr.lo; omega) hr.lo hm)
  obtain ⟨k0, k1, k2, k3, k4, k5, k6, k7⟩ := box_cells bx
  rw [hk] at k0
  clear hk
  obtain ⟨o, cap, b, off, vs, rfl, hcap, hkk⟩ := t1.form
  have hll : t.kids.length ≤ 9223372036854775807 := by
    by_cases h0 : 0 < t.kids.length
    · have := (hkk 0 h0).2.1; omega
    · omega
  have HO := (show Hid (∀ (i : Nat) (hi : i < t.kids.length) (v1 : Value) (W : World), Bx W B g (altT (t.kids.take i) f to x) v1 → Mv g v v1 w1 W → Calls Try.prog 31 #[.pointer (some ⟨g, 0, none⟩), trV (nthT t.kids i) (vs i), .int .i64 (f : Int), .int .i64 (to : Int)] W fun e w' => e = .returned (.tuple #[]) ∧ ∃ v', Bx w' B g (altT (t.kids.take (i + 1)) f to x) v' ∧ Mv g v1 v' W w') from fun i hi v1 W h m => by
    have h1 := hL i hi f to (altT (t.kids.take i) f to x) (a + 30 * nodesOf (t.kids.take i)) (HMo.out i) (kid_room hr i hi _ (by omega)) B g v1 W (vs i) h (Nat.le_trans b1 m.size) (is_mv (hkk i hi).2.2.2.2.2 x1 b1 m)
    rw [altT_take t.kids i hi]
    exact h1)
  have HC := (show Hid (∀ (i : Nat) (hi : i < t.kids.length) (v1 : Value) (W : World), Mv g v v1 w1 W → st.Cells W b (off + i * 8) (nthT t.kids i) (vs i)) from fun i hi v1 W m => cells_mv (hkk i hi).2.2.2.2.1 (hkk i hi).2.2.1 (hkk i hi).2.2.2.1 x1 m)
  have HSh := (show Hid (∀ (i : Nat) (hi : i < t.kids.length), o = some ⟨b, off, none⟩ ∧ cap ≤ 9223372036854775807 ∧ ∃ (o : Option Addr) (n c : Nat), vs i = .slice o n c) from fun i hi => ⟨(hkk i hi).1, (hkk i hi).2.1, (hkk i hi).2.2.2.2.2.shape⟩)
  have HX := (show Hid (Bx w1 B g x v) from x1)
  have HR0 := (show Hid (altT (t.kids.take 0) f to x = x) from by show _ = _; rw [List.take_zero, altT])
  have HRn := (show Hid (t.kids.take t.kids.length = t.kids) from List.take_length)
  have HM := (show Hid _ from m1)
  clear hkk ht hx hm hr HMo hL hg x1 m1 t1 bx
  generalize t.kids = l at *
  go_enter Try.func31, Try.ntmps31
  go_wp2_with (first | (go_at_call 32; refine h28.mono ?_; rintro e w2 ⟨rfl, hw2⟩; have hw3 : w1 = w2 := HW.out.trans hw2.symm; subst hw3; clear hw2 h28))
  go_loopw [37] (fun y wr => ∃ (i : Nat) (v1 : Value), y = .int .i64 (i : Int) ∧ i ≤ l.length ∧ Hid (Bx wr B g (altT (l.take i) f to x) v1) ∧ Hid (Mv g v v1 w1 wr)) (fun y _ => l.length - (intOf y).toNat)
  case atStart => exact ⟨0, v, rfl, by omega, by rw [HR0.out]; exact HX, Mv.refl _ _ _⟩
  case round =>
    obtain ⟨i, v1, rfl, hil, H1, H2⟩ := hrel
    by_cases hend : i < l.length
    · obtain ⟨rfl, hcm, o2, n2, cap2, hv2⟩ := HSh.out i hend
      have hcells := HC.out i hend v1 wr H2.out
      rw [hv2] at hcells
      obtain ⟨j0, j1, j2, j3, j4, j5, j6, j7⟩ := hcells
      have HO1 := (show Hid (∀ (W : World), Below wr.heap.size wr W → Calls Try.prog 31 #[.pointer (some ⟨g, 0, none⟩), trV (nthT l i) (.slice o2 n2 cap2), .int .i64 (f : Int), .int .i64 (to : Int)] W fun e w' => e = .returned (.tuple #[]) ∧ ∃ v', Bx w' B g (altT (l.take (i + 1)) f to x) v' ∧ Mv g v1 v' W w') from fun W hW => by
        have := HO.out i hend v1 W (H1.out.later hW) (H2.out.trans (Mv.of hW))
        rw [hv2] at this
        exact this)
      have HM2 := (show Hid (∀ (W W' : World) (v' : Value), Below wr.heap.size wr W → Mv g v1 v' W W' → Mv g v v' w1 W') from fun W W' v' hW m => H2.out.trans ((Mv.of hW).trans m))
      clear hv2 HC HSh HO
      obtain ⟨y2, hy2⟩ : ∃ y2, y2 = altT (l.take (i + 1)) f to x := ⟨_, rfl⟩
      rw [← hy2] at HO1
      have HY := (show Hid (altT (l.take (i + 1)) f to x = y2) from hy2.symm)
      clear hy2
      generalize nthT l i = u at *
      go_wp2_with (go_at_call 31; refine (HO1.out _ (nf.below_alloc _ _)).mono ?_; rintro e w2 ⟨rfl, v2, hx2, m2⟩)
      go_roundw
      case rel => exact ⟨i + 1, v2, by go_num, by omega, by rw [HY.out]; exact hx2, HM2.out _ _ _ (nf.below_alloc _ _) m2⟩
      case measure => simp [intOf]; omega
    · have e : i = l.length := by omega
      subst e
      rw [HRn.out] at H1
      go_wp2_with (fail)
      go_end0
      exact ⟨rfl, v1, H1.out, HM.out.trans H2.out⟩
end
end Go.Proofs.Ytkdkibnjfgcppaa.nb

namespace Go.Proofs.Ytkdkibnjfgcppaa.nb
open Go.ChangeShapes Go.WideShapes Go.ChangeAt Go.RowKit
open st (Tr Q4 nodesOf goods okNode Is Box nthT)
open nf (Ed)
set_option linter.unusedVariables false
set_option maxRecDepth 100000

section
variable {t : Tr} {f to : Nat} {x : St} {a B g : Nat} {v : Value} {w : World} {tv : Value}
theorem below_drew' {w W : World} (h : Below w.heap.size w W) : Below w.heap.size w W.drew := Below.drew h
set_option maxHeartbeats 2000000 in
theorem lay_4 (hg : t.good = true) (hA : ∀ i, i < t.kids.length → AgainIs (nthT t.kids i)) (hU : ∀ i, i < t.kids.length → UpToIs (nthT t.kids i)) (hm : Most x a a) (hr : Room t a) (hx : Bx w B g x v) (hB : B ≤ w.heap.size) (ht : Is w (· < B) t tv) (hf : x.full = false) (hk : t.kind = 4) : Goal t f to x B g v w tv := by
  obtain ⟨w1, hw1, _, bx, x1, b1, t1, m1⟩ := beg_of (a := a) hx hB ht
  have he : x.es.length ≤ 1000000 := by have := hm.e; have := hr.hi; omega
  have h28 := full_any x (by have := hm.n; have := hr.hi; omega) he B g v w1 x1
  rw [hf, hw1] at h28
  have HW := (show Hid _ from hw1)
  clear hw1
  unfold Goal
  have hok : okNode t = true := by rw [Tr.good_eq, Bool.and_eq_true] at hg; exact hg.1
  obtain ⟨hl1, hmn0, hmn1, hmx⟩ := times_of t hok hk
  rw [layT_eq, if_neg (by rw [hf]; decide), if_neg (by omega), if_neg (by omega), if_neg (by omega), if_pos hk]
  obtain ⟨k0, k1, k2, k3, k4, k5, k6, k7⟩ := box_cells bx
  rw [hk] at k0
  clear hk
  obtain ⟨o, cap, b, off, vs, rfl, hcap, hkk⟩ := t1.form
  obtain ⟨ho, hc9, hb, hp, hcells, hkid⟩ := hkk 0 (by omega)
  subst ho
  have hnd := hr.nd
  have hne := t.nodes_eq
  have hde := t.depth_eq
  have hhi := hr.hi
  have hlo := hr.lo
  have hu1 := st.nodes_nth t.kids 0 (by omega)
  have hu2 := st.depth_nth t.kids 0 (by omega)
  have hun : 1 ≤ (nthT t.kids 0).nodes := by rw [Tr.nodes_eq]; omega
  have hroom : Room (nthT t.kids 0) (a + (30 * (nthT t.kids 0).nodes - 5) + 60) := ⟨by omega, by omega, by rw [hde] at hhi; omega⟩
  have hmost : Most x (a + (30 * (nthT t.kids 0).nodes - 5)) (a + (30 * (nthT t.kids 0).nodes - 5)) := hm.up (by omega) (by omega)
  have hhd : headT t.kids = layT (nthT t.kids 0) := by
    match hh : t.kids, hl1 with
    | [u], _ => rfl
  obtain ⟨mn, hmn⟩ : ∃ mn : Nat, t.min = (mn : Int) := ⟨t.min.toNat, by omega⟩
  have e1 : t.min.toNat = mn := by omega
  rw [hhd, e1]
  rw [hmn] at k5
  obtain ⟨o2, n2, cap2, hv2⟩ := hkid.shape
  rw [hv2] at hcells hkid
  obtain ⟨j0, j1, j2, j3, j4, j5, j6, j7⟩ := hcells
  simp only [Nat.zero_mul, Nat.add_zero] at j0 j1 j2 j3 j4 j5 j6 j7
  have c51 := fun (W : World) (h : Below w1.heap.size w1 W) => hA 0 (by omega) mn f to x _ (by omega) hmost (by omega) hroom B g v W (.slice o2 n2 cap2) (x1.later h) (Nat.le_trans b1 h.size) (is_mv hkid x1 b1 (Mv.of (g := g) (v := v) h))
  have c52 := fun (mx : Nat) (hmx : mx ≤ 20) (W : World) (h : Below w1.heap.size w1 W) => hU 0 (by omega) mn mx f to x _ (by omega) hmx hmost (by omega) hroom B g v W (.slice o2 n2 cap2) (x1.later h) (Nat.le_trans b1 h.size) (is_mv hkid x1 b1 (Mv.of (g := g) (v := v) h))
  have HM := (show Hid _ from m1)
  have HD := (show Hid (Below w1.heap.size w1 w1.drew) from below_drew' (Below.refl _ _))
  have hlb : t.kids.length ≤ cap := hcap
  by_cases hx1 : t.max = -1
  · rw [if_pos hx1]
    rw [hx1] at k6
    have d51 := c51 _ HD.out
    have HMd := (show Hid (Mv g v v w1 w1.drew) from Mv.of HD.out)
    clear hkk ht hx hm hr hA hU hg x1 m1 t1 bx hv2 hkid hmost hroom hhd hmn e1 hx1 hmx hmn0 hmn1 hok hne hde hu1 hu2 hun hnd hhi c51 c52
    rw [hl1] at *
    generalize nthT t.kids 0 = u at *
    go_enter Try.func31, Try.ntmps31
    go_wp2_with (first | (go_at_call 32; refine h28.mono ?_; rintro e w2 ⟨rfl, hw2⟩; have hw3 : w1 = w2 := HW.out.trans hw2.symm; subst hw3; clear hw2 h28))
    go_region_with (go_at_call 50; refine d51.mono ?_; rintro e w3 ⟨rfl, v3, hx3, m3⟩)
    all_goals
      go_end0
      exact ⟨rfl, v3, hx3, HM.out.trans (HMd.out.trans m3)⟩
  · have hq20 : 0 ≤ t.max ∧ t.max ≤ 20 := hmx.resolve_left hx1
    obtain ⟨mx, hmxe⟩ : ∃ mx : Nat, t.max = (mx : Int) := ⟨t.max.toNat, by omega⟩
    have e2 : t.max.toNat = mx := by omega
    rw [if_neg hx1, e2]
    rw [hmxe] at k6
    have q1 : ((mx : Int) == -1) = false := beq_eq_false_iff_ne.2 (by omega)
    have d52 := c52 mx (by omega) _ HD.out
    have HMd := (show Hid (Mv g v v w1 w1.drew) from Mv.of HD.out)
    clear hkk ht hx hm hr hA hU hg x1 m1 t1 bx hv2 hkid hmost hroom hhd hmn e1 hx1 hmxe e2 hmx hmn0 hmn1 hok hne hde hu1 hu2 hun hnd hhi c51 c52 hq20
    rw [hl1] at *
    generalize nthT t.kids 0 = u at *
    go_enter Try.func31, Try.ntmps31
    go_wp2_with (first | (go_at_call 32; refine h28.mono ?_; rintro e w2 ⟨rfl, hw2⟩; have hw3 : w1 = w2 := HW.out.trans hw2.symm; subst hw3; clear hw2 h28))
    go_region_with (go_at_call 51; refine d52.mono ?_; rintro e w3 ⟨rfl, v3, hx3, m3⟩)
    all_goals
      go_end0
      exact ⟨rfl, v3, hx3, HM.out.trans (HMd.out.trans m3)⟩
end
/-- an expression is laid as the plain words say -/
theorem lay_any : ∀ (d : Nat) (t : Tr), t.depth ≤ d → t.good = true → LayIs t
  | 0, t, h, _ => by rw [Tr.depth_eq] at h; omega
  | d + 1, t, h, hg => by
    intro f to x a hm hr B g v w tv hx hB ht
    have hgk : ∀ i, i < t.kids.length → (nthT t.kids i).good = true := fun i hi => goods_mem t.kids (by rw [Tr.good_eq, Bool.and_eq_true] at hg; exact hg.2) _ (st.nthT_mem t.kids i hi)
    have hL : ∀ i, i < t.kids.length → LayIs (nthT t.kids i) := fun i hi => lay_any d _ (by have := st.depth_nth t.kids i hi; rw [Tr.depth_eq] at h; omega) (hgk i hi)
    cases hf : x.full with
    | true => exact lay_full hm hr hx hB ht hf
    | false =>
      by_cases h1 : t.kind = 1
      · exact lay_1 hm hr hx hB ht hf h1
      · by_cases h2 : t.kind = 2
        · exact lay_2 hg (row_any t hg fun i hi => one_any _ (hL i hi)) hm hr hx hB ht hf h2
        · by_cases h3 : t.kind = 3
          · exact lay_3 hg hL hm hr hx hB ht hf h3
          · by_cases h4 : t.kind = 4
            · exact lay_4 hg (fun i hi => again_any _ (hgk i hi) (hL i hi)) (fun i hi => upTo_any _ (hgk i hi) (one_any _ (hL i hi))) hm hr hx hB ht hf h4
            · rw [Tr.good_eq, Bool.and_eq_true] at hg
              have := hg.1
              unfold okNode at this
              rw [if_neg h1, if_neg h2, if_neg h3, if_neg h4] at this
              cases this
end Go.Proofs.Ytkdkibnjfgcppaa.nb

namespace Go.Proofs.Ytkdkibnjfgcppaa.nb
open Go.ChangeShapes Go.WideShapes Go.ChangeAt Go.RowKit
open st (Tr Q4 nodesOf goods okNode Is Box nthT rightN)
open nf (Ed nfaV Eds)
set_option linter.unusedVariables false
set_option maxRecDepth 100000

theorem edsC_get : ∀ (l : List Ed) (i k : Nat) (hi : i < l.length) (hk : k < 7), (edsC l)[i * 7 + k]? = (edC l[i])[k]?
  | [], i, k, hi, hk => by simp at hi
  | e :: l, 0, k, hi, hk => by
    show (edC e ++ edsC l)[0 * 7 + k]? = _
    rw [Nat.zero_mul, Nat.zero_add, List.getElem?_append_left (by simpa [edC] using hk)]
    rfl
  | e :: l, i + 1, k, hi, hk => by
    have := edsC_get l i k (by simpa using hi) hk
    show (edC e ++ edsC l)[(i + 1) * 7 + k]? = _
    rw [List.getElem?_append_right (by simp [edC]; omega), show (i + 1) * 7 + k - (edC e).length = i * 7 + k by simp [edC]; omega, this]
    rfl
theorem eds_of {w : World} {B g : Nat} {x : St} {v : Value} (h : Bx w B g x v) : ∃ o cap, v = .slice o x.es.length cap ∧ Eds w o cap x.es := by
  rcases h.own.2 with ⟨rfl, hl⟩ | ⟨gg, cap, cur, rfl, hb, hg, hn, hc, hs, ht⟩
  · refine ⟨none, 0, by rw [hl], ⟨by omega, by omega, fun i hi => by omega⟩⟩
  · unfold maxLen at hc
    refine ⟨_, cap, rfl, ⟨hn, hc, fun i hi => ⟨gg, 0, rfl, (Array.getElem?_eq_some_iff.1 hg).1, ?_⟩⟩⟩
    have hcell : ∀ k, k < 7 → w.cell? ⟨gg, 0 + i * 7 + k, none⟩ = (edC x.es[i])[k]? := fun k hk => by
      have := World.ownsRow.cellAt h.own (i * 7 + k) (by omega)
      rw [Nat.zero_add, this, edsC_get x.es i k hi hk]
    exact ⟨hcell 0 (by omega), hcell 1 (by omega), hcell 2 (by omega), hcell 3 (by omega), hcell 4 (by omega), hcell 5 (by omega), hcell 6 (by omega)⟩
theorem info52 : (Try.prog.info? 52).map (·.size) = some 4 := by kernel_rfl
theorem ret31 {fn : Func} {p u : Tmp} (h : fn.results = #[.cell p 52, .tmp u]) {a : Act} {W : World} {R : Ending → World → Prop} (g : Nat) (v0 v1 v2 v3 : Value) (n : Int) (hp : a.tmps.getD p undef = .pointer (some ⟨g, 0, none⟩)) (hA : W.heap[g]? = some (.cells #[v0, v1, v2, v3] 52 (0, 0))) (hu : a.tmps.getD u undef = .int .i64 n) (hd : a.defers = [])
    (hR : R (.returned (.tuple #[.agg #[v0, v1, v2, v3], .int .i64 n])) W) : bodyPost Try.prog fn R .ret a W :=
  bodyPost_ret (by rw [results_cell_tmp h, hp, hu]; simp [asAddr, Result.andThen, run_loadVar_row W g 52 52 _ (0, 0) _ hA Try.underlying52 rfl info52]) hd hR
theorem below_setRow {n g : Nat} {w W : World} (h : Below n w W) (hg : n ≤ g) (hn : n ≤ w.heap.size) (cs : Array Value) : Below n w (W.setRow g cs) := ⟨h.os, h.tape, h.output, by simpa using h.size, fun k hk => (setRow_other _ _ _ _ (by omega)).trans (h.block k hk)⟩
set_option maxHeartbeats 1000000 in
theorem build_no (t : Tr) (hr : rightN t ≠ 0) (tv : Value) (w : World) (ht : Is w (fun _ => True) t tv) :
    Calls Try.prog 20 #[trV t tv] w fun e w' => e = .returned (.tuple #[nfaV 0 0 0 none 0 0, .int .i64 (rightN t : Int)]) ∧ Below w.heap.size w w' := by
  obtain ⟨w1, hw1⟩ : ∃ w1, w1 = (w.alloc (.cells #[.int .i64 t.kind, .int .u64 t.set.a, .int .u64 t.set.b, .int .u64 t.set.c, .int .u64 t.set.d, .int .i64 t.min, .int .i64 t.max, tv] 48)).alloc (.cells #[.int .i64 0, .int .i64 0, .int .i64 0, .slice none 0 0] 52) := ⟨_, rfl⟩
  have bl : Below w.heap.size w w1 := by rw [hw1]; exact ((Below.refl _ _).alloc (Nat.le_refl _) _).alloc (by simp) _
  have bx : Box w1 w.heap.size t tv := by rw [hw1]; exact (st.box_new w t tv).below (nf.below_alloc _ _)
  have br : w1.heap[w.heap.size + 1]? = some (.cells #[.int .i64 0, .int .i64 0, .int .i64 0, .slice none 0 0] 52 (0, 0)) := by
    rw [hw1]
    have := heap_alloc_new (w.alloc (.cells #[.int .i64 t.kind, .int .u64 t.set.a, .int .u64 t.set.b, .int .u64 t.set.c, .int .u64 t.set.d, .int .i64 t.min, .int .i64 t.max, tv] 48)) (.cells #[.int .i64 0, .int .i64 0, .int .i64 0, .slice none 0 0] 52)
    simpa using this
  have h26 := st.right_is t _ rfl tv w1 (ht.carry bl.size (fun _ _ _ => trivial) (fun b _ hlt => bl.block b hlt))
  have hq : ((rightN t : Int) == 0) = false := beq_eq_false_iff_ne.2 (by omega)
  have hq2 : ((rightN t : Int) != 0) = true := bne_iff_ne.2 (by omega)
  obtain ⟨r, hrr⟩ : ∃ r, r = rightN t := ⟨_, rfl⟩
  rw [← hrr] at h26 hq hq2 ⊢
  rw [hw1] at h26 bx
  have HW := (show Hid _ from hw1)
  have HB := (show Hid (Below w.heap.size w w1) from bl)
  have HR := (show Hid _ from br)
  clear hw1 ht bl br hrr hr
  go_enter Try.func20, Try.ntmps20
  go_wp2_with (first | (refine wpList_load_row rfl 48 (.tmp 1) rfl w.heap.size rfl 48 _ (0, 0) _ bx Try.underlying48 rfl info48 ?_) | (go_at_call 30; refine h26.mono ?_; rintro e w2 ⟨rfl, k2⟩; rw [← HW.out] at k2; have b3 : w2.heap[w.heap.size + 1]? = some (.cells #[.int .i64 0, .int .i64 0, .int .i64 0, .slice none 0 0] 52 (0, 0)) := (k2.block _ (Array.getElem?_eq_some_iff.1 HR.out).1).trans HR.out) | (refine wpList_store_row (by rfl) 52 (.tmp 2) (.tmp 10) (by rfl) (w.heap.size + 1) #[.int .i64 0, .int .i64 0, .int .i64 0, .slice none 0 0] (by rfl) (by rfl) 52 _ b3 info52 rfl (by simp [Value.oneCell']) ?_))
  refine ret31 Try.results20 (w.heap.size + 1) _ _ _ _ (r : Int) rfl (setRow_heap _ _ _ _ _ _ b3) rfl rfl ?_
  exact ⟨rfl, below_setRow (nf.chain HB.out k2) (Nat.le_succ _) (Nat.le_refl _) _⟩
end Go.Proofs.Ytkdkibnjfgcppaa.nb

namespace Go.Proofs.Ytkdkibnjfgcppaa.nb
open Go.ChangeShapes Go.WideShapes Go.ChangeAt Go.RowKit
open st (Tr Q4 nodesOf goods okNode Is Box nthT rightN)
open nf (Ed nfaV Eds)
set_option linter.unusedVariables false
set_option maxRecDepth 100000

theorem right_of (t : Tr) (h : rightN t = 0) : t.depth ≤ 30 ∧ t.nodes ≤ 512 ∧ t.good = true := by
  unfold rightN at h
  split at h
  · rename_i h1
    split at h
    · rename_i h2
      exact ⟨h1.1, h1.2, h2⟩
    · cases h
  · cases h
/-- what Build answers for an expression that may be -/
def Ans (t : Tr) (e : Ending) (w' : World) : Prop :=
  ((built t).full = true ∧ e = .returned (.tuple #[nfaV 0 0 0 none 0 0, .int .i64 80])) ∨
  ((built t).full = false ∧ ∃ o cap, e = .returned (.tuple #[nfaV ((built t).n : Int) 0 1 o (built t).es.length cap, .int .i64 0]) ∧ Eds w' o cap (built t).es)
set_option maxHeartbeats 2000000 in
theorem build_yes (t : Tr) (hr : rightN t = 0) (tv : Value) (w : World) (ht : Is w (fun _ => True) t tv) :
    Calls Try.prog 20 #[trV t tv] w fun e w' => Ans t e w' ∧ Below w.heap.size w w' := by
  obtain ⟨hd, hn, hg⟩ := right_of t hr
  obtain ⟨w1, hw1⟩ : ∃ w1, w1 = (w.alloc (.cells #[.int .i64 t.kind, .int .u64 t.set.a, .int .u64 t.set.b, .int .u64 t.set.c, .int .u64 t.set.d, .int .i64 t.min, .int .i64 t.max, tv] 48)).alloc (.cells #[.int .i64 0, .int .i64 0, .int .i64 0, .slice none 0 0] 52) := ⟨_, rfl⟩
  have bl : Below w.heap.size w w1 := by rw [hw1]; exact ((Below.refl _ _).alloc (Nat.le_refl _) _).alloc (by simp) _
  have bx : Box w1 w.heap.size t tv := by rw [hw1]; exact (st.box_new w t tv).below (nf.below_alloc _ _)
  have br : w1.heap[w.heap.size + 1]? = some (.cells #[.int .i64 0, .int .i64 0, .int .i64 0, .slice none 0 0] 52 (0, 0)) := by
    rw [hw1]
    have := heap_alloc_new (w.alloc (.cells #[.int .i64 t.kind, .int .u64 t.set.a, .int .u64 t.set.b, .int .u64 t.set.c, .int .u64 t.set.d, .int .i64 t.min, .int .i64 t.max, tv] 48)) (.cells #[.int .i64 0, .int .i64 0, .int .i64 0, .slice none 0 0] 52)
    simpa using this
  have h26 := st.right_is t _ rfl tv w1 (ht.carry bl.size (fun _ _ _ => trivial) (fun b _ hlt => bl.block b hlt))
  rw [hr] at h26
  have HBX := (show Hid (Box w1 w.heap.size t tv) from bx)
  have HTO := (show Hid (∀ W, Below w.heap.size w W → Is W (· < w.heap.size) t tv) from fun W h => (st.Is.old ht).carry h.size (fun _ p _ => p) (fun b _ hlt => h.block b hlt))
  have HR := (show Hid _ from br)
  rw [hw1] at h26 bx
  have HW := (show Hid _ from hw1)
  have HB := (show Hid (Below w.heap.size w w1) from bl)
  have HL := (show Hid (∀ (B g : Nat) (v : Value) (W : World), Bx W B g ⟨2, []⟩ v → B ≤ W.heap.size → Is W (· < B) t tv → Calls Try.prog 31 #[.pointer (some ⟨g, 0, none⟩), trV t tv, .int .i64 0, .int .i64 1] W fun e w' => e = .returned (.tuple #[]) ∧ ∃ v', Bx w' B g (built t) v' ∧ Mv g v v' W w') from fun B g v W h1 h2 h3 => lay_any t.depth t (Nat.le_refl _) hg 0 1 ⟨2, []⟩ 16000 ⟨by simp, by simp⟩ ⟨Nat.le_refl _, hn, by omega⟩ B g v W tv h1 h2 h3)
  have hmo := (lay_lim t.depth t (Nat.le_refl _) hg).add 0 1 ⟨2, []⟩ 16000 16000 (by omega) (by omega) ⟨by simp, by simp⟩
  have HFu := (show Hid (FullIs (built t)) from full_any (built t) (by have := hmo.n; show (layT t 0 1 ⟨2, []⟩).n ≤ _; omega) (by have := hmo.e; show (layT t 0 1 ⟨2, []⟩).es.length ≤ _; omega))
  clear hw1 ht bl br hr hmo hd hn hg
  unfold Ans
  generalize built t = z at *
  go_enter Try.func20, Try.ntmps20
  go_wp2_with (first | (refine wpList_load_row rfl 48 (.tmp 1) rfl w.heap.size rfl 48 _ (0, 0) _ bx Try.underlying48 rfl info48 ?_) | (go_at_call 30; refine h26.mono ?_; rintro e w2 ⟨rfl, k2⟩; clear h26 bx; rw [← HW.out] at k2; have HK2 := (show Hid (Below w.heap.size w w2) from nf.chain HB.out k2); have bx2 : Box (w2.alloc (.cells #[.int .i64 2, .int .i64 0, .int .i64 1, .slice none 0 0] 69)) w.heap.size t tv := (HBX.out.below k2).below (nf.below_alloc _ _); have c27 := HL.out w2.heap.size w2.heap.size (.slice none 0 0) (w2.alloc (.cells #[.int .i64 2, .int .i64 0, .int .i64 1, .slice none 0 0] 69)) ⟨Nat.le_refl _, heap_alloc_new w2 _, World.ownsRow_nil _ _ _ _⟩ (by simp) ((HTO.out _ (nf.chain HK2.out (nf.below_alloc _ _))).carry (Nat.le_refl _) (fun b hb _ => Nat.lt_of_lt_of_le hb HK2.out.size) (fun _ _ _ => rfl))) | (refine wpList_load_row rfl 48 (.tmp 1) rfl w.heap.size rfl 48 _ (0, 0) _ bx2 Try.underlying48 rfl info48 ?_) | (go_at_call 31; refine c27.mono ?_; rintro e w3 ⟨rfl, v3, hx3, m3⟩; clear c27; have c28 := HFu.out _ _ _ _ hx3))
  have g1 : w.heap.size + 1 < w1.heap.size := (Array.getElem?_eq_some_iff.1 HR.out).1
  have g2 : w1.heap.size ≤ w2.heap.size := k2.size
  have b3 : w3.heap[w.heap.size + 1]? = some (.cells #[.int .i64 0, .int .i64 0, .int .i64 0, .slice none 0 0] 52 (0, 0)) := by
    rw [m3.block _ (by simp; omega) (by omega) (by simp [Value.ownBlock]), (nf.below_alloc w2 _).block _ (by omega), k2.block _ g1]
    exact HR.out
  have HK3 := (show Hid (Below w.heap.size w w3) from ⟨m3.os.trans HK2.out.os, m3.tape.trans HK2.out.tape, m3.output.trans HK2.out.output, by have := m3.size; have := HK2.out.size; simp at *; omega, fun k hk => by
    rw [m3.block k (by simp; omega) (by omega) (by simp [Value.ownBlock]), (nf.below_alloc w2 _).block k (by omega)]
    exact HK2.out.block k hk⟩)
  have HX4 := (show Hid (∀ cs, Bx (w3.setRow (w.heap.size + 1) cs) w2.heap.size w2.heap.size z v3) from fun cs => ⟨hx3.bg, (setRow_other _ _ _ _ (by omega)).trans hx3.blk, ow.keep hx3.own fun k hk => setRow_other _ _ _ _ (fun e => by subst e; exact ow.type hx3.own b3 (by decide) hk.symm)⟩)
  have blk3 := hx3.blk
  obtain ⟨vo, vc, hv3, _⟩ := hx3.form
  subst hv3
  clear HL HFu HTO HBX hx3 m3 bx2 k2 HW HB HR HK2
  cases hfz : z.full with
  | true =>
    rw [hfz] at c28
    refine c28.mono ?_
    rintro e w4 ⟨rfl, hw4⟩
    subst hw4
    go_wp2_with (refine wpList_store_row (by rfl) 52 (.tmp 2) (.tmp 23) (by rfl) (w.heap.size + 1) #[.int .i64 0, .int .i64 0, .int .i64 0, .slice none 0 0] (by rfl) (by rfl) 52 _ b3 info52 rfl (by simp [Value.oneCell']) ?_)
    refine ret31 Try.results20 (w.heap.size + 1) _ _ _ _ 80 rfl (setRow_heap _ _ _ _ _ _ b3) rfl rfl ?_
    exact ⟨.inl ⟨hfz, rfl⟩, below_setRow HK3.out (Nat.le_succ _) (Nat.le_refl _) _⟩
  | false =>
    rw [hfz] at c28
    refine c28.mono ?_
    rintro e w4 ⟨rfl, hw4⟩
    subst hw4
    go_wp2_with (first | (refine wpList_load_row rfl 52 (.tmp 24) rfl w2.heap.size rfl 69 _ (0, 0) _ blk3 Try.underlying52 rfl info52 ?_) | (refine wpList_store_row (by rfl) 52 (.tmp 2) (.tmp 25) (by rfl) (w.heap.size + 1) #[.int .i64 (z.n : Int), .int .i64 0, .int .i64 1, .slice vo z.es.length vc] (by rfl) (by rfl) 52 _ b3 info52 rfl (by simp [Value.oneCell']) ?_))
    obtain ⟨o2, cap2, e2, hE⟩ := eds_of (HX4.out #[.int .i64 (z.n : Int), .int .i64 0, .int .i64 1, .slice vo z.es.length vc])
    cases e2
    refine ret31 Try.results20 (w.heap.size + 1) _ _ _ _ 0 rfl (setRow_heap _ _ _ _ _ _ b3) rfl rfl ?_
    exact ⟨.inr ⟨hfz, _, _, rfl, hE⟩, below_setRow HK3.out (Nat.le_succ _) (Nat.le_refl _) _⟩
end Go.Proofs.Ytkdkibnjfgcppaa.nb
