/-
  Texts put together: Over this program: the builder of a dfa in memory, and what is kept and changed of it. Contracts over this program: the number of a set (builder.number).
-/
import Derived.Test.YtfilndgbgdnpiaaM22
import Derived.Test.YtfilndgbgdnpiaaM24
import Derived.Test.YtfilndgbgdnpiaaKAp
namespace Go.Proofs.Ytfilndgbgdnpiaa.bd
open Go.Sort Go.ChangeShapes Go.WideShapes Go.ChangeAt Go.RowKit Go.Maps
open df (Kp Row iv In IntsV Owns)
set_option linter.unusedVariables false
set_option maxRecDepth 10000

/-- what of a builder stays -/
structure Hd where
  n : Int
  s : Int
  e : Int
  eo : Option Addr
  em : Nat
  ec : Nat
  vo : Value
  vf : Value
  vl : Value
  cl : List Value
def Hd.cells (h : Hd) (vs vm vn va : Value) : List Value := .int .i64 h.n :: .int .i64 h.s :: .int .i64 h.e :: .slice h.eo h.em h.ec :: h.vo :: h.vf :: h.vl :: vs :: vm :: (h.cl ++ [vn, va])
structure BBox (W : World) (b : Nat) (h : Hd) (vs vm vn va : Value) : Prop where
  blk : W.heap[b]? = some (.cells (h.cells vs vm vn va).toArray 87 (0, 0))
  cl : h.cl.length = 256
section
variable {W W' : World} {b : Nat} {h : Hd} {vs vm vn va : Value}
theorem BBox.lt (k : BBox W b h vs vm vn va) : b < W.heap.size := (Array.getElem?_eq_some_iff.1 k.blk).1
theorem BBox.keep (k : BBox W b h vs vm vn va) (e : W'.heap[b]? = W.heap[b]?) : BBox W' b h vs vm vn va := ⟨e.trans k.blk, k.cl⟩
theorem BBox.fz (k : BBox W b h vs vm vn va) (i : Nat) : W.frozen? ⟨b, i, none⟩ = false := Lib.frozen_of_heap k.blk i
theorem BBox.c0 (k : BBox W b h vs vm vn va) : W.cell? ⟨b, 0, none⟩ = some (.int .i64 h.n) := by rw [Lib.cell_of_heap k.blk]; rfl
theorem BBox.c1 (k : BBox W b h vs vm vn va) : W.cell? ⟨b, 1, none⟩ = some (.int .i64 h.s) := by rw [Lib.cell_of_heap k.blk]; rfl
theorem BBox.c2 (k : BBox W b h vs vm vn va) : W.cell? ⟨b, 2, none⟩ = some (.int .i64 h.e) := by rw [Lib.cell_of_heap k.blk]; rfl
theorem BBox.c3 (k : BBox W b h vs vm vn va) : W.cell? ⟨b, 3, none⟩ = some (.slice h.eo h.em h.ec) := by rw [Lib.cell_of_heap k.blk]; rfl
theorem BBox.c4 (k : BBox W b h vs vm vn va) : W.cell? ⟨b, 4, none⟩ = some h.vo := by rw [Lib.cell_of_heap k.blk]; rfl
theorem BBox.c5 (k : BBox W b h vs vm vn va) : W.cell? ⟨b, 5, none⟩ = some h.vf := by rw [Lib.cell_of_heap k.blk]; rfl
theorem BBox.c6 (k : BBox W b h vs vm vn va) : W.cell? ⟨b, 6, none⟩ = some h.vl := by rw [Lib.cell_of_heap k.blk]; rfl
theorem BBox.c7 (k : BBox W b h vs vm vn va) : W.cell? ⟨b, 7, none⟩ = some vs := by rw [Lib.cell_of_heap k.blk]; rfl
theorem BBox.c8 (k : BBox W b h vs vm vn va) : W.cell? ⟨b, 8, none⟩ = some vm := by rw [Lib.cell_of_heap k.blk]; rfl
theorem tail_at (cl : List Value) (hc : cl.length = 256) (x y : Value) : (cl ++ [x, y])[256]? = some x ∧ (cl ++ [x, y])[257]? = some y := by
  rw [List.getElem?_append_right (by omega), List.getElem?_append_right (by omega), hc]
  exact ⟨rfl, rfl⟩
theorem tail_set (cl : List Value) (hc : cl.length = 256) (x y z : Value) : (cl ++ [x, y]).set 256 z = cl ++ [z, y] ∧ (cl ++ [x, y]).set 257 z = cl ++ [x, z] := by
  rw [List.set_append_right 256 z (by omega), List.set_append_right 257 z (by omega), hc]
  exact ⟨rfl, rfl⟩
theorem BBox.c265 (k : BBox W b h vs vm vn va) : W.cell? ⟨b, 265, none⟩ = some vn := by
  rw [Lib.cell_of_heap k.blk, List.getElem?_toArray]
  exact (tail_at h.cl k.cl vn va).1
theorem BBox.c266 (k : BBox W b h vs vm vn va) : W.cell? ⟨b, 266, none⟩ = some va := by
  rw [Lib.cell_of_heap k.blk, List.getElem?_toArray]
  exact (tail_at h.cl k.cl vn va).2
theorem BBox.set7 (k : BBox W b h vs vm vn va) (v : Value) : BBox (W.setCell ⟨b, 7, none⟩ v) b h v vm vn va := ⟨by rw [nf.set_heap _ _ _ _ 7 _ k.blk, List.setIfInBounds_toArray]; rfl, k.cl⟩
theorem BBox.set8 (k : BBox W b h vs vm vn va) (v : Value) : BBox (W.setCell ⟨b, 8, none⟩ v) b h vs v vn va := ⟨by rw [nf.set_heap _ _ _ _ 8 _ k.blk, List.setIfInBounds_toArray]; rfl, k.cl⟩
theorem BBox.set6 (k : BBox W b h vs vm vn va) (v : Value) : BBox (W.setCell ⟨b, 6, none⟩ v) b { h with vl := v } vs vm vn va := ⟨by rw [nf.set_heap _ _ _ _ 6 _ k.blk, List.setIfInBounds_toArray]; rfl, k.cl⟩
theorem BBox.set265 (k : BBox W b h vs vm vn va) (v : Value) : BBox (W.setCell ⟨b, 265, none⟩ v) b h vs vm v va := by
  refine ⟨?_, k.cl⟩
  rw [nf.set_heap _ _ _ _ 265 _ k.blk, List.setIfInBounds_toArray]
  show some (Obj.cells (_ :: _ :: _ :: _ :: _ :: _ :: _ :: _ :: _ :: ((h.cl ++ [vn, va]).set 256 v)).toArray 87 (0, 0)) = _
  rw [(tail_set h.cl k.cl vn va v).1]
  rfl
theorem BBox.set266 (k : BBox W b h vs vm vn va) (v : Value) : BBox (W.setCell ⟨b, 266, none⟩ v) b h vs vm vn v := by
  refine ⟨?_, k.cl⟩
  rw [nf.set_heap _ _ _ _ 266 _ k.blk, List.setIfInBounds_toArray]
  show some (Obj.cells (_ :: _ :: _ :: _ :: _ :: _ :: _ :: _ :: _ :: ((h.cl ++ [vn, va]).set 257 v)).toArray 87 (0, 0)) = _
  rw [(tail_set h.cl k.cl vn va v).2]
  rfl
end

structure Bu (X : Nat → Prop) (W : World) (B b mb : Nat) (h : Hd) (vs vn va : Value) (ss nn : List Value) (ac : List Bool) (m : Nat) (D : DataW Unit) : Prop where
  box : BBox W b h vs (.map (some mb)) vn va
  map : W.ownsMap Try.prog 9 (plainElem (H := Unit) Try.prog 3) mb m D
  os : W.ownsRow B 39 1 vs ss.length ss
  on : W.ownsRow B 39 1 vn nn.length nn
  oa : W.ownsRow B 4 1 va ac.length (ac.map Value.bool)
  sn : ∀ g, vs.ownBlock = some g → vn.ownBlock ≠ some g
  bb : B ≤ b
  bm : B ≤ mb
  ap : ∀ k, X k → k < W.heap.size ∧ k ≠ b ∧ k ≠ mb ∧ some k ≠ vs.ownBlock ∧ some k ≠ vn.ownBlock ∧ some k ≠ va.ownBlock
section
variable {X Y : Nat → Prop} {W W' : World} {B b mb : Nat} {h : Hd} {vs vn va : Value} {ss nn : List Value} {ac : List Bool} {m : Nat} {D : DataW Unit}
theorem Bu.mobj (k : Bu X W B b mb h vs vn va ss nn ac m D) : ∃ es clock, W.heap[mb]? = some (.map es clock) := by
  obtain ⟨es, clock, hb, _⟩ := k.map
  exact ⟨es, clock, hb⟩
theorem Bu.mlt (k : Bu X W B b mb h vs vn va ss nn ac m D) : mb < W.heap.size := by
  obtain ⟨es, clock, hb⟩ := k.mobj
  exact (Array.getElem?_eq_some_iff.1 hb).1
theorem Bu.ne (k : Bu X W B b mb h vs vn va ss nn ac m D) : b ≠ mb := fun e => by
  obtain ⟨es, clock, hb⟩ := k.mobj
  have := k.box.blk
  rw [e, hb] at this
  cases this
theorem Bu.ms (k : Bu X W B b mb h vs vn va ss nn ac m D) : some mb ≠ vs.ownBlock ∧ some mb ≠ vn.ownBlock ∧ some mb ≠ va.ownBlock := by
  obtain ⟨es, clock, hb⟩ := k.mobj
  exact ⟨ow.kind k.os hb rfl, ow.kind k.on hb rfl, ow.kind k.oa hb rfl⟩
theorem Bu.bs (k : Bu X W B b mb h vs vn va ss nn ac m D) : some b ≠ vs.ownBlock ∧ some b ≠ vn.ownBlock ∧ some b ≠ va.ownBlock :=
  ⟨ow.type k.os k.box.blk (by decide), ow.type k.on k.box.blk (by decide), ow.type k.oa k.box.blk (by decide)⟩
theorem own_ne {W : World} {B e1 e2 s1 s2 n1 n2 : Nat} {v1 v2 : Value} {x1 x2 : List Value} (h1 : W.ownsRow B e1 s1 v1 n1 x1) (h2 : W.ownsRow B e2 s2 v2 n2 x2) (hne : e1 ≠ e2) (g : Nat) (hg : v1.ownBlock = some g) : some g ≠ v2.ownBlock := by
  rcases h1.2 with ⟨rfl, _⟩ | ⟨gg, cap, cur, rfl, _, hgg, _⟩
  · cases hg
  · cases hg
    exact ow.type h2 hgg hne
theorem Bu.size (k : Bu X W B b mb h vs vn va ss nn ac m D) : B ≤ W.heap.size := Nat.le_trans k.bb (Nat.le_of_lt k.box.lt)
theorem map_keep (hm : W.ownsMap Try.prog 9 (plainElem (H := Unit) Try.prog 3) mb m D) (e : W'.heap[mb]? = W.heap[mb]?) : W'.ownsMap Try.prog 9 (plainElem (H := Unit) Try.prog 3) mb m D := by
  obtain ⟨es, clock, hb, hr⟩ := hm
  exact ⟨es, clock, e.trans hb, hr⟩
/-- other blocks turned, or new ones -/
theorem Bu.keep (k : Bu X W B b mb h vs vn va ss nn ac m D) (hs : W.heap.size ≤ W'.heap.size) (h1 : W'.heap[b]? = W.heap[b]?) (h2 : W'.heap[mb]? = W.heap[mb]?) (h3 : ∀ g, vs.ownBlock = some g → W'.heap[g]? = W.heap[g]?) (h4 : ∀ g, vn.ownBlock = some g → W'.heap[g]? = W.heap[g]?) (h5 : ∀ g, va.ownBlock = some g → W'.heap[g]? = W.heap[g]?) : Bu X W' B b mb h vs vn va ss nn ac m D :=
  ⟨k.box.keep h1, map_keep k.map h2, ow.keep k.os h3, ow.keep k.on h4, ow.keep k.oa h5, k.sn, k.bb, k.bm, fun g hg => ⟨Nat.lt_of_lt_of_le (k.ap g hg).1 hs, (k.ap g hg).2⟩⟩
theorem Bu.later (k : Bu X W B b mb h vs vn va ss nn ac m D) (c : Below W.heap.size W W') : Bu X W' B b mb h vs vn va ss nn ac m D :=
  k.keep c.size (c.block _ k.box.lt) (c.block _ k.mlt) (fun g e => c.block g (ow.lt k.os e).2) (fun g e => c.block g (ow.lt k.on e).2) (fun g e => c.block g (ow.lt k.oa e).2)
theorem Bu.apart (k : Bu X W B b mb h vs vn va ss nn ac m D) (hy : ∀ g, Y g → g < W.heap.size ∧ g ≠ b ∧ g ≠ mb ∧ some g ≠ vs.ownBlock ∧ some g ≠ vn.ownBlock ∧ some g ≠ va.ownBlock) : Bu Y W B b mb h vs vn va ss nn ac m D :=
  ⟨k.box, k.map, k.os, k.on, k.oa, k.sn, k.bb, k.bm, hy⟩
theorem far {e sz n : Nat} {v : Value} {xs : List Value} (ho : W.ownsRow B e sz v n xs) {g : Nat} (hg : W.heap.size ≤ g) : some g ≠ v.ownBlock := fun e => by
  have := (ow.lt ho e.symm).2; omega
/-- blocks made since belong to the rest, too -/
theorem Bu.more (k : Bu X W B b mb h vs vn va ss nn ac m D) (c : Below W.heap.size W W') (hy : ∀ g, Y g → X g ∨ (W.heap.size ≤ g ∧ g < W'.heap.size)) : Bu Y W' B b mb h vs vn va ss nn ac m D :=
  (k.later c).apart fun g hg => by
    rcases hy g hg with h1 | ⟨h1, h2⟩
    · exact ⟨Nat.lt_of_lt_of_le (k.ap g h1).1 c.size, (k.ap g h1).2⟩
    · have e1 := k.box.lt
      have e2 := k.mlt
      exact ⟨h2, by omega, by omega, far k.os h1, far k.on h1, far k.oa h1⟩
theorem Bu.putMap (k : Bu X W B b mb h vs vn va ss nn ac m D) {m' : Nat} {D' : DataW Unit} (ho : W'.ownsMap Try.prog 9 (plainElem (H := Unit) Try.prog 3) mb m' D') (hg : W.grownBy W' (some mb)) : Bu X W' B b mb h vs vn va ss nn ac m' D' := by
  have hh : ∀ g, g < W.heap.size → g ≠ mb → W'.heap[g]? = W.heap[g]? := fun g h1 h2 => hg.block g h1 (fun e => h2 (Option.some.inj e))
  exact ⟨k.box.keep (hh b k.box.lt k.ne), ho, ow.keep k.os fun g e => hh g (ow.lt k.os e).2 (fun e2 => k.ms.1 (by rw [← e2]; exact e.symm)), ow.keep k.on fun g e => hh g (ow.lt k.on e).2 (fun e2 => k.ms.2.1 (by rw [← e2]; exact e.symm)), ow.keep k.oa fun g e => hh g (ow.lt k.oa e).2 (fun e2 => k.ms.2.2 (by rw [← e2]; exact e.symm)), k.sn, k.bb, k.bm, fun g hg' => ⟨Nat.lt_of_lt_of_le (k.ap g hg').1 hg.size, (k.ap g hg').2⟩⟩
theorem new_ne {g g' k' cap' : Nat} {v : Value} (hw : some g' = v.ownBlock ∨ W.heap.size ≤ g') (h1 : g < W.heap.size) (h2 : some g ≠ v.ownBlock) : some g ≠ (Value.slice (some ⟨g', 0, none⟩) k' cap').ownBlock := fun e => by
  simp [Value.ownBlock] at e
  subst e
  rcases hw with e3 | e3
  · exact h2 e3
  · omega
/-- the row of sets grown, and laid in its cell -/
theorem Bu.putS (k : Bu X W B b mb h vs vn va ss nn ac m D) {ss' : List Value} {g' k' cap' : Nat} (hk' : k' = ss'.length) (ho : W'.ownsRow B 39 1 (.slice (some ⟨g', 0, none⟩) k' cap') k' ss') (hg : W.grownBy W' vs.ownBlock) (hw : some g' = vs.ownBlock ∨ W.heap.size ≤ g') :
    Bu X (W'.setCell ⟨b, 7, none⟩ (.slice (some ⟨g', 0, none⟩) k' cap')) B b mb h (.slice (some ⟨g', 0, none⟩) k' cap') vn va ss' nn ac m D := by
  subst hk'
  have hb1 := k.box.keep (hg.block b k.box.lt k.bs.1)
  have hh : ∀ g, g ≠ b → (W'.setCell ⟨b, 7, none⟩ (.slice (some ⟨g', 0, none⟩) ss'.length cap')).heap[g]? = W'.heap[g]? := fun g hk => Below.heap_setCell _ _ _ g hk
  have hm1 : W'.heap[mb]? = W.heap[mb]? := hg.block mb k.mlt k.ms.1
  have hn1 : ∀ g, vn.ownBlock = some g → W'.heap[g]? = W.heap[g]? := fun g e => hg.block g (ow.lt k.on e).2 (fun e2 => k.sn g e2.symm e)
  have ha1 : ∀ g, va.ownBlock = some g → W'.heap[g]? = W.heap[g]? := fun g e => hg.block g (ow.lt k.oa e).2 (own_ne k.oa k.os (by decide) g e)
  refine ⟨hb1.set7 _, map_keep k.map ((hh mb k.ne.symm).trans hm1), ow.keep ho fun g e => hh g (fun e2 => ow.type ho hb1.blk (by decide) (by rw [← e2]; exact e.symm)), ow.keep k.on fun g e => (hh g (fun e2 => k.bs.2.1 (by rw [← e2]; exact e.symm))).trans (hn1 g e), ow.keep k.oa fun g e => (hh g (fun e2 => k.bs.2.2 (by rw [← e2]; exact e.symm))).trans (ha1 g e), ?_, k.bb, k.bm, fun g hx => ?_⟩
  · intro g e e2
    exact new_ne hw (ow.lt k.on e2).2 (fun e3 => k.sn g e3.symm e2) e.symm
  · obtain ⟨a1, a2, a3, a4, a5, a6⟩ := k.ap g hx
    exact ⟨by have := hg.size; simp; omega, a2, a3, new_ne hw a1 a4, a5, a6⟩
theorem Bu.putN (k : Bu X W B b mb h vs vn va ss nn ac m D) {nn' : List Value} {g' k' cap' : Nat} (hk' : k' = nn'.length) (ho : W'.ownsRow B 39 1 (.slice (some ⟨g', 0, none⟩) k' cap') k' nn') (hg : W.grownBy W' vn.ownBlock) (hw : some g' = vn.ownBlock ∨ W.heap.size ≤ g') :
    Bu X (W'.setCell ⟨b, 265, none⟩ (.slice (some ⟨g', 0, none⟩) k' cap')) B b mb h vs (.slice (some ⟨g', 0, none⟩) k' cap') va ss nn' ac m D := by
  subst hk'
  have hb1 := k.box.keep (hg.block b k.box.lt k.bs.2.1)
  have hh : ∀ g, g ≠ b → (W'.setCell ⟨b, 265, none⟩ (.slice (some ⟨g', 0, none⟩) nn'.length cap')).heap[g]? = W'.heap[g]? := fun g hk => Below.heap_setCell _ _ _ g hk
  have hm1 : W'.heap[mb]? = W.heap[mb]? := hg.block mb k.mlt k.ms.2.1
  have hn1 : ∀ g, vs.ownBlock = some g → W'.heap[g]? = W.heap[g]? := fun g e => hg.block g (ow.lt k.os e).2 (fun e2 => k.sn g e e2.symm)
  have ha1 : ∀ g, va.ownBlock = some g → W'.heap[g]? = W.heap[g]? := fun g e => hg.block g (ow.lt k.oa e).2 (own_ne k.oa k.on (by decide) g e)
  refine ⟨hb1.set265 _, map_keep k.map ((hh mb k.ne.symm).trans hm1), ow.keep k.os fun g e => (hh g (fun e2 => k.bs.1 (by rw [← e2]; exact e.symm))).trans (hn1 g e), ow.keep ho fun g e => hh g (fun e2 => ow.type ho hb1.blk (by decide) (by rw [← e2]; exact e.symm)), ow.keep k.oa fun g e => (hh g (fun e2 => k.bs.2.2 (by rw [← e2]; exact e.symm))).trans (ha1 g e), ?_, k.bb, k.bm, fun g hx => ?_⟩
  · intro g e e2
    exact new_ne hw (ow.lt k.os e).2 (fun e3 => k.sn g e e3.symm) e2.symm
  · obtain ⟨a1, a2, a3, a4, a5, a6⟩ := k.ap g hx
    exact ⟨by have := hg.size; simp; omega, a2, a3, a4, new_ne hw a1 a5, a6⟩
theorem Bu.putA (k : Bu X W B b mb h vs vn va ss nn ac m D) {ac2 : List Bool} {g' k' cap' : Nat} (hk' : k' = ac2.length) (ho : W'.ownsRow B 4 1 (.slice (some ⟨g', 0, none⟩) k' cap') k' (ac2.map Value.bool)) (hg : W.grownBy W' va.ownBlock) (hw : some g' = va.ownBlock ∨ W.heap.size ≤ g') :
    Bu X (W'.setCell ⟨b, 266, none⟩ (.slice (some ⟨g', 0, none⟩) k' cap')) B b mb h vs vn (.slice (some ⟨g', 0, none⟩) k' cap') ss nn ac2 m D := by
  subst hk'
  have hb1 := k.box.keep (hg.block b k.box.lt k.bs.2.2)
  have hh : ∀ g, g ≠ b → (W'.setCell ⟨b, 266, none⟩ (.slice (some ⟨g', 0, none⟩) ac2.length cap')).heap[g]? = W'.heap[g]? := fun g hk => Below.heap_setCell _ _ _ g hk
  have hm1 : W'.heap[mb]? = W.heap[mb]? := hg.block mb k.mlt k.ms.2.2
  have hs1 : ∀ g, vs.ownBlock = some g → W'.heap[g]? = W.heap[g]? := fun g e => hg.block g (ow.lt k.os e).2 (own_ne k.os k.oa (by decide) g e)
  have hn1 : ∀ g, vn.ownBlock = some g → W'.heap[g]? = W.heap[g]? := fun g e => hg.block g (ow.lt k.on e).2 (own_ne k.on k.oa (by decide) g e)
  refine ⟨hb1.set266 _, map_keep k.map ((hh mb k.ne.symm).trans hm1), ow.keep k.os fun g e => (hh g (fun e2 => k.bs.1 (by rw [← e2]; exact e.symm))).trans (hs1 g e), ow.keep k.on fun g e => (hh g (fun e2 => k.bs.2.1 (by rw [← e2]; exact e.symm))).trans (hn1 g e), ow.keep ho fun g e => hh g (fun e2 => ow.type ho hb1.blk (by decide) (by rw [← e2]; exact e.symm)), k.sn, k.bb, k.bm, fun g hx => ?_⟩
  obtain ⟨a1, a2, a3, a4, a5, a6⟩ := k.ap g hx
  exact ⟨by have := hg.size; simp; omega, a2, a3, a4, a5, new_ne hw a1 a6⟩
end
/-- how far a world is moved -/
structure Mv (X : Nat → Prop) (B : Nat) (W W' : World) : Prop where
  kp : Kp X W W'
  be : Below B W W'
section
variable {X Y : Nat → Prop} {B : Nat} {W W' W'' : World}
theorem Mv.refl (X : Nat → Prop) (B : Nat) (W : World) : Mv X B W W := ⟨⟨Nat.le_refl _, fun _ _ => rfl⟩, Below.refl _ _⟩
theorem Mv.trans (h : Mv X B W W') (k : Mv X B W' W'') : Mv X B W W'' := ⟨h.kp.trans k.kp, h.be.trans k.be⟩
theorem Mv.less (h : Mv X B W W') (hx : ∀ b, Y b → X b) : Mv Y B W W' := ⟨⟨h.kp.1, fun b hb => h.kp.2 b (hx b hb)⟩, h.be⟩
theorem Mv.set (h : Mv X B W W') {g : Nat} (hX : ∀ b, X b → b ≠ g) (hB : B ≤ g) (i : Nat) (v : Value) : Mv X B W (W'.setCell ⟨g, i, none⟩ v) :=
  h.trans ⟨⟨by simp, fun b hb => Below.heap_setCell _ _ _ b (hX b hb)⟩, (Below.refl B W').setCell (p := ⟨g, i, none⟩) hB v⟩
theorem Mv.later (k : Mv X B W W') (c : Below W'.heap.size W' W'') (hX : ∀ b, X b → b < W'.heap.size) (hB : B ≤ W'.heap.size) : Mv X B W W'' := k.trans ⟨⟨c.size, fun b hb => c.block b (hX b hb)⟩, c.mono hB⟩
theorem Mv.grown {r : Option Nat} (k : Mv X B W W') (hg : W'.grownBy W'' r) (hr : ∀ g, r = some g → B ≤ g) (hX : ∀ b, X b → b < W'.heap.size ∧ some b ≠ r) (hB : B ≤ W'.heap.size) : Mv X B W W'' :=
  k.trans ⟨⟨hg.size, fun b hb => hg.block b (hX b hb).1 (hX b hb).2⟩, (Below.refl B W').grown hg hB hr⟩
end
end Go.Proofs.Ytfilndgbgdnpiaa.bd

namespace Go.Proofs.Ytfilndgbgdnpiaa.bd
open Go.Sort Go.ChangeShapes Go.WideShapes Go.ChangeAt Go.RowKit Go.Maps
open df (Kp Row iv In IntsV Owns)
set_option linter.unusedVariables false
set_option maxRecDepth 10000

def RowV (X : Nat → Prop) (W : World) (v : Value) (l : List Int) : Prop := ∃ o cap, v = .slice o l.length cap ∧ Row X W iv o cap l
theorem RowV.carry {X Y : Nat → Prop} {W W' : World} {v : Value} {l : List Int} (h : RowV X W v l) (hk : ∀ b, X b → W'.heap[b]? = W.heap[b]?) (hq : ∀ b, X b → Y b) : RowV Y W' v l := by
  obtain ⟨o, cap, e, hr⟩ := h
  exact ⟨o, cap, e, hr.carry hk hq⟩
structure Rws (X : Nat → Prop) (W : World) (ss : List Value) (ls : List (List Int)) : Prop where
  len : ss.length = ls.length
  at' : ∀ (i : Nat) v l, ss[i]? = some v → ls[i]? = some l → RowV X W v l
theorem Rws.carry {X Y : Nat → Prop} {W W' : World} {ss : List Value} {ls : List (List Int)} (h : Rws X W ss ls) (hk : ∀ b, X b → W'.heap[b]? = W.heap[b]?) (hq : ∀ b, X b → Y b) : Rws Y W' ss ls :=
  ⟨h.len, fun i v l h1 h2 => (h.at' i v l h1 h2).carry hk hq⟩
theorem Rws.snoc {X : Nat → Prop} {W : World} {ss : List Value} {ls : List (List Int)} (h : Rws X W ss ls) {v : Value} {l : List Int} (hv : RowV X W v l) : Rws X W (ss ++ [v]) (ls ++ [l]) :=
  ⟨by simp [h.len], fun i u m h1 h2 => by
    by_cases hi : i < ss.length
    · rw [List.getElem?_append_left hi] at h1
      rw [List.getElem?_append_left (by rw [← h.len]; exact hi)] at h2
      exact h.at' i u m h1 h2
    · have hi2 := (List.getElem?_eq_some_iff.1 h1).1
      have e : i = ss.length := by simp at hi2; omega
      subst e
      rw [List.getElem?_append_right (Nat.le_refl _)] at h1
      rw [h.len, List.getElem?_append_right (Nat.le_refl _)] at h2
      simp at h1 h2
      subst h1 h2
      exact hv⟩
theorem rws_nil (X : Nat → Prop) (W : World) : Rws X W [] [] := ⟨rfl, fun i v l h => by simp at h⟩

structure MapOk (n : Nat) (L : List (List Bool)) (D : DataW Unit) : Prop where
  has : ∀ τ : List Bool, τ.length = n → Maps.has D (.string (txt τ)) = (decide (τ = off n) || decide (τ ∈ L))
  none : D.atKey (.string (txt (off n))) (.lit (.int .i64 0)) = .lit (.int .i64 (-1))
  at' : ∀ (k : Nat) τ, L[k]? = some τ → D.atKey (.string (txt τ)) (.lit (.int .i64 0)) = .lit (.int .i64 (k : Int))
theorem off_len (n : Nat) : (off n).length = n := by simp [off]
theorem MapOk.put {n : Nat} {L : List (List Bool)} {D : DataW Unit} (h : MapOk n L D) (hT : Tidy D) (hL : ∀ σ ∈ L, σ.length = n) {σ : List Bool} (hs : σ.length = n) (h1 : σ ≠ off n) (h2 : σ ∉ L) : MapOk n (L ++ [σ]) (D.put (.string (txt σ)) (.lit (.int .i64 (L.length : Int)))) := by
  have hne : ∀ τ : List Bool, τ.length = n → τ ≠ σ → (Lit.string (txt τ)) ≠ .string (txt σ) := fun τ ht e e2 => e (txt_inj (by rw [ht, hs]) (Lit.string.inj e2))
  refine ⟨fun τ ht => ?_, ?_, fun k τ hk => ?_⟩
  · by_cases e : τ = σ
    · subst e
      rw [has_put_same hT.isMap (show WideAt.IsKeyLit (.string _) from trivial)]
      simp
    · rw [has_put_other (hne τ ht e), h.has τ ht]
      simp [e]
  · rw [atKey_put_other (hne _ (off_len n) h1.symm)]
    exact h.none
  · by_cases hk2 : k < L.length
    · rw [List.getElem?_append_left hk2] at hk
      have hm := List.mem_of_getElem? hk
      rw [atKey_put_other (hne τ (hL τ hm) (fun e => h2 (e ▸ hm)))]
      exact h.at' k τ hk
    · have hi2 := (List.getElem?_eq_some_iff.1 hk).1
      have e : k = L.length := by simp at hi2; omega
      subst e
      rw [List.getElem?_append_right (Nat.le_refl _)] at hk
      simp at hk
      subst hk
      rw [atKey_put_same hT.isMap (show WideAt.IsKeyLit (.string _) from trivial)]

/-- the builder between two of its steps -/
structure Bst (X Y : Nat → Prop) (W : World) (B b mb : Nat) (h : Hd) (n e : Nat) (L : List (List Bool)) (nn : List Value) (vs vn va : Value) (ss : List Value) (m : Nat) (D : DataW Unit) : Prop where
  bu : Bu X W B b mb h vs vn va ss nn (L.map fun σ => σ.getD e false) m D
  rs : Rws Y W ss (L.map fun σ => onTo σ σ.length)
  yx : ∀ k, Y k → X k
  mp : MapOk n L D
  m1 : m ≤ L.length + 1
  hn : h.n = (n : Int)
  he : h.e = (e : Int)
  en : e < n
  n2 : n ≤ 2000
  ln : ∀ σ ∈ L, σ.length = n
theorem key_of (σ : List Bool) (h : σ.length ≤ 2000) : keyOf Try.prog 9 (.string (txtB σ)) = some (.string (txt σ)) := by
  have hs := txtB_size σ
  have := Go.WideMaps.keyOf_string_mk (P := Try.prog) (s := txtB σ) Try.underlying9 (by rw [hs]; unfold maxLen; omega)
  rw [txtB_data] at this
  exact this
def OldIs (σ : List Bool) (r : Int) (b : Nat) (W : World) : Prop := Calls Try.prog 64 #[.pointer (some ⟨b, 0, none⟩), .string (txtB σ)] W fun e W' => e = .returned (.int .i64 r) ∧ W' = W
set_option maxHeartbeats 1000000 in
theorem number_old {X Y : Nat → Prop} {W : World} {B b mb : Nat} {h : Hd} {n e : Nat} {L : List (List Bool)} {nn : List Value} {vs vn va : Value} {ss : List Value} {m : Nat} {D : DataW Unit} (k : Bst X Y W B b mb h n e L nn vs vn va ss m D) (σ : List Bool) (hs : σ.length = n) (r : Int) (hr : σ = off n ∧ r = -1 ∨ ∃ i : Nat, L[i]? = some σ ∧ r = (i : Int)) : OldIs σ r b W := by
  have hn2 := k.n2
  have hkey := key_of σ (by omega)
  have hat : D.atKey (.string (txt σ)) (.lit (.int .i64 0)) = .lit (.int .i64 r) := by
    rcases hr with ⟨rfl, rfl⟩ | ⟨i, h1, rfl⟩
    · exact k.mp.none
    · exact k.mp.at' i σ h1
  have hhas : Maps.has D (.string (txt σ)) = true := by
    rw [k.mp.has σ hs]
    rcases hr with ⟨h1, _⟩ | ⟨i, h1, _⟩
    · simp [h1]
    · simp [List.mem_of_getElem? h1]
  have c8 := k.bu.box.c8
  have hown := k.bu.map
  unfold OldIs
  generalize txtB σ = t at *
  generalize Lit.string (txt σ) = kl at *
  clear k hr hs
  go_enter Try.func64, Try.ntmps64
  go_wp2_with (at_lookup; refine wpList_lookup_own_ok_int _ rfl _ _ 85 rfl 9 3 .i64 st.law9 Try.underlying85 Try.underlying3 (st.zero3 _) mb m D rfl hown _ _ rfl hkey ?_; intro c hat2 hwc; rw [hat] at hat2; simp only [DataW.lit.injEq, Lit.int.injEq, true_and] at hat2; subst hat2; rw [hhas]; clear hwc)
  go_ret
  exact ⟨rfl, rfl⟩
end Go.Proofs.Ytfilndgbgdnpiaa.bd
