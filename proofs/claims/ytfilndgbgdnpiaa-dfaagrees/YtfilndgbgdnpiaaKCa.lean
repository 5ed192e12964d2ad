/-
  Over this program: dfa.Build, between two rows; what it hands back.
-/
import Derived.Test.YtfilndgbgdnpiaaKBz
import Derived.Test.YtfilndgbgdnpiaaM01
namespace Go.Proofs.Ytfilndgbgdnpiaa.bd
open Go.Sort Go.ChangeShapes Go.WideShapes Go.ChangeAt Go.RowKit Go.Maps
open df (Kp Row RowRow iv bv In IntsV Owns DAt)
open nf (Nfa Ed Rt EdAt Eds nfaV IRow)
open st (Q4 none4 Fits has nth jn sig Blk OwnSets)
set_option linter.unusedVariables false
set_option maxRecDepth 10000

def z37 : Array Value := (List.replicate 256 (Value.int .u8 0) ++ [Value.slice none 0 0, .slice none 0 0]).toArray
theorem z37_size : z37.size = 258 := by unfold z37; simp
theorem zero37 : ∀ w, (zeroValue 51).run Try.prog w = .ok (.agg z37) w := (zero_of_info (P := Try.prog) (t := 51) (v := .agg z37) (n := 258) (by kernel_rfl)).1
theorem built37 : Try.prog.built 51 [] = some z37 := by kernel_rfl
theorem one37 : z37.all (·.oneCell') = true := by kernel_rfl
/-- a dfa that is handed back through a cell, and a number beside it -/
theorem ret37 {fn : Func} {p u : Tmp} (h : fn.results = #[.cell p 51, .tmp u]) {a : Act} {W : World} {R : Ending → World → Prop} (g : Nat) (cs : Array Value) (n : Int) (hp : a.tmps.getD p undef = .pointer (some ⟨g, 0, none⟩)) (hA : W.heap[g]? = some (.cells cs 51 (0, 0))) (hs : cs.size = 258) (hu : a.tmps.getD u undef = .int .i64 n) (hd : a.defers = [])
    (hR : R (.returned (.tuple #[.agg cs, .int .i64 n])) W) : bodyPost Try.prog fn R .ret a W :=
  bodyPost_ret (by rw [results_cell_tmp h, hp, hu]; simp [asAddr, Result.andThen, run_loadVar_row W g 51 51 _ (0, 0) _ hA Try.underlying51 rfl (df.info51 cs hs)]) hd hR
theorem irow_rowV {X : Nat → Prop} {w : World} {g : Nat} {r : List Int} (h : IRow w g r) (hx : X g) (hr : r.length ≤ 1000000) : RowV X w (.slice (some ⟨g, 0, none⟩) r.length r.length) r :=
  ⟨_, _, rfl, Nat.le_refl _, by omega, fun i hi => ⟨g, 0, rfl, hx, by rw [Nat.zero_add]; exact h.cell i hi⟩⟩

/-- between two rows -/
structure Lp (W : World) (x : Nfa) (n e : Nat) (ls : List Nat) (b mb : Nat) (h : Hd) (ob fb : Nat) (lo : Option Addr) (lc : Nat) (j : Nat) (wr : World) (X Y : Nat → Prop) (L : List (List Bool)) (nn : List Value) (rs : List (List Int)) (vs vn va : Value) (ss : List Value) (m : Nat) (D : DataW Unit) : Prop where
  bs : Bst X Y wr W.heap.size b mb h n e L nn vs vn va ss m D
  nt : Net Y wr h n (esAt x.edges) (fsAt x.edges) ls ob n fb n lo lc
  nm : Nums x n L
  ln : L.length ≤ 400
  jl : j ≤ L.length
  rj : rs.length = j
  rw : Rws (fun g => X g ∧ W.heap.size ≤ g) wr nn rs
  ro : ∀ (k : Nat) σ r, L[k]? = some σ → rs[k]? = some r → RowOf x n ls L σ r
  be : Below W.heap.size W wr
section
variable {W w w1 w' : World} {x : Nfa} {n e : Nat} {ls : List Nat} {b mb : Nat} {h : Hd} {ob fb : Nat} {lo : Option Addr} {lc j : Nat} {X Y : Nat → Prop} {L : List (List Bool)} {nn : List Value} {rs : List (List Int)} {vs vn va : Value} {ss : List Value} {m : Nat} {D : DataW Unit}
theorem Bst.later {B : Nat} (k : Bst X Y w B b mb h n e L nn vs vn va ss m D) (c : Below w.heap.size w w') : Bst X Y w' B b mb h n e L nn vs vn va ss m D := k.more c (fun _ h => h) (fun _ h => .inl h)
/-- a row is put behind the others -/
theorem Bst.putN {B : Nat} (k : Bst X Y w B b mb h n e L nn vs vn va ss m D) {nn' : List Value} {g' k' cap' : Nat} (hk' : k' = nn'.length) (ho : w'.ownsRow B 39 1 (.slice (some ⟨g', 0, none⟩) k' cap') k' nn') (hg : w.grownBy w' vn.ownBlock) (hw : some g' = vn.ownBlock ∨ w.heap.size ≤ g') :
    BBox w' b h vs (.map (some mb)) vn va ∧ Bst X Y (w'.setCell ⟨b, 265, none⟩ (.slice (some ⟨g', 0, none⟩) k' cap')) B b mb h n e L nn' vs (.slice (some ⟨g', 0, none⟩) k' cap') va ss m D ∧ Kp X w (w'.setCell ⟨b, 265, none⟩ (.slice (some ⟨g', 0, none⟩) k' cap')) ∧ Below B w (w'.setCell ⟨b, 265, none⟩ (.slice (some ⟨g', 0, none⟩) k' cap')) := by
  have hX : ∀ g, X g → (w'.setCell ⟨b, 265, none⟩ (.slice (some ⟨g', 0, none⟩) k' cap')).heap[g]? = w.heap[g]? := fun g hx => by
    obtain ⟨a1, a2, a3, a4, a5, a6⟩ := k.bu.ap g hx
    rw [Below.heap_setCell _ _ _ g a2, hg.block g a1 a5]
  have hb := (Below.refl B w).grown hg k.bu.size (fun g e => (ow.lt k.bu.on e).1)
  refine ⟨k.bu.box.keep (hg.block b k.bu.box.lt k.bu.bs.2.1), ⟨k.bu.putN hk' ho hg hw, k.rs.carry (fun g hy => hX g (k.yx g hy)) (fun _ h => h), k.yx, k.mp, k.m1, k.hn, k.he, k.en, k.n2, k.ln⟩, ⟨by have := hg.size; simpa using this, hX⟩, hb.setCell (p := ⟨b, 265, none⟩) k.bu.bb _⟩
/-- the next round -/
theorem Lp.next (k : Lp W x n e ls b mb h ob fb lo lc j w X Y L nn rs vs vn va ss m D) {g : Nat} {r : List Int} {L' : List (List Bool)} {X' Y' : Nat → Prop} {vs1 vn1 va1 : Value} {ss1 : List Value} {m1 : Nat} {D1 : DataW Unit}
    (hir : IRow w1 g r) (hro : ∀ σ, L[j]? = some σ → RowOf x n ls L' σ r) (hj : j < L.length) (hpre : L <+: L') (hL : L'.length ≤ 400) (hnm : Nums x n L') (hX : ∀ k, X k → X' k) (hY : ∀ k, Y k → Y' k) (hg : X' g) (hgB : W.heap.size ≤ g) (hls : r.length ≤ 1000000) (kb : Bst X' Y' w1 W.heap.size b mb h n e L' nn vs1 vn1 va1 ss1 m1 D1) (mv : Mv X W.heap.size w w1)
    {w2 w3 : World} (c : Below w1.heap.size w1 w2) {g' cap' : Nat} (ho : w3.ownsRow W.heap.size 39 1 (.slice (some ⟨g', 0, none⟩) (nn.length + 1) cap') (nn.length + 1) (nn ++ [.slice (some ⟨g, 0, none⟩) r.length r.length])) (hgr : w2.grownBy w3 vn1.ownBlock) (hw : some g' = vn1.ownBlock ∨ w2.heap.size ≤ g') :
    BBox w3 b h vs1 (.map (some mb)) vn1 va1 ∧ Lp W x n e ls b mb h ob fb lo lc (j + 1) (w3.setCell ⟨b, 265, none⟩ (.slice (some ⟨g', 0, none⟩) (nn.length + 1) cap')) X' Y' L' (nn ++ [.slice (some ⟨g, 0, none⟩) r.length r.length]) (rs ++ [r]) vs1 (.slice (some ⟨g', 0, none⟩) (nn.length + 1) cap') va1 ss1 m1 D1 := by
  have kb2 := kb.later c
  obtain ⟨q1, q2, q3, q4⟩ := kb2.putN (nn' := nn ++ [.slice (some ⟨g, 0, none⟩) r.length r.length]) (by simp) ho hgr hw
  have lt1 : ∀ g, X' g → g < w1.heap.size := fun g hg => (kb.bu.ap g hg).1
  have hk : ∀ g, X' g → (w3.setCell ⟨b, 265, none⟩ (.slice (some ⟨g', 0, none⟩) (nn.length + 1) cap')).heap[g]? = w1.heap[g]? := fun g hg => (q3.2 g hg).trans (c.block g (lt1 g hg))
  refine ⟨q1, q2, (k.nt.carry (fun g hg => (hk g (hX g (k.bs.yx g hg))).trans (mv.kp.2 g (k.bs.yx g hg))) hY), hnm, hL, by have := hpre.length_le; omega, by rw [List.length_append, k.rj]; rfl, ?_, ?_, ?_⟩
  · refine (k.rw.carry (fun g hg => (hk g (hX g hg.1)).trans (mv.kp.2 g hg.1)) (fun g hg => ⟨hX g hg.1, hg.2⟩)).snoc ?_
    exact (irow_rowV (X := fun g => X' g ∧ W.heap.size ≤ g) hir ⟨hg, hgB⟩ hls).carry (fun g hg => hk g hg.1) (fun _ h => h)
  · intro i σ r' h1 h2
    by_cases hi : i < rs.length
    · rw [List.getElem?_append_left hi] at h2
      have hj2 := k.rj
      have hiL : i < L.length := by omega
      have e1 : L[i]? = some L[i] := List.getElem?_eq_getElem hiL
      have e2 := get_pre hpre e1
      rw [h1] at e2
      cases e2
      exact (k.ro i _ r' e1 h2).more hpre
    · have hlt := (List.getElem?_eq_some_iff.1 h2).1
      rw [List.length_append] at hlt
      have e : i = rs.length := by simp at hlt; omega
      subst e
      rw [List.getElem?_append_right (Nat.le_refl _)] at h2
      simp at h2
      subst h2
      have hjj := k.rj
      have e1 : L[j]? = some L[j] := List.getElem?_eq_getElem hj
      have e2 := get_pre hpre e1
      rw [hjj] at h1
      rw [h1] at e2
      cases e2
      exact hro _ e1
  · exact (k.be.trans mv.be).trans ((c.mono kb.bu.size).trans q4)
end
/-- what is built, as a dfa -/
def dOf (x : Nfa) (rs : List (List Int)) (L : List (List Bool)) (e : Nat) : df.Dfa := ⟨fun b => (xsOf x).getD b 0, rs, L.map fun σ => σ.getD e false⟩
theorem xs_getD (x : Nfa) (b : Nat) (h : b < 256) : (xsOf x).getD b 0 = st.clsBy (st.like (parts x.edges)) b := by rw [List.getD_eq_getElem?_getD, xs_at x b h]; rfl
theorem Lp.built {W w : World} {x : Nfa} {n e : Nat} {b mb : Nat} {h : Hd} {ob fb : Nat} {lo : Option Addr} {lc j : Nat} {X Y : Nat → Prop} {L : List (List Bool)} {nn : List Value} {rs : List (List Int)} {vs vn va : Value} {ss : List Value} {m : Nat} {D : DataW Unit} (k : Lp W x n e (lsOf x) b mb h ob fb lo lc j w X Y L nn rs vs vn va ss m D) (hj : j = L.length) (he : x.e = (e : Int)) : Built x n (lsOf x) L (dOf x rs L e) :=
  ⟨k.nm, by rw [← hj, ← k.rj]; rfl, fun i σ r h1 h2 => k.ro i σ r h1 h2, by unfold dOf; simp only; rw [he]; rfl, ls_pos x, ls_most x, ls_byte x,
   fun b hb => by
    obtain ⟨y, h1, h2⟩ := ls_same x b hb
    refine ⟨y, ?_, h2⟩
    show (lsOf x)[(xsOf x).getD b 0]? = _
    rw [xs_getD x b hb]; exact h1,
   fun c y hy => by
    show (xsOf x).getD y 0 = c
    rw [xs_getD x y (ls_byte x y (List.mem_of_getElem? hy))]
    exact ls_own x c y hy⟩
theorem Lp.cells {W w : World} {x : Nfa} {n e : Nat} {b mb : Nat} {h : Hd} {ob fb : Nat} {lo : Option Addr} {lc j : Nat} {X Y : Nat → Prop} {L : List (List Bool)} {nn : List Value} {rs : List (List Int)} {vs vn va : Value} {ss : List Value} {m : Nat} {D : DataW Unit} (k : Lp W x n e (lsOf x) b mb h ob fb lo lc j w X Y L nn rs vs vn va ss m D) (hcl : h.cl = (xsOf x).map fun y : Nat => Value.int .u8 (y : Int)) {w' : World} (hk : ∀ g, g < w.heap.size → W.heap.size ≤ g → w'.heap[g]? = w.heap[g]?) (hsz : w.heap.size ≤ w'.heap.size) :
    (h.cl ++ [vn, va]).length = 258 ∧ w.rangeAt b 9 (h.cl ++ [vn, va]) ∧ ∃ o cap ao acap, DAt (In w') w' (dOf x rs L e) (h.cl ++ [vn, va]).toArray o cap ao acap := by
  have hl := k.bs.bu.box.cl
  obtain ⟨o, cap, en, f1, f2⟩ := ow.form k.bs.bu.on
  obtain ⟨ao, acap, ea, g1, g2⟩ := ow.form k.bs.bu.oa
  refine ⟨by simp [hl], ?_, o, cap, ao, acap, by simp [hl], ?_, ?_, ?_, ?_, ?_, ?_⟩
  · intro i v hv
    rw [Lib.cell_of_heap k.bs.bu.box.blk, List.getElem?_toArray]
    have : (9 : Nat) + i = [Value.int .i64 h.n, .int .i64 h.s, .int .i64 h.e, .slice h.eo h.em h.ec, h.vo, h.vf, h.vl, vs, .map (some mb)].length + i := rfl
    rw [this]
    show ([Value.int .i64 h.n, .int .i64 h.s, .int .i64 h.e, .slice h.eo h.em h.ec, h.vo, h.vf, h.vl, vs, .map (some mb)] ++ (h.cl ++ [vn, va]))[_]? = _
    rw [List.getElem?_append_right (Nat.le_add_right _ _), Nat.add_sub_cancel_left]
    exact hv
  · intro i hi
    rw [List.getElem?_toArray, List.getElem?_append_left (by omega), hcl, List.getElem?_map]
    have hx : i < (xsOf x).length := by rw [xs_len]; exact hi
    show _ = some (Value.int .u8 (((xsOf x).getD i 0 : Nat) : Int))
    rw [List.getElem?_eq_getElem hx, List.getD_eq_getElem?_getD, List.getElem?_eq_getElem hx]
    rfl
  · intro i
    show (xsOf x).getD i 0 < 256
    by_cases hi : i < 256
    · rw [xs_getD x i hi]; exact cls_byte x i hi
    · rw [List.getD_eq_getElem?_getD, List.getElem?_eq_none (by rw [xs_len]; omega)]; decide
  · rw [List.getElem?_toArray, (tail_at h.cl hl vn va).1, en, k.rw.len]; rfl
  · rw [List.getElem?_toArray, (tail_at h.cl hl vn va).2, ea]
    show some (Value.slice ao (L.map fun σ => σ.getD e false).length acap) = some (Value.slice ao ((L.map fun σ => σ.getD e false)).length acap)
    rfl
  · refine ⟨by have := k.rw.len; show rs.length ≤ cap; omega, f2, fun i hi => ?_⟩
    have hi2 : i < rs.length := hi
    have hin : i < nn.length := by rw [k.rw.len]; exact hi2
    obtain ⟨g', cap', e1, e2, e3⟩ := ow.cell k.bs.bu.on i hin
    obtain ⟨oi, ci, e4, hrow⟩ := k.rw.at' i _ _ (List.getElem?_eq_getElem hin) (List.getElem?_eq_getElem hi2)
    have e5 := en.symm.trans e1
    simp only [Value.slice.injEq, true_and] at e5
    have hB : W.heap.size ≤ g' := (ow.lt k.bs.bu.on (g := g') (by rw [e1]; rfl)).1
    refine ⟨g', 0, oi, ci, e5.1, Nat.lt_of_lt_of_le e2 hsz, ?_, hrow.carry (fun g hg => hk g (k.bs.bu.ap g hg.1).1 hg.2) (fun g hg => Nat.lt_of_lt_of_le (k.bs.bu.ap g hg.1).1 hsz)⟩
    rw [Nat.zero_add, World.cell?_of_block (w := w) (a := ⟨g', i, none⟩) (hk g' e2 hB), e3, e4]
    rfl
  · refine ⟨by show (L.map fun σ => σ.getD e false).length ≤ acap; exact g1, g2, fun i hi => ?_⟩
    have hi2 : i < (L.map fun σ => σ.getD e false).length := hi
    obtain ⟨g', cap', e1, e2, e3⟩ := ow.cell k.bs.bu.oa i (by simpa using hi2)
    have e5 := ea.symm.trans e1
    simp only [Value.slice.injEq, true_and] at e5
    have hB : W.heap.size ≤ g' := (ow.lt k.bs.bu.oa (g := g') (by rw [e1]; rfl)).1
    refine ⟨g', 0, e5.1, Nat.lt_of_lt_of_le e2 hsz, ?_⟩
    rw [Nat.zero_add, World.cell?_of_block (w := w) (a := ⟨g', i, none⟩) (hk g' e2 hB), e3, List.getElem_map]
    rfl
end Go.Proofs.Ytfilndgbgdnpiaa.bd
