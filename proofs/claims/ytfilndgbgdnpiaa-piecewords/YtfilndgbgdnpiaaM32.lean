/-
  Texts put together: Over this program: dfa.Build, between two rows; what it hands back. Contracts over this program: a dfa is built of an nfa (dfa.Build).
-/
import Derived.Test.YtfilndgbgdnpiaaKBz
import Derived.Test.YtfilndgbgdnpiaaM00
namespace Go.Proofs.Ytfilndgbgdnpiaa.bd
open Go.Sort Go.ChangeShapes Go.WideShapes Go.ChangeAt Go.RowKit Go.Maps
open df (Kp Row RowRow iv bv In IntsV Owns DAt)
open nf (Nfa Ed Rt EdAt Eds nfaV IRow)
open st (Q4 none4 Fits has nth jn sig Blk OwnSets)
set_option linter.unusedVariables false
set_option maxRecDepth 10000

def z37 : Array Value := (List.replicate 256 (Value.int .u8 0) ++ [Value.slice none 0 0, .slice none 0 0]).toArray
theorem z37_size : z37.size = 258 := by unfold z37; simp
theorem zero37 : ∀ w, (zeroValue 51).run Try.prog w = .ok (.agg z37) w := (zero_of_info (P := Try.prog) (t := 51) (v := .agg z37) (n := 258) (by kernel_rfl)).1
theorem built37 : Try.prog.built 51 [] = some z37 := by kernel_rfl
theorem one37 : z37.all (·.oneCell') = true := by kernel_rfl
/-- a dfa that is handed back through a cell, and a number beside it -/
theorem ret37 {fn : Func} {p u : Tmp} (h : fn.results = #[.cell p 51, .tmp u]) {a : Act} {W : World} {R : Ending → World → Prop} (g : Nat) (cs : Array Value) (n : Int) (hp : a.tmps.getD p undef = .pointer (some ⟨g, 0, none⟩)) (hA : W.heap[g]? = some (.cells cs 51 (0, 0))) (hs : cs.size = 258) (hu : a.tmps.getD u undef = .int .i64 n) (hd : a.defers = [])
    (hR : R (.returned (.tuple #[.agg cs, .int .i64 n])) W) : bodyPost Try.prog fn R .ret a W :=
  bodyPost_ret (by rw [results_cell_tmp h, hp, hu]; simp [asAddr, Result.andThen, run_loadVar_row W g 51 51 _ (0, 0) _ hA Try.underlying51 rfl (df.info51 cs hs)]) hd hR
theorem irow_rowV {X : Nat → Prop} {w : World} {g : Nat} {r : List Int} (h : IRow w g r) (hx : X g) (hr : r.length ≤ 1000000) : RowV X w (.slice (some ⟨g, 0, none⟩) r.length r.length) r :=
  ⟨_, _, rfl, Nat.le_refl _, by omega, fun i hi => ⟨g, 0, rfl, hx, by rw [Nat.zero_add]; exact h.cell i hi⟩⟩

/-- between two rows -/
structure Lp (W : World) (x : Nfa) (n e : Nat) (ls : List Nat) (b mb : Nat) (h : Hd) (ob fb : Nat) (lo : Option Addr) (lc : Nat) (j : Nat) (wr : World) (X Y : Nat → Prop) (L : List (List Bool)) (nn : List Value) (rs : List (List Int)) (vs vn va : Value) (ss : List Value) (m : Nat) (D : DataW Unit) : Prop where
  bs : Bst X Y wr W.heap.size b mb h n e L nn vs vn va ss m D
  nt : Net Y wr h n (esAt x.edges) (fsAt x.edges) ls ob n fb n lo lc
  nm : Nums x n L
  ln : L.length ≤ 400
  jl : j ≤ L.length
  rj : rs.length = j
  rw : Rws (fun g => X g ∧ W.heap.size ≤ g) wr nn rs
  ro : ∀ (k : Nat) σ r, L[k]? = some σ → rs[k]? = some r → RowOf x n ls L σ r
  be : Below W.heap.size W wr
section
variable {W w w1 w' : World} {x : Nfa} {n e : Nat} {ls : List Nat} {b mb : Nat} {h : Hd} {ob fb : Nat} {lo : Option Addr} {lc j : Nat} {X Y : Nat → Prop} {L : List (List Bool)} {nn : List Value} {rs : List (List Int)} {vs vn va : Value} {ss : List Value} {m : Nat} {D : DataW Unit}
theorem Bst.later {B : Nat} (k : Bst X Y w B b mb h n e L nn vs vn va ss m D) (c : Below w.heap.size w w') : Bst X Y w' B b mb h n e L nn vs vn va ss m D := k.more c (fun _ h => h) (fun _ h => .inl h)
/-- a row is put behind the others -/
theorem Bst.putN {B : Nat} (k : Bst X Y w B b mb h n e L nn vs vn va ss m D) {nn' : List Value} {g' k' cap' : Nat} (hk' : k' = nn'.length) (ho : w'.ownsRow B 39 1 (.slice (some ⟨g', 0, none⟩) k' cap') k' nn') (hg : w.grownBy w' vn.ownBlock) (hw : some g' = vn.ownBlock ∨ w.heap.size ≤ g') :
    BBox w' b h vs (.map (some mb)) vn va ∧ Bst X Y (w'.setCell ⟨b, 265, none⟩ (.slice (some ⟨g', 0, none⟩) k' cap')) B b mb h n e L nn' vs (.slice (some ⟨g', 0, none⟩) k' cap') va ss m D ∧ Kp X w (w'.setCell ⟨b, 265, none⟩ (.slice (some ⟨g', 0, none⟩) k' cap')) ∧ Below B w (w'.setCell ⟨b, 265, none⟩ (.slice (some ⟨g', 0, none⟩) k' cap')) := by
  have hX : ∀ g, X g → (w'.setCell ⟨b, 265, none⟩ (.slice (some ⟨g', 0, none⟩) k' cap')).heap[g]? = w.heap[g]? := fun g hx => by
    obtain ⟨a1, a2, a3, a4, a5, a6⟩ := k.bu.ap g hx
    rw [Below.heap_setCell _ _ _ g a2, hg.block g a1 a5]
  have hb := (Below.refl B w).grown hg k.bu.size (fun g e => (ow.lt k.bu.on e).1)
  refine ⟨k.bu.box.keep (hg.block b k.bu.box.lt k.bu.bs.2.1), ⟨k.bu.putN hk' ho hg hw, k.rs.carry (fun g hy => hX g (k.yx g hy)) (fun _ h => h), k.yx, k.mp, k.m1, k.hn, k.he, k.en, k.n2, k.ln⟩, ⟨by have := hg.size; simpa using this, hX⟩, hb.setCell (p := ⟨b, 265, none⟩) k.bu.bb _⟩
/-- the next round -/
theorem Lp.next (k : Lp W x n e ls b mb h ob fb lo lc j w X Y L nn rs vs vn va ss m D) {g : Nat} {r : List Int} {L' : List (List Bool)} {X' Y' : Nat → Prop} {vs1 vn1 va1 : Value} {ss1 : List Value} {m1 : Nat} {D1 : DataW Unit}
    (hir : IRow w1 g r) (hro : ∀ σ, L[j]? = some σ → RowOf x n ls L' σ r) (hj : j < L.length) (hpre : L <+: L') (hL : L'.length ≤ 400) (hnm : Nums x n L') (hX : ∀ k, X k → X' k) (hY : ∀ k, Y k → Y' k) (hg : X' g) (hgB : W.heap.size ≤ g) (hls : r.length ≤ 1000000) (kb : Bst X' Y' w1 W.heap.size b mb h n e L' nn vs1 vn1 va1 ss1 m1 D1) (mv : Mv X W.heap.size w w1)
    {w2 w3 : World} (c : Below w1.heap.size w1 w2) {g' cap' : Nat} (ho : w3.ownsRow W.heap.size 39 1 (.slice (some ⟨g', 0, none⟩) (nn.length + 1) cap') (nn.length + 1) (nn ++ [.slice (some ⟨g, 0, none⟩) r.length r.length])) (hgr : w2.grownBy w3 vn1.ownBlock) (hw : some g' = vn1.ownBlock ∨ w2.heap.size ≤ g') :
    BBox w3 b h vs1 (.map (some mb)) vn1 va1 ∧ Lp W x n e ls b mb h ob fb lo lc (j + 1) (w3.setCell ⟨b, 265, none⟩ (.slice (some ⟨g', 0, none⟩) (nn.length + 1) cap')) X' Y' L' (nn ++ [.slice (some ⟨g, 0, none⟩) r.length r.length]) (rs ++ [r]) vs1 (.slice (some ⟨g', 0, none⟩) (nn.length + 1) cap') va1 ss1 m1 D1 := by
  have kb2 := kb.later c
  obtain ⟨q1, q2, q3, q4⟩ := kb2.putN (nn' := nn ++ [.slice (some ⟨g, 0, none⟩) r.length r.length]) (by simp) ho hgr hw
  have lt1 : ∀ g, X' g → g < w1.heap.size := fun g hg => (kb.bu.ap g hg).1
  have hk : ∀ g, X' g → (w3.setCell ⟨b, 265, none⟩ (.slice (some ⟨g', 0, none⟩) (nn.length + 1) cap')).heap[g]? = w1.heap[g]? := fun g hg => (q3.2 g hg).trans (c.block g (lt1 g hg))
  refine ⟨q1, q2, (k.nt.carry (fun g hg => (hk g (hX g (k.bs.yx g hg))).trans (mv.kp.2 g (k.bs.yx g hg))) hY), hnm, hL, by have := hpre.length_le; omega, by rw [List.length_append, k.rj]; rfl, ?_, ?_, ?_⟩
  · refine (k.rw.carry (fun g hg => (hk g (hX g hg.1)).trans (mv.kp.2 g hg.1)) (fun g hg => ⟨hX g hg.1, hg.2⟩)).snoc ?_
    exact (irow_rowV (X := fun g => X' g ∧ W.heap.size ≤ g) hir ⟨hg, hgB⟩ hls).carry (fun g hg => hk g hg.1) (fun _ h => h)
  · intro i σ r' h1 h2
    by_cases hi : i < rs.length
    · rw [List.getElem?_append_left hi] at h2
      have hj2 := k.rj
      have hiL : i < L.length := by omega
      have e1 : L[i]? = some L[i] := List.getElem?_eq_getElem hiL
      have e2 := get_pre hpre e1
      rw [h1] at e2
      cases e2
      exact (k.ro i _ r' e1 h2).more hpre
    · have hlt := (List.getElem?_eq_some_iff.1 h2).1
      rw [List.length_append] at hlt
      have e : i = rs.length := by simp at hlt; omega
      subst e
      rw [List.getElem?_append_right (Nat.le_refl _)] at h2
      simp at h2
      subst h2
      have hjj := k.rj
      have e1 : L[j]? = some L[j] := List.getElem?_eq_getElem hj
      have e2 := get_pre hpre e1
      rw [hjj] at h1
      rw [h1] at e2
      cases e2
      exact hro _ e1
  · exact (k.be.trans mv.be).trans ((c.mono kb.bu.size).trans q4)
end
/-- what is built, as a dfa -/
def dOf (x : Nfa) (rs : List (List Int)) (L : List (List Bool)) (e : Nat) : df.Dfa := ⟨fun b => (xsOf x).getD b 0, rs, L.map fun σ => σ.getD e false⟩
theorem xs_getD (x : Nfa) (b : Nat) (h : b < 256) : (xsOf x).getD b 0 = st.clsBy (st.like (parts x.edges)) b := by rw [List.getD_eq_getElem?_getD, xs_at x b h]; rfl
theorem Lp.built {W w : World} {x : Nfa} {n e : Nat} {b mb : Nat} {h : Hd} {ob fb : Nat} {lo : Option Addr} {lc j : Nat} {X Y : Nat → Prop} {L : List (List Bool)} {nn : List Value} {rs : List (List Int)} {vs vn va : Value} {ss : List Value} {m : Nat} {D : DataW Unit} (k : Lp W x n e (lsOf x) b mb h ob fb lo lc j w X Y L nn rs vs vn va ss m D) (hj : j = L.length) (he : x.e = (e : Int)) : Built x n (lsOf x) L (dOf x rs L e) :=
  ⟨k.nm, by rw [← hj, ← k.rj]; rfl, fun i σ r h1 h2 => k.ro i σ r h1 h2, by unfold dOf; simp only; rw [he]; rfl, ls_pos x, ls_most x, ls_byte x,
   fun b hb => by
    obtain ⟨y, h1, h2⟩ := ls_same x b hb
    refine ⟨y, ?_, h2⟩
    show (lsOf x)[(xsOf x).getD b 0]? = _
    rw [xs_getD x b hb]; exact h1,
   fun c y hy => by
    show (xsOf x).getD y 0 = c
    rw [xs_getD x y (ls_byte x y (List.mem_of_getElem? hy))]
    exact ls_own x c y hy⟩
theorem Lp.cells {W w : World} {x : Nfa} {n e : Nat} {b mb : Nat} {h : Hd} {ob fb : Nat} {lo : Option Addr} {lc j : Nat} {X Y : Nat → Prop} {L : List (List Bool)} {nn : List Value} {rs : List (List Int)} {vs vn va : Value} {ss : List Value} {m : Nat} {D : DataW Unit} (k : Lp W x n e (lsOf x) b mb h ob fb lo lc j w X Y L nn rs vs vn va ss m D) (hcl : h.cl = (xsOf x).map fun y : Nat => Value.int .u8 (y : Int)) {w' : World} (hk : ∀ g, g < w.heap.size → W.heap.size ≤ g → w'.heap[g]? = w.heap[g]?) (hsz : w.heap.size ≤ w'.heap.size) :
    (h.cl ++ [vn, va]).length = 258 ∧ w.rangeAt b 9 (h.cl ++ [vn, va]) ∧ ∃ o cap ao acap, DAt (In w') w' (dOf x rs L e) (h.cl ++ [vn, va]).toArray o cap ao acap := by
  have hl := k.bs.bu.box.cl
  obtain ⟨o, cap, en, f1, f2⟩ := ow.form k.bs.bu.on
  obtain ⟨ao, acap, ea, g1, g2⟩ := ow.form k.bs.bu.oa
  refine ⟨by simp [hl], ?_, o, cap, ao, acap, by simp [hl], ?_, ?_, ?_, ?_, ?_, ?_⟩
  · intro i v hv
    rw [Lib.cell_of_heap k.bs.bu.box.blk, List.getElem?_toArray]
    have : (9 : Nat) + i = [Value.int .i64 h.n, .int .i64 h.s, .int .i64 h.e, .slice h.eo h.em h.ec, h.vo, h.vf, h.vl, vs, .map (some mb)].length + i := rfl
    rw [this]
    show ([Value.int .i64 h.n, .int .i64 h.s, .int .i64 h.e, .slice h.eo h.em h.ec, h.vo, h.vf, h.vl, vs, .map (some mb)] ++ (h.cl ++ [vn, va]))[_]? = _
    rw [List.getElem?_append_right (Nat.le_add_right _ _), Nat.add_sub_cancel_left]
    exact hv
  · intro i hi
    rw [List.getElem?_toArray, List.getElem?_append_left (by omega), hcl, List.getElem?_map]
    have hx : i < (xsOf x).length := by rw [xs_len]; exact hi
    show _ = some (Value.int .u8 (((xsOf x).getD i 0 : Nat) : Int))
    rw [List.getElem?_eq_getElem hx, List.getD_eq_getElem?_getD, List.getElem?_eq_getElem hx]
    rfl
  · intro i
    show (xsOf x).getD i 0 < 256
    by_cases hi : i < 256
    · rw [xs_getD x i hi]; exact cls_byte x i hi
    · rw [List.getD_eq_getElem?_getD, List.getElem?_eq_none (by rw [xs_len]; omega)]; decide
  · rw [List.getElem?_toArray, (tail_at h.cl hl vn va).1, en, k.rw.len]; rfl
  · rw [List.getElem?_toArray, (tail_at h.cl hl vn va).2, ea]
    show some (Value.slice ao (L.map fun σ => σ.getD e false).length acap) = some (Value.slice ao ((L.map fun σ => σ.getD e false)).length acap)
    rfl
  · refine ⟨by have := k.rw.len; show rs.length ≤ cap; omega, f2, fun i hi => ?_⟩
    have hi2 : i < rs.length := hi
    have hin : i < nn.length := by rw [k.rw.len]; exact hi2
    obtain ⟨g', cap', e1, e2, e3⟩ := ow.cell k.bs.bu.on i hin
    obtain ⟨oi, ci, e4, hrow⟩ := k.rw.at' i _ _ (List.getElem?_eq_getElem hin) (List.getElem?_eq_getElem hi2)
    have e5 := en.symm.trans e1
    simp only [Value.slice.injEq, true_and] at e5
    have hB : W.heap.size ≤ g' := (ow.lt k.bs.bu.on (g := g') (by rw [e1]; rfl)).1
    refine ⟨g', 0, oi, ci, e5.1, Nat.lt_of_lt_of_le e2 hsz, ?_, hrow.carry (fun g hg => hk g (k.bs.bu.ap g hg.1).1 hg.2) (fun g hg => Nat.lt_of_lt_of_le (k.bs.bu.ap g hg.1).1 hsz)⟩
    rw [Nat.zero_add, World.cell?_of_block (w := w) (a := ⟨g', i, none⟩) (hk g' e2 hB), e3, e4]
    rfl
  · refine ⟨by show (L.map fun σ => σ.getD e false).length ≤ acap; exact g1, g2, fun i hi => ?_⟩
    have hi2 : i < (L.map fun σ => σ.getD e false).length := hi
    obtain ⟨g', cap', e1, e2, e3⟩ := ow.cell k.bs.bu.oa i (by simpa using hi2)
    have e5 := ea.symm.trans e1
    simp only [Value.slice.injEq, true_and] at e5
    have hB : W.heap.size ≤ g' := (ow.lt k.bs.bu.oa (g := g') (by rw [e1]; rfl)).1
    refine ⟨g', 0, e5.1, Nat.lt_of_lt_of_le e2 hsz, ?_⟩
    rw [Nat.zero_add, World.cell?_of_block (w := w) (a := ⟨g', i, none⟩) (hk g' e2 hB), e3, List.getElem_map]
    rfl
end Go.Proofs.Ytfilndgbgdnpiaa.bd

namespace Go.Proofs.Ytfilndgbgdnpiaa.bd
open Go.Sort Go.ChangeShapes Go.WideShapes Go.ChangeAt Go.RowKit Go.Maps
open df (Kp Row RowRow iv bv In IntsV Owns DAt)
open nf (Nfa Ed Rt EdAt Eds nfaV IRow)
open st (Q4 none4 Fits has nth jn sig Blk OwnSets)
set_option linter.unusedVariables false
set_option maxRecDepth 10000

def NoIs (x : Nfa) (eo : Option Addr) (ec : Nat) (W : World) : Prop := Calls Try.prog 19 #[nfaV x.n x.s x.e eo x.edges.length ec] W fun ev W' => ev = .returned (.tuple #[.agg z37, .int .i64 1]) ∧ Below W.heap.size W W'
def YesIs (x : Nfa) (n : Nat) (eo : Option Addr) (ec : Nat) (W : World) : Prop := Calls Try.prog 19 #[nfaV x.n x.s x.e eo x.edges.length ec] W fun ev W' => Below W.heap.size W W' ∧
  ((ev = .returned (.tuple #[.agg z37, .int .i64 80]) ∧ ∃ L, Nums x n L ∧ 400 < L.length) ∨ ∃ L d cs o cap ao acap, ev = .returned (.tuple #[.agg cs, .int .i64 0]) ∧ Built x n (lsOf x) L d ∧ L.length ≤ 400 ∧ DAt (In W') W' d cs o cap ao acap)
set_option maxHeartbeats 2000000 in
set_option maxRecDepth 100000 in
theorem build_no (x : Nfa) (hr : nf.right x = false) (eo : Option Addr) (ec : Nat) (W : World) (hE : Eds W eo ec x.edges) : NoIs x eo ec W := by
  have hz := zero37
  have hs := z37_size
  have hb := built37
  obtain ⟨w2, HW2⟩ : ∃ w2, Hid (w2 = (W.alloc (.cells #[.int .i64 x.n, .int .i64 x.s, .int .i64 x.e, .slice eo x.edges.length ec] 31)).alloc (.cells z37 51)) := ⟨_, rfl⟩
  have HB2 := (show Hid (Below W.heap.size W w2) from by show Below _ _ _; rw [HW2.out]; exact ((Below.refl _ _).alloc (Nat.le_refl _) _).alloc (by simp) _)
  have HR2 := (show Hid (w2.heap[W.heap.size + 1]? = some (.cells z37 51 (0, 0))) from by show _ = _; rw [HW2.out]; exact heap_alloc2_new W _ _)
  have h11 := nf.right_any x false hr.symm eo ec w2 (hE.later HB2.out)
  have HRL := (show Hid (W.heap.size + 1 < w2.heap.size) from (Array.getElem?_eq_some_iff.1 HR2.out).1)
  unfold NoIs
  clear hr hE
  go_enter Try.func19, Try.ntmps19
  go_wp2_with (first | (go_at_call 30; rw [← HW2.out]; refine h11.mono ?_; rintro ev w3 ⟨rfl, b3⟩; have HB3 := (show Hid _ from b3); clear b3) | (refine wpList_store_row (by rfl) 51 (.tmp 2) (.tmp 10) (by rfl) (W.heap.size + 1) z37 (by rfl) (by rfl) 51 z37 (by exact (HB3.out.block _ HRL.out).trans HR2.out) (df.info51 _ hs) rfl one37 ?_))
  refine ret37 Try.results19 (W.heap.size + 1) z37 1 rfl (setRow_heap _ _ _ _ _ _ ((HB3.out.block _ HRL.out).trans HR2.out)) hs rfl rfl ?_
  exact ⟨rfl, below_setRow (st.chain HB2.out HB3.out) (Nat.le_succ _) _⟩
set_option maxHeartbeats 4000000 in
set_option maxRecDepth 100000 in
theorem build_yes (x : Nfa) (n e : Nat) (R1 : Rt x n) (hr : nf.right x = true) (hfit : ∀ e ∈ x.edges, nf.Fits e) (hxe : x.e = (e : Int)) (eo : Option Addr) (ec : Nat) (W : World) (hE : Eds W eo ec x.edges) : YesIs x n eo ec W := by
  have hz := zero37
  have hs := z37_size
  have hb := built37
  obtain ⟨w2, HW2⟩ : ∃ w2, Hid (w2 = (W.alloc (.cells #[.int .i64 x.n, .int .i64 x.s, .int .i64 x.e, .slice eo x.edges.length ec] 31)).alloc (.cells z37 51)) := ⟨_, rfl⟩
  have HB2 := (show Hid (Below W.heap.size W w2) from by show Below _ _ _; rw [HW2.out]; exact ((Below.refl _ _).alloc (Nat.le_refl _) _).alloc (by simp) _)
  have HR2 := (show Hid (w2.heap[W.heap.size + 1]? = some (.cells z37 51 (0, 0))) from by show _ = _; rw [HW2.out]; exact heap_alloc2_new W _ _)
  have HX2 := (show Hid (nf.Box w2 W.heap.size x.n x.s x.e eo x.edges.length ec) from by show nf.Box _ _ _ _ _ _ _ _; rw [HW2.out]; exact heap_alloc2_old W _ _)
  have h11 := nf.right_any x true hr.symm eo ec w2 (hE.later HB2.out)
  have HRL := (show Hid (W.heap.size + 1 < w2.heap.size) from (Array.getElem?_eq_some_iff.1 HR2.out).1)
  have HNB := (show Hid (∀ w3, Below w2.heap.size w2 w3 → Calls Try.prog 38 #[nfaV x.n x.s x.e eo x.edges.length ec] w3 fun ev W' => ∃ b mb h ob fb lo lc X D, ev = .returned (.pointer (some ⟨b, 0, none⟩)) ∧ Made w3 x n e eo ec W' b mb h ob fb lo lc X D (lsOf x) (xsOf x)) from fun w3 b3 => newb_any x n e R1 hfit hxe eo ec w3 (hE.later (st.chain HB2.out b3)))
  have HBG := (show Hid (∀ w3 W' b mb h ob fb lo lc X D, Below w2.heap.size w2 w3 → Made w3 x n e eo ec W' b mb h ob fb lo lc X D (lsOf x) (xsOf x) → BegIs X X W' x n e w3.heap.size b mb h []) from fun w3 W' b mb h ob fb lo lc X D b3 k => begin_any R1 hr k.bs (by rw [k.eo, k.ec]; exact hE.later (st.chain (st.chain HB2.out b3) k.be)) k.hn k.hs k.he k.em)
  have HR1 := (show Hid (Rt x n) from R1)
  have HFIT := (show Hid (∀ e ∈ x.edges, nf.Fits e) from hfit)
  have HXE := (show Hid (x.e = (e : Int)) from hxe)
  unfold YesIs
  clear hr hE R1 hfit hxe
  go_enter Try.func19, Try.ntmps19
  go_wp2_with (first | (go_at_call 30; rw [← HW2.out]; refine h11.mono ?_; rintro ev w3 ⟨rfl, b3⟩; have HB3 := (show Hid _ from b3); have hnb := HNB.out w3 b3; have q0 := (HX2.out.later b3).c0; have q1 := (HX2.out.later b3).c1; have q2 := (HX2.out.later b3).c2; have q3 := (HX2.out.later b3).c3; clear b3) | (go_at_call 38; refine hnb.mono ?_; rintro ev w4 ⟨b, mb, h, ob, fb, lo, lc, X, D, rfl, hmd⟩; have HMD := (show Hid _ from hmd); have hbg := HBG.out w3 w4 b mb h ob fb lo lc X D HB3.out hmd; unfold BegIs at hbg; clear hmd) | (go_at_call 39; refine hbg.mono ?_; rintro ev w5 ⟨σ, X1, Y1, vs, vn, va, ss, m, D1, ⟨v, rfl⟩, hh5⟩; have HH5 := (show Hid _ from hh5); clear hh5))
  have HST := (show Hid (Lp w3 x n e (lsOf x) b mb h ob fb lo lc 0 w5 X1 Y1 [σ] [] [] vs vn va ss m D1) from by
    obtain ⟨a1, a2, a3, a4, a5⟩ := HH5.out
    have M := HMD.out
    exact ⟨a4, M.nt.carry (fun g hg => a5.kp.2 g hg) a3, a1, by simp, by simp, rfl, rws_nil _ _, fun k σ r _ h => by simp at h, M.be.trans a5.be⟩)
  have HCL := (show Hid (h.cl = (xsOf x).map fun y : Nat => Value.int .u8 (y : Int)) from HMD.out.cl)
  have HRB := (show Hid (∀ w, Below w3.heap.size w3 w → w.heap[W.heap.size + 1]? = some (.cells z37 51 (0, 0))) from fun w hw => by rw [hw.block _ (by have := HB3.out.size; have := HRL.out; omega), HB3.out.block _ HRL.out]; exact HR2.out)
  have HRS := (show Hid (W.heap.size + 1 < w3.heap.size) from by have := HB3.out.size; have := HRL.out; show _ < _; omega)
  have HBW := (show Hid (Below W.heap.size W w3) from st.chain HB2.out HB3.out)
  have HLS := (show Hid ((lsOf x).length ≤ 256) from ls_most x)
  clear HH5 HMD hnb hbg HNB HBG q0 q1 q2 q3 h11 HX2 HR2 HRL HB3 HB2 HW2
  go_loopw [5] (fun z wr => ∃ (j : Nat) (X Y : Nat → Prop) (L : List (List Bool)) (nn : List Value) (rs : List (List Int)) (vs vn va : Value) (ss : List Value) (m : Nat) (D : DataW Unit), z = .int .i64 j ∧ Hid (Lp w3 x n e (lsOf x) b mb h ob fb lo lc j wr X Y L nn rs vs vn va ss m D)) (fun z _ => 401 - (intOf z).toNat)
  case atStart => exact ⟨0, _, _, _, _, _, _, _, _, _, _, _, rfl, HST⟩
  case round =>
    obtain ⟨j, X2, Y2, L, nn, rs, vs2, vn2, va2, ss2, m2, D2, rfl, HI⟩ := hrel
    clear HST
    obtain ⟨so, sc, rfl, f1, f2⟩ := ow.form HI.out.bs.bu.os
    have c7 := HI.out.bs.bu.box.c7
    have hsl : ss2.length = L.length := by have := HI.out.bs.rs.len; simpa using this
    have hjl := HI.out.jl
    have hln := HI.out.ln
    have HSL := (show Hid (ss2.length = L.length) from hsl)
    by_cases hend : j < ss2.length
    · have hjL : j < L.length := by omega
      obtain ⟨sb, scap, e1, e2, e3⟩ := ow.cell HI.out.bs.bu.os j hend
      simp only [Value.slice.injEq, true_and] at e1
      obtain ⟨rfl, rfl⟩ := e1
      have h43 : RowIs X2 Y2 wr x n e (lsOf x) w3.heap.size b mb h nn L L[j] ss2[j] := row_any HR1.out HFIT.out (edg_at x n) (tgt_at x n) (ls_most x) (ls_byte x) HI.out.bs HI.out.nt HI.out.nm HI.out.ln (List.getElem?_eq_getElem hjL) (HI.out.bs.rs.at' j _ _ (List.getElem?_eq_getElem hend) (by rw [List.getElem?_map, List.getElem?_eq_getElem hjL]; rfl))
      have HLJ := (show Hid (L[j]? = some L[j]) from List.getElem?_eq_getElem hjL)
      generalize ss2[j] = u at *
      generalize L[j] = σ2 at *
      have HJL := (show Hid (j < L.length) from hjL)
      unfold RowIs at h43
      have j4 : j < 400 := by omega
      clear hsl hjL e2 hjl hln
      have HNX := (show Hid (∀ (w5 : World) (g : Nat) (r : List Int) (L' : List (List Bool)) (X' Y' : Nat → Prop) (vs1 vn1 va1 : Value) (ss1 : List Value) (m1 : Nat) (D1 : DataW Unit), (wr.heap.size ≤ g ∧ IRow w5 g r ∧ RowOf x n (lsOf x) L' σ2 r ∧ L <+: L' ∧ L'.length ≤ L.length + (lsOf x).length ∧ Nums x n L' ∧ (∀ k, X2 k → X' k) ∧ (∀ k, Y2 k → Y' k) ∧ X' g ∧ ¬ Y' g ∧ Bst X' Y' w5 w3.heap.size b mb h n e L' nn vs1 vn1 va1 ss1 m1 D1 ∧ Mv X2 w3.heap.size wr w5) → L'.length ≤ 400 →
        ∀ (g' cap' : Nat) (w7 : World), w7.ownsRow w3.heap.size 39 1 (.slice (some ⟨g', 0, none⟩) (nn.length + 1) cap') (nn.length + 1) (nn ++ [.slice (some ⟨g, 0, none⟩) (lsOf x).length (lsOf x).length]) → (w5.alloc (.cells #[.slice (some ⟨g, 0, none⟩) (lsOf x).length (lsOf x).length] 39)).grownBy w7 vn1.ownBlock → (some g' = vn1.ownBlock ∨ (w5.alloc (.cells #[.slice (some ⟨g, 0, none⟩) (lsOf x).length (lsOf x).length] 39)).heap.size ≤ g') →
          BBox w7 b h vs1 (.map (some mb)) vn1 va1 ∧ Lp w3 x n e (lsOf x) b mb h ob fb lo lc (j + 1) (w7.setCell ⟨b, 265, none⟩ (.slice (some ⟨g', 0, none⟩) (nn.length + 1) cap')) X' Y' L' (nn ++ [.slice (some ⟨g, 0, none⟩) (lsOf x).length (lsOf x).length]) (rs ++ [r]) vs1 (.slice (some ⟨g', 0, none⟩) (nn.length + 1) cap') va1 ss1 m1 D1) from by
        intro w5 g r L' X' Y' vs1 vn1 va1 ss1 m1 D1 hh hL4 g' cap' w7
        obtain ⟨a1, a2, a3, a4, a5, a6, a7, a8, a9, _, a11, a12⟩ := hh
        have hrl := a3.len
        rw [← hrl]
        intro ho hg hw
        have hB := HI.out.bs.bu.size
        exact HI.out.next a2 (fun σ hσ => by rw [HLJ.out] at hσ; cases hσ; exact a3) HJL.out a4 hL4 a6 a7 a8 a9 (by omega) (by have := HLS.out; omega) a11 a12 (nf.below_alloc _ _) ho hg hw)
      have HNN := (show Hid (nn.length ≤ 1000000) from by have := HI.out.rw.len; have := HI.out.rj; show _ ≤ _; omega)
      have HBI := (show Hid (Below w3.heap.size w3 wr) from HI.out.be)
      generalize (lsOf x).length = kk at *
      go_wp2_with (first | (go_at_call 40; refine h43.mono ?_; rintro ev w5 ⟨g, r, L', X', Y', vs1, vn1, va1, ss1, m1, D1, rfl, hh5⟩; obtain ⟨so1, sc1, rfl, f3, f4⟩ := ow.form hh5.2.2.2.2.2.2.2.2.2.2.1.bu.os; have HH5 := (show Hid _ from hh5); have d7 := hh5.2.2.2.2.2.2.2.2.2.2.1.bu.box.c7; have d265 := hh5.2.2.2.2.2.2.2.2.2.2.1.bu.box.c265; have HL5 := (show Hid (ss1.length = L'.length) from by have := hh5.2.2.2.2.2.2.2.2.2.2.1.rs.len; show _ = _; simpa using this); have HB5 := (show Hid (Below w3.heap.size w3 w5) from HBI.out.trans hh5.2.2.2.2.2.2.2.2.2.2.2.be); clear hh5) | (refine wpList_store_row (by rfl) 51 (.tmp 2) (.tmp 39) (by rfl) (W.heap.size + 1) z37 (by rfl) (by rfl) 51 z37 (by exact HRB.out _ HB5.out) (df.info51 _ hs) rfl one37 ?_) | (at_builtin; refine ow.wpList_append (by rfl) (.tmp 45) (.tmp 47) 49 (by rfl) 39 (.slice none 0 0) 1 24 Try.underlying49 info39 (by rfl) (by decide) (by decide) w3.heap.size vn1 nn.length nn w5.heap.size [.slice (some ⟨g, 0, none⟩) kk kk] (by rfl) (by rfl) (by exact ow.later HH5.out.2.2.2.2.2.2.2.2.2.2.1.bu.on (nf.below_alloc _ _)) (by rfl) (by exact ow.new1 w5 _ 39) (by exact ow.one1 _ rfl) (by exact HNN.out) (by rw [World.size_alloc]; have := HB5.out.size; omega) ?_; intro g' cap' w7 ho hg hw; have HO7 := (show Hid _ from ho); have HG7 := (show Hid _ from hg); have HW7 := (show Hid _ from hw); clear ho hg hw; have HL4 := (show Hid (L'.length ≤ 400) from by have := HL5.out; show _ ≤ _; omega); have z265 := (HNX.out _ _ _ _ _ _ _ _ _ _ _ _ HH5.out HL4.out _ _ _ HO7.out HG7.out HW7.out).1.c265; have y265 := (HNX.out _ _ _ _ _ _ _ _ _ _ _ _ HH5.out HL4.out _ _ _ HO7.out HG7.out HW7.out).1.fz 265; have HN7 := (show Hid _ from (HNX.out _ _ _ _ _ _ _ _ _ _ _ _ HH5.out HL4.out _ _ _ HO7.out HG7.out HW7.out).2)))
      · have h4 : 400 < L'.length := by have := HL5.out; omega
        refine ret37 Try.results19 (W.heap.size + 1) z37 80 rfl (setRow_heap _ _ _ _ _ _ (HRB.out _ HB5.out)) hs rfl rfl ?_
        exact ⟨below_setRow (st.chain HBW.out HB5.out) (Nat.le_succ _) _, .inl ⟨rfl, L', HH5.out.2.2.2.2.2.1, h4⟩⟩
      · exact ⟨⟨j + 1, _, _, _, _, _, _, _, _, _, _, _, by go_num, HN7⟩, by simp [intOf]; omega⟩
    · have hje : j = L.length := by omega
      obtain ⟨z1, z2, o, cap, ao, acap, hD⟩ := HI.out.cells HCL.out (w' := wr.setRow (W.heap.size + 1) (h.cl ++ [vn2, va2]).toArray) (fun g hg hB => setRow_other _ _ _ _ (by have := HRS.out; omega)) (by simp)
      have HBU := (show Hid (Built x n (lsOf x) L (dOf x rs L e)) from HI.out.built hje HXE.out)
      have hone : (h.cl ++ [vn2, va2]).toArray.all (·.oneCell') = true := by
        obtain ⟨_, _, en, _⟩ := ow.form HI.out.bs.bu.on
        obtain ⟨_, _, ea, _⟩ := ow.form HI.out.bs.bu.oa
        refine all_oneCell_toArray fun v hv => ?_
        rcases List.mem_append.1 hv with hv | hv
        · rw [HCL.out] at hv
          obtain ⟨y, _, rfl⟩ := List.mem_map.1 hv
          rfl
        · simp only [List.mem_cons, List.not_mem_nil, or_false] at hv
          rcases hv with rfl | rfl
          · rw [en]; rfl
          · rw [ea]; rfl
      have HD := (show Hid (DAt (In (wr.setRow (W.heap.size + 1) (h.cl ++ [vn2, va2]).toArray)) (wr.setRow (W.heap.size + 1) (h.cl ++ [vn2, va2]).toArray) (dOf x rs L e) (h.cl ++ [vn2, va2]).toArray o cap ao acap) from hD)
      have HZ := (show Hid ((h.cl ++ [vn2, va2]).length = 258) from z1)
      have HLN := (show Hid (L.length ≤ 400) from hln)
      have hb0 := HRB.out _ HI.out.be
      have HBI := (show Hid (Below w3.heap.size w3 wr) from HI.out.be)
      clear hD z1 hsl hje hln hjl HI
      generalize h.cl ++ [vn2, va2] = cs at *
      go_wp2_with (first | (refine wpList_load_mid (by rfl) 51 (.tmp 54) (by rfl) b 9 (by rfl) cs _ z2 Try.underlying51 (by rfl) (by rw [HZ.out]; kernel_rfl) ?_) | (refine wpList_store_row (by rfl) 51 (.tmp 2) (.tmp 55) (by rfl) (W.heap.size + 1) cs.toArray (by rfl) (by rfl) 51 z37 hb0 (df.info51 _ (by simpa using HZ.out)) (by rw [hs]; simpa using HZ.out.symm) hone ?_))
      refine ret37 Try.results19 (W.heap.size + 1) cs.toArray 0 rfl (setRow_heap _ _ _ _ _ _ hb0) (by simpa using HZ.out) rfl rfl ?_
      exact ⟨below_setRow (st.chain HBW.out HBI.out) (Nat.le_succ _) _, .inr ⟨L, _, _, _, _, _, _, rfl, HBU.out, HLN.out, HD.out⟩⟩
end Go.Proofs.Ytfilndgbgdnpiaa.bd
