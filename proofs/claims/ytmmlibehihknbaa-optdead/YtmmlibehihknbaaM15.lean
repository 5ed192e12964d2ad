/-
  Texts put together: A range over a function that keeps state of its own in cells: the law asks of the function this one invariant alone. Over this program: the iterator that hands on pieces (piece.pieces' closure), for a body that gathers a row.
-/
import Derived.Test.YtmmlibehihknbaaKPPd
import Derived.RangeFuncNested
import Derived.RangeFuncBound
import Derived.RangeFuncCalls
import Derived.RangeFuncLeaves
import Derived.RangeFuncBox
import Derived.Shelf.Abstract
import Derived.Shelf.RegionOpen
import Derived.OwnWalkIn
import Derived.TacticsInMore
import Derived.LoopNIn
import Derived.LoopIn
import Derived.Sort.QuietIn
namespace Go.Proofs.Ytmmlibehihknbaa.pc
open Go.RowKit Go.Shelf
set_option linter.unusedVariables false

/-- what lies in no cells stays -/
def Fix (A C : World) : Prop := ∀ (k : Nat) (o : Obj), A.heap[k]? = some o → o.isCells = false → C.heap[k]? = some o
theorem range_own {F : Fence} {n : Nat} {P : Program} {α : Type} {g : Operand} {ps : Array Tmp} {assign body : Code} {Q : Exit → Act → World → Prop} {a : Act} {w : World}
    (hro : F.round = none) (h1 : 1 ≤ n) {gf : Nat} {lb : Array Value} (hg : a.eval g = .func (.func gf) #[] lb) (hFg : F.fn gf) (eg : ∀ args w, (callFunc gf args).run P w = .ok (.enter gf args) w)
    (encs : α → Array Value) (hps : ∀ x, (encs x).size = ps.size) (I : List α → World → Prop) (Kp : World → World → Prop) (S : List α → Prop) (N : Nat)
    (hI : ∀ s (W : World) (l : Nat) (o o' : Obj), I s W → w.heap.size ≤ l → W.heap[l]? = some o → o.isCells = false → I s (W.putObj l o'))
    (hKb : ∀ (W : World) (l : Nat) (o o' : Obj), w.heap.size ≤ l → W.heap[l]? = some o → o.isCells = false → Kp W (W.putObj l o')) (hKt : ∀ A B C : World, Kp A B → Kp B C → Kp A C)
    (h0 : ∀ o1 o2 : Obj, I [] ((w.alloc o1).alloc o2)) (a₁ : α → Act)
    (hassign : ∀ (l : Nat) (x : α) (W : World) (K : Act → World → Prop), K (a₁ x) W →
      assign.wpIn (F.inRound l) (n - 1 - 1) P (Exit.then K (fun _ _ _ => False)) { tmps := (ps.zip (encs x)).foldl (fun t (p, v) => t.setIfInBounds p v) a.tmps, defers := [] } W)
    (hbody : ∀ (l : Nat) (pre : List α) (x : α) (W : World), I pre W → pre.length < N → body.wpIn (F.inRound l) (n - 1 - 1) P (ownPostG w.heap.size Kp I (fun _ _ _ => False) (pre ++ [x]) W) (a₁ x) W)
    (hseq : ∀ (l : Nat) (Bk : World → Prop) (W : World), (∀ A C : World, Bk A → Fix A C → Bk C) →
      (∀ pre x W1, I pre W1 → Bk W1 → pre.length < N → YieldAt F (n - 1 - 1) P l (encs x) W1 fun e W' => e = .returned (.bool true) ∧ I (pre ++ [x]) W' ∧ Bk W' ∧ Kp W1 W') →
      Below w.heap.size w W → I [] W → Bk W → CallsIn F (n - 1) P gf (#[.func (.yield l) #[] #[]] ++ lb) W fun e W' => (∃ v, e = .returned v) ∧ ∃ xs, S xs ∧ I xs W' ∧ Bk W')
    (hdone : ∀ (D : Nat) (xs : List α) (W : World), w.heap.size ≤ D → S xs → I xs W → W.heap[D]? = some (.deferred (some [])) → Q .normal { a with defers := { target := .collected D, args := #[] } :: a.defers } W) :
    (Code.rangeFunc g ps assign body).wpIn F n P Q a w := by
  refine wpIn_rangeFunc fun fn hfn => ?_
  rw [hro]
  obtain ⟨rc, hrc⟩ : ∃ rc : LoopState → Loop, rc = fun st => { state := st, pending := none, fn, tmps := a.tmps, params := ps, assign, body, defers := w.heap.size } := ⟨_, rfl⟩
  have hl1 : ((w.alloc (.deferred (some []))).alloc (.loop (rc .ready))).heap[w.heap.size + 1]? = some (.loop (rc .ready)) := by
    have := World.alloc_heap_new (w.alloc (.deferred (some []))) (.loop (rc .ready))
    rwa [World.size_alloc] at this
  have hd1 : ((w.alloc (.deferred (some []))).alloc (.loop (rc .ready))).heap[w.heap.size]? = some (.deferred (some [])) :=
    (Below.heap_alloc _ _ _ (by simp)).trans (World.alloc_heap_new w _)
  have hi1 := h0 (.deferred (some [])) (.loop (rc .ready))
  have hb1 : Below w.heap.size w ((w.alloc (.deferred (some []))).alloc (.loop (rc .ready))) := ((Below.refl _ w).alloc (Nat.le_refl _) _).alloc (by simp) _
  obtain ⟨W1, hW1⟩ : ∃ W1, (w.alloc (.deferred (some []))).alloc (.loop (rc .ready)) = W1 := ⟨_, rfl⟩
  rw [hW1] at hl1 hd1 hi1 hb1
  refine ⟨w.heap.size + 1, [{ target := .collected w.heap.size, args := #[] }], W1, { target := .fn (.func gf) lb, args := #[.func (.yield (w.heap.size + 1)) #[] #[]] }, W1, gf,
    #[.func (.yield (w.heap.size + 1)) #[] #[]] ++ lb, W1, ?_, ?_, ?_, ?_, fun _ => h1, ?_⟩
  · rw [← hW1, hrc]; exact run_enterLoop_outer _ _ _ _ _
  · simp only [resolve, hg]
    simp [go_sem]
  · intro f' hf'
    simp [Target.leads] at hf'
    subst hf'
    exact hFg
  · simp [invoke, go_sem, eg]
  · refine (hseq (w.heap.size + 1) (fun W => W.heap[w.heap.size + 1]? = some (.loop (rc .ready)) ∧ W.heap[w.heap.size]? = some (.deferred (some []))) W1 (fun A C hA hf => ⟨hf _ _ hA.1 rfl, hf _ _ hA.2 rfl⟩) ?_ hb1 hi1 ⟨hl1, hd1⟩).mono ?_
    · rintro pre x W hi ⟨hl, hd⟩ hN
      have hlt : w.heap.size + 1 < W.heap.size := (Array.getElem?_eq_some_iff.1 hl).1
      have hy := run_yield (P := P) (args := encs x) hl (by rw [hrc]; exact hps x)
      rw [hrc] at hy
      refine ⟨fn, _, assign, body, hy, roundIn_of_wpIn hfn (hassign _ x W _ ?_)⟩
      clear hy
      refine ⟨_, run_beginRound hl (by rw [hrc]), ?_⟩
      have e1 : ({ rc .ready with state := .busy } : Loop) = rc .busy := by rw [hrc]
      rw [e1]
      have hl2 : (W.putObj (w.heap.size + 1) (.loop (rc .busy))).heap[w.heap.size + 1]? = some (.loop (rc .busy)) := World.putObj_heap_same hlt
      have hd2 : (W.putObj (w.heap.size + 1) (.loop (rc .busy))).heap[w.heap.size]? = some (.deferred (some [])) := (World.putObj_heap_other (by omega)).trans hd
      have hk2 := hKb W (w.heap.size + 1) (.loop (rc .ready)) (.loop (rc .busy)) (by omega) hl rfl
      refine wpIn_mono (hbody _ pre x _ (hI pre W _ _ _ hi (by omega) hl rfl) hN) ?_
      rintro e a3 W3 hp
      cases e with
      | normal =>
        obtain ⟨hk3, hkp3, hi3⟩ := hp
        have hl3 := hk3.same _ _ (by omega) hl2 rfl
        have hd3 := hk3.same _ _ (Nat.le_refl _) hd2 rfl
        have hr := run_endRound (P := P) none hl3
        have e2 : ({ rc .busy with state := if (none : Option Code).isNone = true then .ready else .done, pending := none } : Loop) = rc .ready := by rw [hrc]; rfl
        rw [e2] at hr
        have hlt3 := (Array.getElem?_eq_some_iff.1 hl3).1
        exact ⟨_, _, hr, rfl, hI _ W3 _ _ _ hi3 (by omega) hl3 rfl, ⟨World.putObj_heap_same hlt3, (World.putObj_heap_other (by omega)).trans hd3⟩, hKt _ _ _ hk2 (hKt _ _ _ hkp3 (hKb W3 _ _ _ (by omega) hl3 rfl))⟩
      | ret => exact hp.2.elim
      | exit id => exact hp.2.elim
      | goto t => exact hp.2.elim
      | panic ch => exact hp.elim
      | outgrown => exact hp.elim
    · rintro e W2 ⟨⟨v, rfl⟩, xs, hS, hi, hl, hd⟩
      have hr := run_endLoop (P := P) hl (by rw [hrc]; simp)
      exact ⟨none, _, by rw [hr, hrc], hdone _ xs _ (Nat.le_refl _) hS (hI _ W2 _ _ _ hi (by omega) hl rfl) ((World.putObj_heap_other (by omega)).trans hd)⟩
end Go.Proofs.Ytmmlibehihknbaa.pc

namespace Go.Proofs.Ytmmlibehihknbaa.pc
open Go.RowKit Go.Shelf
open df (Dfa ends nxt acpt byteAt here Ok right width endsOf DAt DBox Row RowRow iv bv In Owns IntsV)
set_option linter.unusedVariables false
attribute [local go_sem] Oper.semAt_some

def ownAt (B0 : Nat) (W : World) : Option Nat := (W.cell? ⟨B0, 0, none⟩).bind Value.ownBlock
/-- what a round keeps -/
structure Kq (n1 B0 : Nat) (W W' : World) : Prop where
  size : W.heap.size ≤ W'.heap.size
  keep : ∀ b, b < W.heap.size → (b < n1 ∨ ∃ cs t fr, W.heap[b]? = some (.cells cs t fr)) → b ≠ B0 → some b ≠ ownAt B0 W → W'.heap[b]? = W.heap[b]?
  own : ∀ g, ownAt B0 W' = some g → ownAt B0 W = some g ∨ W.heap.size ≤ g
theorem Kq.trans {n1 B0 : Nat} (A B C : World) (h : Kq n1 B0 A B) (k : Kq n1 B0 B C) : Kq n1 B0 A C :=
  ⟨Nat.le_trans h.size k.size, fun b h1 h2 h3 h4 => by
    have e := h.keep b h1 h2 h3 h4
    rw [← e]
    refine k.keep b (Nat.lt_of_lt_of_le h1 h.size) (h2.imp id (fun ⟨cs, t, fr, q⟩ => ⟨cs, t, fr, e.trans q⟩)) h3 (fun e2 => ?_)
    rcases h.own b e2.symm with e3 | e3
    · exact h4 e3.symm
    · omega, fun g e => by
    rcases k.own g e with e1 | e1
    · exact h.own g e1
    · exact .inr (Nat.le_trans h.size e1)⟩
theorem ownAt_of {B0 : Nat} {W W' : World} (e : W'.heap[B0]? = W.heap[B0]?) : ownAt B0 W' = ownAt B0 W := by unfold ownAt; rw [World.cell?_of_block (w := W) (a := ⟨B0, 0, none⟩) e]
theorem Kq.book {n1 B0 : Nat} (hB : B0 < n1) (W : World) (l : Nat) (o o' : Obj) (hl : n1 ≤ l) (h : W.heap[l]? = some o) (ho : o.isCells = false) : Kq n1 B0 W (W.putObj l o') := by
  have hh : ∀ b, b ≠ l → (W.putObj l o').heap[b]? = W.heap[b]? := fun b hb => World.putObj_heap_other hb
  refine ⟨by simp, fun b h1 h2 h3 h4 => hh b (fun e => ?_), fun g e => ?_⟩
  · subst e
    rcases h2 with h2 | ⟨cs, t, fr, h2⟩
    · omega
    · rw [h] at h2; cases h2; cases ho
  · rw [ownAt_of (hh B0 (by omega))] at e
    exact .inl e
section
variable {α : Type} {n1 B0 t e : Nat} {w0 W W' : World} {enc : α → Value} {pre : List α}
/-- the row that the body gathers, in its box -/
structure Ib (n1 B0 t e : Nat) (n0 : Nat) (w0 : World) (enc : α → Value) (pre : List α) (W : World) : Prop where
  row : ∃ v, Boxed W B0 t v ∧ W.ownsRow n1 e 1 v pre.length (pre.map enc)
  be : Below n0 w0 W
  sz : n1 ≤ W.heap.size
theorem boxed_own_at {v : Value} (h : Boxed W B0 t v) : ownAt B0 W = v.ownBlock := by unfold ownAt; rw [h.cell]; rfl
theorem Ib.own {n0 : Nat} (h : Ib n1 B0 t e n0 w0 enc pre W) {k : Nat} (hk : ownAt B0 W = some k) : n1 ≤ k ∧ k < W.heap.size := by
  obtain ⟨v, hb, hr⟩ := h.row
  rw [boxed_own_at hb] at hk
  exact ow.lt hr hk
theorem Ib.keep {n0 : Nat} (h : Ib n1 B0 t e n0 w0 enc pre W) (h1 : W'.heap[B0]? = W.heap[B0]?) (h2 : ∀ k, ownAt B0 W = some k → W'.heap[k]? = W.heap[k]?) (hb : Below n0 w0 W') (hs : W.heap.size ≤ W'.heap.size) : Ib n1 B0 t e n0 w0 enc pre W' := by
  obtain ⟨v, hv, hr⟩ := h.row
  refine ⟨⟨v, h1.trans hv, ow.keep hr fun k hk => h2 k (by rw [boxed_own_at hv]; exact hk)⟩, hb, Nat.le_trans h.sz hs⟩
theorem Ib.book {n0 : Nat} (h : Ib n1 B0 t e n0 w0 enc pre W) (hB : B0 < n1) (hn : n0 ≤ n1) {l : Nat} {o : Obj} (o' : Obj) (hl : n1 ≤ l) (hh : W.heap[l]? = some o) (ho : o.isCells = false) : Ib n1 B0 t e n0 w0 enc pre (W.putObj l o') := by
  refine h.keep (World.putObj_heap_other (by omega)) (fun k hk => World.putObj_heap_other (fun e2 => ?_)) (h.be.trans ((Below.refl n0 W).grown (grownBy_putObj' W l o') (by have := (Array.getElem?_eq_some_iff.1 hh).1; omega) (fun k e => by cases e; omega))) (by simp)
  obtain ⟨v, hv, hr⟩ := h.row
  rw [boxed_own_at hv] at hk
  subst e2
  exact ow.kind hr hh ho hk.symm
theorem Ib.app {n0 : Nat} {w2 w1 : World} {v : Value} (h : Ib n1 B0 t e n0 w0 enc pre W) (hte : t ≠ e) (hv : Boxed W B0 t v) (hr : W.ownsRow n1 e 1 v pre.length (pre.map enc)) (hB : B0 < n1) (hn : n0 ≤ B0) (hs : n1 ≤ W.heap.size) (c : Below W.heap.size W w2) (x : α) {g' cap' : Nat} (ho : w1.ownsRow n1 e 1 (.slice (some ⟨g', 0, none⟩) (pre.length + 1) cap') (pre.length + 1) (pre.map enc ++ [enc x])) (hg : w2.grownBy w1 v.ownBlock) (hw : some g' = v.ownBlock ∨ w2.heap.size ≤ g') :
    Boxed w1 B0 t v ∧ KeepsFrom n1 W (w1.setCell ⟨B0, 0, none⟩ (.slice (some ⟨g', 0, none⟩) (pre.length + 1) cap')) ∧ Kq n1 B0 W (w1.setCell ⟨B0, 0, none⟩ (.slice (some ⟨g', 0, none⟩) (pre.length + 1) cap')) ∧ Ib n1 B0 t e n0 w0 enc (pre ++ [x]) (w1.setCell ⟨B0, 0, none⟩ (.slice (some ⟨g', 0, none⟩) (pre.length + 1) cap')) := by
  have hlt := hv.lt
  have nb : some B0 ≠ v.ownBlock := ow.type hr hv hte
  have v1 : Boxed w1 B0 t v := (hg.block B0 (Nat.lt_of_lt_of_le hlt c.size) nb).trans ((c.block B0 hlt).trans hv)
  have hh : ∀ j, j ≠ B0 → (w1.setCell ⟨B0, 0, none⟩ (.slice (some ⟨g', 0, none⟩) (pre.length + 1) cap')).heap[j]? = w1.heap[j]? := fun j hj => Below.heap_setCell _ _ _ j hj
  have hk : ∀ j, j < W.heap.size → j ≠ B0 → some j ≠ v.ownBlock → (w1.setCell ⟨B0, 0, none⟩ (.slice (some ⟨g', 0, none⟩) (pre.length + 1) cap')).heap[j]? = W.heap[j]? := fun j h1 h2 h3 => by
    rw [hh j h2, hg.block j (Nat.lt_of_lt_of_le h1 c.size) h3, c.block j h1]
  have hsz : W.heap.size ≤ (w1.setCell ⟨B0, 0, none⟩ (.slice (some ⟨g', 0, none⟩) (pre.length + 1) cap')).heap.size := by
    have := c.size; have := hg.size; simp; omega
  have v2 := v1.set (.slice (some ⟨g', 0, none⟩) (pre.length + 1) cap')
  have nb2 : some B0 ≠ (Value.slice (some ⟨g', 0, none⟩) (pre.length + 1) cap').ownBlock := ow.type ho v1 hte
  refine ⟨v1, ⟨hsz, fun k o hkn ho' hc => ?_⟩, ⟨hsz, fun b h1 h2 h3 h4 => ?_, fun k e2 => ?_⟩, ⟨⟨_, v2, ?_⟩, ?_, Nat.le_trans h.sz hsz⟩⟩
  · have hkl := (Array.getElem?_eq_some_iff.1 ho').1
    rw [hk k hkl (by omega) (ow.kind hr ho' hc)]
    exact ho'
  · rw [boxed_own_at hv] at h4
    exact hk b h1 h3 h4
  · rw [boxed_own_at v2] at e2
    rw [boxed_own_at hv]
    have e3 : g' = k := by simpa [Value.ownBlock] using e2
    subst e3
    rcases hw with e4 | e4
    · exact .inl e4.symm
    · exact .inr (Nat.le_trans c.size e4)
  · rw [List.length_append, List.map_append]
    exact ow.keep ho fun k hk2 => hh k (fun e2 => nb2 (by rw [← e2]; exact hk2.symm))
  · have b2 : Below n0 w0 w2 := h.be.trans (c.mono (by omega))
    exact (b2.grown hg (by have := c.size; omega) (fun k e2 => by have := (ow.lt hr e2).1; omega)).setCell (p := ⟨B0, 0, none⟩) hn _
end
/-- a place at which a piece begins, and where it ends -/
abbrev Pr (s : ByteArray) := { p : Nat × Nat // p.1 ≤ p.2 ∧ p.2 ≤ s.size }
def encs2 {s : ByteArray} (x : Pr s) : Array Value := #[.int .i64 (x.1.1 : Int), .int .i64 (x.1.2 : Int)]
/-- between two pieces -/
structure It {s : ByteArray} (X : Nat → Prop) (n1 B0 ty e n0 : Nat) (w0 : World) (enc : Pr s → Value) (Bk : World → Prop) (B g vg gs : Nat) (d : Dfa) (cs : Array Value) (o : Option Addr) (cap : Nat) (ao : Option Addr) (acap : Nat) (t : Nat) (ws : List Nat) (vs : Value) (si : List Int) (pre : List (Pr s)) (wr : World) : Prop where
  wk : Wk X wr B g vg d s cs o cap ao acap ws vs si
  sd : Sound d s ws
  ln : ws.length = (s.size + 1) * d.next.length / 64 + 1
  iv : Ib n1 B0 ty e n0 w0 enc pre wr
  bk : Bk wr
  sx : Boxed wr gs 9 (.string s)
  al : pre.map (·.1) ++ all d s t = all d s 0
  d1 : some g ≠ ownAt B0 wr
  d2 : some vg ≠ ownAt B0 wr
  d3 : ∀ k, vs.ownBlock = some k → some k ≠ ownAt B0 wr
section
variable {s : ByteArray} {X : Nat → Prop} {n1 B0 ty e n0 : Nat} {w0 : World} {enc : Pr s → Value} {Bk : World → Prop} {B g vg gs : Nat} {d : Dfa} {cs : Array Value} {o : Option Addr} {cap : Nat} {ao : Option Addr} {acap : Nat} {t : Nat} {ws ws' : List Nat} {vs vs' : Value} {si si' : List Int} {pre : List (Pr s)} {wr w' : World}
theorem cells_of {w : World} {v : Value} {l : List Int} {B k : Nat} (h : Owns w B v l) (e : v.ownBlock = some k) : ∃ cs, w.heap[k]? = some (.cells cs 3 (0, 0)) := by
  rcases h.2 with ⟨rfl, _⟩ | ⟨gg, cap, cur, rfl, hb, hgg, _⟩
  · cases e
  · cases e; exact ⟨cur, hgg⟩
/-- the walk has gone on -/
theorem It.walk (h : It X n1 B0 ty e n0 w0 enc Bk B g vg gs d cs o cap ao acap t ws vs si pre wr) (hBk : ∀ A C : World, Bk A → Fix A C → Bk C) (hB : B0 < n1) (hn : n1 ≤ B) (h0 : n0 ≤ B0) (hgs : X gs) (k : Wk X w' B g vg d s cs o cap ao acap ws' vs' si') (hsd : Sound d s ws') (hl : ws'.length = ws.length) (c : Ch X B g vg vs vs' wr w') : It X n1 B0 ty e n0 w0 enc Bk B g vg gs d cs o cap ao acap t ws' vs' si' pre w' := by
  have hbg := h.wk.bg
  have hbv := h.wk.bv
  obtain ⟨v, hv, hr⟩ := h.iv.row
  have hB0 : w'.heap[B0]? = wr.heap[B0]? := c.block B0 hv.lt (by omega) (by omega) (fun e2 => by have := (owns_lt h.wk.sn e2.symm).1; omega)
  have ho := ownAt_of hB0
  have hown : ∀ j, ownAt B0 wr = some j → w'.heap[j]? = wr.heap[j]? := fun j hj => c.block j (h.iv.own hj).2 (fun e2 => h.d1 (by rw [← e2]; exact hj.symm)) (fun e2 => h.d2 (by rw [← e2]; exact hj.symm)) (fun e2 => h.d3 j e2.symm hj.symm)
  have hfix : Fix wr w' := fun j ob hj hc => by
    have hjl := (Array.getElem?_eq_some_iff.1 hj).1
    rw [c.block j hjl (fun e2 => by have := h.wk.box.blk; rw [← e2, hj] at this; cases this; cases hc) (fun e2 => by have := h.wk.vn; unfold URow at this; rw [← e2, hj] at this; cases this; cases hc) (fun e2 => by obtain ⟨cc, q⟩ := cells_of h.wk.sn e2.symm; rw [hj] at q; cases q; cases hc)]
    exact hj
  have hbe : Below n0 w0 w' := h.iv.be.trans ⟨c.os, c.tape, c.output, c.size, fun j hj => ?_⟩
  · obtain ⟨a1, a2, a3, a4⟩ := h.wk.ap gs hgs
    refine ⟨k, hsd, hl.trans h.ln, h.iv.keep hB0 hown hbe c.size, hBk _ _ h.bk hfix, (c.block gs a1 a2 a3 a4).trans h.sx, h.al, by rw [ho]; exact h.d1, by rw [ho]; exact h.d2, fun j hj e2 => ?_⟩
    rw [ho] at e2
    rcases c.own j hj with e3 | e3
    · exact h.d3 j e3 e2
    · have := (h.iv.own e2.symm).2; omega
  · by_cases hjl : j < wr.heap.size
    · exact c.block j hjl (by omega) (by omega) (fun e2 => by have := (owns_lt h.wk.sn e2.symm).1; omega)
    · have := h.wk.box.lt; omega
/-- a piece was handed on -/
theorem It.next (h : It X n1 B0 ty e n0 w0 enc Bk B g vg gs d cs o cap ao acap t ws vs si pre wr) (hB : B0 < n1) (hn : n1 ≤ B) (hX : ∀ j, X j → j < n1 ∧ j ≠ B0) (hgs : X gs) (x : Pr s) (ht : t < s.size) (hx : x.1 = (t, stop d s t)) (i : Ib n1 B0 ty e n0 w0 enc (pre ++ [x]) w') (b : Bk w') (q : Kq n1 B0 wr w') : It X n1 B0 ty e n0 w0 enc Bk B g vg gs d cs o cap ao acap (stop d s t) ws vs si (pre ++ [x]) w' := by
  have hbg := h.wk.bg
  have hbv := h.wk.bv
  have hXk : ∀ j, X j → w'.heap[j]? = wr.heap[j]? := fun j hj => q.keep j (h.wk.ap j hj).1 (.inl (hX j hj).1) (hX j hj).2 (fun e2 => by have := (h.iv.own e2.symm).1; have := (hX j hj).1; omega)
  have kg := q.keep g h.wk.box.lt (.inr ⟨_, _, _, h.wk.box.blk⟩) (by omega) h.d1
  have kv := q.keep vg h.wk.vn.lt (.inr ⟨_, _, _, h.wk.vn⟩) (by omega) h.d2
  have hown : ∀ k, some k = ownAt B0 w' → some k = ownAt B0 wr ∨ wr.heap.size ≤ k := fun k e2 => (q.own k e2.symm).imp Eq.symm id
  refine ⟨⟨h.wk.box.keep kg, h.wk.dt.carry hXk (fun _ h => h), kv.trans h.wk.vn, owns_keep h.wk.sn (fun j hj => q.keep j (owns_lt h.wk.sn hj).2 (.inr (by obtain ⟨cc, z⟩ := cells_of h.wk.sn hj; exact ⟨_, _, _, z⟩)) (by have := (owns_lt h.wk.sn hj).1; omega) (h.d3 j hj)), h.wk.wl, hbg, hbv, fun j hj => ⟨Nat.lt_of_lt_of_le (h.wk.ap j hj).1 q.size, (h.wk.ap j hj).2⟩⟩, h.sd, h.ln, i, b, (hXk gs hgs).trans h.sx, ?_, fun e2 => ?_, fun e2 => ?_, fun j hj e2 => ?_⟩
  · rw [List.map_append, List.append_assoc, ← h.al, all_more d s t ht]
    simp [hx]
  · rcases hown g e2 with e3 | e3
    · exact h.d1 e3
    · have := h.wk.box.lt; omega
  · rcases hown vg e2 with e3 | e3
    · exact h.d2 e3
    · have := h.wk.vn.lt; omega
  · rcases hown j e2 with e3 | e3
    · exact h.d3 j hj e3
    · have := (owns_lt h.wk.sn hj).2; omega
end
end Go.Proofs.Ytmmlibehihknbaa.pc
