/-
  Texts put together: Over this program: a crowd in memory; it is made (nfa.newCrowd), a state is added (crowd.add). Contracts over this program: a crowd is made (nfa.newCrowd), a state is added (crowd.add), it is left (crowd.leave). Over this program: a crowd by its lists alone; states added one behind the other; one taken off the stack; plain: what is gone along is closed. Contracts over this program: a crowd is spread over Free edges (crowd.spread). Contracts over this program: a crowd is made (nfa.newCrowd).
-/
import Derived.Test.YtfilndgbgdnpiaaKNc
import Derived.Test.YtfilndgbgdnpiaaM00
import Derived.OwnWalk
import Derived.Sort.LoopGhostIn
import Derived.RegionIn
namespace Go.Proofs.Ytfilndgbgdnpiaa.nf
open Go.RowKit Go.Shelf
set_option linter.unusedVariables false
open df (Kp Owns)

/-- an append of one int: where the new row lies -/
theorem append_int (w : World) (ty : TypeId) (B : Nat) (v : Value) (l : List Int) (hown : Owns w B v l) (g : Nat) (y : Int) (hc : w.cell? ⟨g, 0, none⟩ = some (.int .i64 y)) (hsm : l.length ≤ 1000000) (hB : B ≤ w.heap.size) :
    ∃ g' cap' w', (Builtin.append_ #[39, 39] ty #[v, .slice (some ⟨g, 0, none⟩) 1 1]).run Try.prog w = .ok (.slice (some ⟨g', 0, none⟩) (l.length + 1) cap') w' ∧ Owns w' B (.slice (some ⟨g', 0, none⟩) (l.length + 1) cap') (l ++ [y]) ∧ w.grownBy w' v.ownBlock ∧ (some g' = v.ownBlock ∨ w.heap.size ≤ g') := by
  obtain ⟨i0, hi, hz0, hz1, hz2⟩ := info_parts df.info3
  have hnews : ∀ j u, ([.int .i64 y] : List Value)[j]? = some u → w.cell? ((⟨g, 0, none⟩ : Addr).add j) = some u := fun j u hu => by
    rcases j with _ | j
    · simp at hu
      subst hu
      simpa [Addr.add] using hc
    · simp at hu
  obtain ⟨v', w', hr, h2, h3, h4⟩ := run_append_own (P := Try.prog) w B 39 ty 3 i0 _ 1 8 Try.underlying39 hi hz0 hz1 hz2 rfl (by decide) v l.length _ hown ⟨g, 0, none⟩ 1 1 [.int .i64 y] rfl hnews (by simp [Value.oneCell']) (by unfold maxLen; omega) (by omega) hB
  obtain ⟨g', cap', rfl⟩ := ownsRow_succ h2
  refine ⟨g', cap', w', hr, by simpa [Owns] using h2, h3, ?_⟩
  have hl2 : ([.int .i64 y] : List Value).length = 1 * i0.size := by rw [hz1]; rfl
  rcases hown.2 with ⟨rfl, h0⟩ | ⟨gg, cap, cur, rfl, hbg, hg, hnc, hcm, hcs, htake⟩
  · have hr2 := run_append_nil (P := Try.prog) w 39 ty 3 i0 _ Try.underlying39 hi hz0 ⟨g, 0, none⟩ 1 1 [.int .i64 y] hl2 hnews (by omega) (by omega) (by rw [hz2]; omega)
    rw [hr2] at hr
    injection hr with e1 e2
    simp at e1
    exact .inr (by omega)
  · by_cases hroom : l.length + 1 ≤ cap
    · have hfit : l.length * i0.size + ([.int .i64 y] : List Value).length ≤ cur.size := by rw [hl2, hcs, hz1, ← Nat.add_mul]; exact Nat.mul_le_mul_right _ hroom
      have hr2 := run_append_room (P := Try.prog) w 39 ty 3 i0 Try.underlying39 hi gg l.length cap cur hg ⟨g, 0, none⟩ 1 1 [.int .i64 y] hl2 hnews (by simp [Value.oneCell']) hroom hfit
      rw [hr2] at hr
      injection hr with e1 e2
      simp at e1
      exact .inl (by simp [Value.ownBlock, e1.1])
    · have hr2 := run_append_grow (P := Try.prog) w 39 ty 3 i0 _ Try.underlying39 hi hz0 ⟨gg, 0, none⟩ l.length cap _ (by rw [hz1]; exact hown.1) (hown.cells (g := gg) rfl) ⟨g, 0, none⟩ 1 1 [.int .i64 y] hl2 hnews (by omega) (by omega) (growslice_fits (by omega) (by rw [hz2]; omega))
      rw [hr2] at hr
      injection hr with e1 e2
      simp at e1
      exact .inr (by omega)
theorem wpList_append_at {ops : Array Oper} {rest : List Oper} {o : Oper} {a : Act} {w : World} {Q : Exit → Act → World → Prop} (hgd : o.guard = none) (s x : Operand)
    (ho : o.op = Op.call { callee := Callee.builtin Builtin.append, args := #[s, x], argTypes := #[39, 39] }) (B : Nat) (v : Value) (l : List Int) (y : Int) (g : Nat)
    (hs : a.eval s = v) (hx : a.eval x = .slice (some ⟨g, 0, none⟩) 1 1) (hown : Owns w B v l) (hc : w.cell? ⟨g, 0, none⟩ = some (.int .i64 y)) (hl : l.length ≤ 1000000) (hB : B ≤ w.heap.size)
    (hK : ∀ g' cap' w', Owns w' B (.slice (some ⟨g', 0, none⟩) (l.length + 1) cap') (l ++ [y]) → w.grownBy w' v.ownBlock → (some g' = v.ownBlock ∨ w.heap.size ≤ g') → wpList Try.prog ops Q rest (a.put o.dst (.slice (some ⟨g', 0, none⟩) (l.length + 1) cap')) w') : wpList Try.prog ops Q (o :: rest) a w := by
  refine wpList_plain hgd fun K hK' => ?_
  obtain ⟨g', cap', w', hr, h2, h3, h4⟩ := append_int w o.type B v l hown g y hc hl hB
  unfold Oper.wp execOp
  simp only [ho, resolve, invoke, builtin, Sem.run_bind, Sem.run_pure, Result.andThen_ok, List.map_toArray, List.map_cons, List.map_nil, hs, hx, hr]
  exact hK' _ _ (hK g' cap' w' h2 h3 h4)

def bcells (l : List Bool) : Array Value := (l.map fun x => Value.bool x).toArray
def BRow (w : World) (g : Nat) (l : List Bool) : Prop := w.heap[g]? = some (.cells (bcells l) 4 (0, 0))
section
variable {w w' : World} {g : Nat} {l : List Bool}
theorem BRow.lt (h : BRow w g l) : g < w.heap.size := (Array.getElem?_eq_some_iff.1 h).1
theorem BRow.cell (h : BRow w g l) (i : Nat) (hi : i < l.length) : w.cell? ⟨g, i, none⟩ = some (.bool l[i]) := by
  rw [Lib.cell_of_heap h]
  simp [bcells, hi]
theorem BRow.fz (h : BRow w g l) (i : Nat) : w.frozen? ⟨g, i, none⟩ = false := Lib.frozen_of_heap h i
theorem BRow.put (h : BRow w g l) (i : Nat) (x : Bool) : BRow (w.setCell ⟨g, i, none⟩ (.bool x)) g (l.set i x) := by
  unfold BRow
  rw [set_heap w g _ _ i _ h]
  congr 2
  simp [bcells]
end
theorem row_type {w : World} {B : Nat} {v : Value} {l : List Int} (h : Owns w B v l) {g : Nat} {cs : Array Value} {t : TypeId} {fr : Nat × Nat} (hg : w.heap[g]? = some (.cells cs t fr)) (ht : t ≠ 3) : some g ≠ v.ownBlock := by
  intro e
  rcases h.2 with ⟨rfl, _⟩ | ⟨gg, cap, cur, rfl, _, hgg, _⟩
  · cases e
  · cases e
    rw [hg] at hgg
    cases hgg
    exact ht rfl

structure Crowd (X : Nat → Prop) (W : World) (B c sb n : Nat) (m : List Bool) (va vw : Value) (l q : List Int) : Prop where
  blk : W.heap[c]? = some (.cells #[.slice (some ⟨sb, 0, none⟩) n n, va, vw] 76 (0, 0))
  seen : BRow W sb m
  ml : m.length = n
  all : Owns W B va l
  wait : Owns W B vw q
  two : ∀ g, va.ownBlock = some g → vw.ownBlock ≠ some g
  bc : B ≤ c
  bs : B ≤ sb
  ap : ∀ b, X b → b < W.heap.size ∧ b ≠ c ∧ b ≠ sb ∧ some b ≠ va.ownBlock ∧ some b ≠ vw.ownBlock
section
variable {X : Nat → Prop} {W W' : World} {B c sb n : Nat} {m : List Bool} {va vw : Value} {l q : List Int}
theorem Crowd.c0 (h : Crowd X W B c sb n m va vw l q) : W.cell? ⟨c, 0, none⟩ = some (.slice (some ⟨sb, 0, none⟩) n n) := by rw [Lib.cell_of_heap h.blk]; rfl
theorem Crowd.c1 (h : Crowd X W B c sb n m va vw l q) : W.cell? ⟨c, 1, none⟩ = some va := by rw [Lib.cell_of_heap h.blk]; rfl
theorem Crowd.c2 (h : Crowd X W B c sb n m va vw l q) : W.cell? ⟨c, 2, none⟩ = some vw := by rw [Lib.cell_of_heap h.blk]; rfl
theorem Crowd.fz (h : Crowd X W B c sb n m va vw l q) (i : Nat) : W.frozen? ⟨c, i, none⟩ = false := Lib.frozen_of_heap h.blk i
theorem Crowd.lt (h : Crowd X W B c sb n m va vw l q) : c < W.heap.size := (Array.getElem?_eq_some_iff.1 h.blk).1
theorem Crowd.ne (h : Crowd X W B c sb n m va vw l q) : c ≠ sb := fun e => by
  have h1 := h.blk
  have h2 := h.seen
  unfold BRow at h2
  rw [e] at h1
  rw [h1] at h2
  injection h2 with h3
  injection h3 with _ h4
  simp at h4
theorem Crowd.size (h : Crowd X W B c sb n m va vw l q) : B ≤ W.heap.size := Nat.le_trans h.bc (Nat.le_of_lt h.lt)
theorem Crowd.nac (h : Crowd X W B c sb n m va vw l q) : some c ≠ va.ownBlock := row_type h.all h.blk (by decide)
theorem Crowd.nwc (h : Crowd X W B c sb n m va vw l q) : some c ≠ vw.ownBlock := row_type h.wait h.blk (by decide)
theorem Crowd.nas (h : Crowd X W B c sb n m va vw l q) : some sb ≠ va.ownBlock := row_type h.all h.seen (by decide)
theorem Crowd.nws (h : Crowd X W B c sb n m va vw l q) : some sb ≠ vw.ownBlock := row_type h.wait h.seen (by decide)
/-- other blocks turned, or new ones -/
theorem Crowd.keep (h : Crowd X W B c sb n m va vw l q) (hs : W.heap.size ≤ W'.heap.size) (h1 : W'.heap[c]? = W.heap[c]?) (h2 : W'.heap[sb]? = W.heap[sb]?) (h3 : ∀ g, va.ownBlock = some g → W'.heap[g]? = W.heap[g]?) (h4 : ∀ g, vw.ownBlock = some g → W'.heap[g]? = W.heap[g]?) : Crowd X W' B c sb n m va vw l q := by
  have key : ∀ (v : Value) (l : List Int), Owns W B v l → (∀ g, v.ownBlock = some g → W'.heap[g]? = W.heap[g]?) → Owns W' B v l := fun v l ho hh => by
    refine ⟨ho.1, ?_⟩
    rcases ho.2 with h | ⟨g, cap, cur, rfl, hb, hg, hr⟩
    · exact .inl h
    · exact .inr ⟨g, cap, cur, rfl, hb, (hh g rfl).trans hg, hr⟩
  exact ⟨h1.trans h.blk, h2.trans h.seen, h.ml, key _ _ h.all h3, key _ _ h.wait h4, h.two, h.bc, h.bs, fun b hb => by obtain ⟨a1, a2⟩ := h.ap b hb; exact ⟨Nat.lt_of_lt_of_le a1 hs, a2⟩⟩
theorem own_lt {v : Value} (h : Owns W B v l) {g : Nat} (e : v.ownBlock = some g) : g < W.heap.size := by
  rcases h.2 with ⟨rfl, _⟩ | ⟨gg, cap, cur, rfl, _, hgg, _⟩
  · cases e
  · cases e; exact (Array.getElem?_eq_some_iff.1 hgg).1
theorem Crowd.later (h : Crowd X W B c sb n m va vw l q) (b : Below W.heap.size W W') : Crowd X W' B c sb n m va vw l q :=
  h.keep b.size (b.block _ h.lt) (b.block _ h.seen.lt) (fun g e => b.block g (own_lt h.all e)) (fun g e => b.block g (own_lt h.wait e))
theorem Crowd.alloc (h : Crowd X W B c sb n m va vw l q) (o : Obj) : Crowd X (W.alloc o) B c sb n m va vw l q := h.later (below_alloc _ _)
theorem Crowd.mark (h : Crowd X W B c sb n m va vw l q) (s : Nat) (x : Bool) : Crowd X (W.setCell ⟨sb, s, none⟩ (.bool x)) B c sb n (m.set s x) va vw l q := by
  have hh : ∀ k, k ≠ sb → (W.setCell ⟨sb, s, none⟩ (.bool x)).heap[k]? = W.heap[k]? := fun k hk => Below.heap_setCell _ _ _ k hk
  have h1 := h.keep (W' := W) (Nat.le_refl _) rfl rfl (fun _ _ => rfl) (fun _ _ => rfl)
  have key : ∀ (v : Value) (l : List Int), Owns W B v l → some sb ≠ v.ownBlock → Owns (W.setCell ⟨sb, s, none⟩ (.bool x)) B v l := fun v l ho hn => by
    refine ⟨ho.1, ?_⟩
    rcases ho.2 with h | ⟨g, cap, cur, rfl, hb, hg, hr⟩
    · exact .inl h
    · exact .inr ⟨g, cap, cur, rfl, hb, (hh g (fun e => hn (by rw [← e]; rfl))).trans hg, hr⟩
  exact ⟨(hh c h.ne).trans h.blk, h.seen.put s x, by rw [List.length_set]; exact h.ml, key _ _ h.all h.nas, key _ _ h.wait h.nws, h.two, h.bc, h.bs, fun b hb => by obtain ⟨a1, a2⟩ := h.ap b hb; exact ⟨by simpa using a1, a2⟩⟩
theorem Crowd.putA (h : Crowd X W B c sb n m va vw l q) {l' : List Int} {g' k' cap' : Nat} (ho : Owns W' B (.slice (some ⟨g', 0, none⟩) k' cap') l') (hg : W.grownBy W' va.ownBlock) (hw : some g' = va.ownBlock ∨ W.heap.size ≤ g') :
    Crowd X (W'.setCell ⟨c, 1, none⟩ (.slice (some ⟨g', 0, none⟩) k' cap')) B c sb n m (.slice (some ⟨g', 0, none⟩) k' cap') vw l' q := by
  have b1 : W'.heap[c]? = some (.cells #[.slice (some ⟨sb, 0, none⟩) n n, va, vw] 76 (0, 0)) := (hg.block c h.lt h.nac).trans h.blk
  have b2 : W'.heap[sb]? = _ := (hg.block sb h.seen.lt h.nas).trans h.seen
  have hh : ∀ k, k ≠ c → (W'.setCell ⟨c, 1, none⟩ (.slice (some ⟨g', 0, none⟩) k' cap')).heap[k]? = W'.heap[k]? := fun k hk => Below.heap_setCell _ _ _ k hk
  have key : ∀ (v : Value) (l : List Int), Owns W' B v l → some c ≠ v.ownBlock → Owns (W'.setCell ⟨c, 1, none⟩ (.slice (some ⟨g', 0, none⟩) k' cap')) B v l := fun v l ho hn => by
    refine ⟨ho.1, ?_⟩
    rcases ho.2 with h | ⟨g, cap, cur, rfl, hb, hg, hr⟩
    · exact .inl h
    · exact .inr ⟨g, cap, cur, rfl, hb, (hh g (fun e => hn (by rw [← e]; rfl))).trans hg, hr⟩
  have hwt : Owns W' B vw q := by
    refine ⟨h.wait.1, ?_⟩
    rcases h.wait.2 with h0 | ⟨g, cap, cur, rfl, hb, hgg, hr⟩
    · exact .inl h0
    · exact .inr ⟨g, cap, cur, rfl, hb, (hg.block g (Array.getElem?_eq_some_iff.1 hgg).1 (fun e => h.two g e.symm rfl)).trans hgg, hr⟩
  refine ⟨?_, (hh sb h.ne.symm).trans b2, h.ml, key _ _ ho (row_type ho b1 (by decide)), key _ _ hwt (row_type hwt b1 (by decide)), ?_, h.bc, h.bs, fun b hb => ?_⟩
  · rw [set_heap _ _ _ _ 1 _ b1]; rfl
  · intro g e e2
    simp [Value.ownBlock] at e
    subst e
    rcases hw with e3 | e3
    · exact h.two _ e3.symm e2
    · have := own_lt h.wait e2; omega
  · obtain ⟨a1, a2, a3, a4, a5⟩ := h.ap b hb
    refine ⟨by have := hg.size; simp; omega, a2, a3, ?_, a5⟩
    intro e
    simp [Value.ownBlock] at e
    subst e
    rcases hw with e3 | e3
    · exact a4 e3
    · omega
theorem Crowd.putW (h : Crowd X W B c sb n m va vw l q) {q' : List Int} {g' k' cap' : Nat} (ho : Owns W' B (.slice (some ⟨g', 0, none⟩) k' cap') q') (hg : W.grownBy W' vw.ownBlock) (hw : some g' = vw.ownBlock ∨ W.heap.size ≤ g') :
    Crowd X (W'.setCell ⟨c, 2, none⟩ (.slice (some ⟨g', 0, none⟩) k' cap')) B c sb n m va (.slice (some ⟨g', 0, none⟩) k' cap') l q' := by
  have b1 : W'.heap[c]? = some (.cells #[.slice (some ⟨sb, 0, none⟩) n n, va, vw] 76 (0, 0)) := (hg.block c h.lt h.nwc).trans h.blk
  have b2 : W'.heap[sb]? = _ := (hg.block sb h.seen.lt h.nws).trans h.seen
  have hh : ∀ k, k ≠ c → (W'.setCell ⟨c, 2, none⟩ (.slice (some ⟨g', 0, none⟩) k' cap')).heap[k]? = W'.heap[k]? := fun k hk => Below.heap_setCell _ _ _ k hk
  have key : ∀ (v : Value) (l : List Int), Owns W' B v l → some c ≠ v.ownBlock → Owns (W'.setCell ⟨c, 2, none⟩ (.slice (some ⟨g', 0, none⟩) k' cap')) B v l := fun v l ho hn => by
    refine ⟨ho.1, ?_⟩
    rcases ho.2 with h | ⟨g, cap, cur, rfl, hb, hg, hr⟩
    · exact .inl h
    · exact .inr ⟨g, cap, cur, rfl, hb, (hh g (fun e => hn (by rw [← e]; rfl))).trans hg, hr⟩
  have hwt : Owns W' B va l := by
    refine ⟨h.all.1, ?_⟩
    rcases h.all.2 with h0 | ⟨g, cap, cur, rfl, hb, hgg, hr⟩
    · exact .inl h0
    · exact .inr ⟨g, cap, cur, rfl, hb, (hg.block g (Array.getElem?_eq_some_iff.1 hgg).1 (fun e => h.two g rfl e.symm)).trans hgg, hr⟩
  refine ⟨?_, (hh sb h.ne.symm).trans b2, h.ml, key _ _ hwt (row_type hwt b1 (by decide)), key _ _ ho (row_type ho b1 (by decide)), ?_, h.bc, h.bs, fun b hb => ?_⟩
  · rw [set_heap _ _ _ _ 2 _ b1]; rfl
  · intro g e e2
    simp [Value.ownBlock] at e2
    subst e2
    rcases hw with e3 | e3
    · exact h.two _ e e3.symm
    · have := own_lt h.all e; omega
  · obtain ⟨a1, a2, a3, a4, a5⟩ := h.ap b hb
    refine ⟨by have := hg.size; simp; omega, a2, a3, a4, ?_⟩
    intro e
    simp [Value.ownBlock] at e
    subst e
    rcases hw with e3 | e3
    · exact a5 e3
    · omega
end
end Go.Proofs.Ytfilndgbgdnpiaa.nf

namespace Go.Proofs.Ytfilndgbgdnpiaa.nf
open Go.RowKit Go.Shelf
set_option linter.unusedVariables false
open df (Kp Owns)

/-- how far a world is moved -/
structure Moved (X : Nat → Prop) (B : Nat) (W W' : World) : Prop where
  kp : Kp X W W'
  be : Below B W W'
  ot : KeepsOthers W W'
section
variable {X : Nat → Prop} {B : Nat} {W W' W'' : World}
theorem Moved.refl (X : Nat → Prop) (B : Nat) (W : World) : Moved X B W W := ⟨⟨Nat.le_refl _, fun _ _ => rfl⟩, Below.refl _ _, KeepsOthers.refl _⟩
theorem Moved.trans (h : Moved X B W W') (k : Moved X B W' W'') : Moved X B W W'' := ⟨h.kp.trans k.kp, h.be.trans k.be, h.ot.trans k.ot⟩
theorem Moved.set (h : Moved X B W W') {g : Nat} (hX : ∀ b, X b → b ≠ g) (hB : B ≤ g) (i : Nat) (v : Value) : Moved X B W (W'.setCell ⟨g, i, none⟩ v) :=
  h.trans ⟨⟨by simp, fun b hb => Below.heap_setCell _ _ _ b (hX b hb)⟩, (Below.refl B W').setCell (p := ⟨g, i, none⟩) hB v, KeepsOthers.setCell _ _ _⟩
theorem Moved.alloc (h : Moved X B W W') (hX : ∀ b, X b → b < W'.heap.size) (hB : B ≤ W'.heap.size) (o : Obj) : Moved X B W (W'.alloc o) :=
  h.trans ⟨⟨by simp, fun b hb => Below.heap_alloc _ _ b (hX b hb)⟩, (Below.refl B W').alloc hB o, KeepsOthers.alloc _ _⟩
theorem Moved.grown (h : Moved X B W W') {v : Value} {l : List Int} (ho : Owns W' B v l) (hg : W'.grownBy W'' v.ownBlock) (hX : ∀ b, X b → b < W'.heap.size ∧ some b ≠ v.ownBlock) (hB : B ≤ W'.heap.size) : Moved X B W W'' :=
  h.trans ⟨⟨hg.size, fun b hb => hg.block b (hX b hb).1 (hX b hb).2⟩, (Below.refl B W').grown hg hB (df.own_ge ho), KeepsOthers.of_grownBy hg fun j o ej hj => by
    rcases ho.2 with ⟨rfl, _⟩ | ⟨g, cap, cur, rfl, _, hgb, _⟩
    · simp [Value.ownBlock] at ej
    · obtain rfl : g = j := by simpa [Value.ownBlock] using ej
      rw [hgb] at hj; cases hj; rfl⟩
theorem Moved.below (h : Below W.heap.size W W') (hX : ∀ b, X b → b < W.heap.size) (hB : B ≤ W.heap.size) (ho : KeepsOthers W W') : Moved X B W W' := ⟨⟨h.size, fun b hb => h.block b (hX b hb)⟩, h.mono hB, ho⟩
end

theorem tmp_cell (W : World) (v : Value) (g : Nat) (h : g = W.heap.size) : (W.alloc (.cells #[v] 3)).cell? ⟨g, 0, none⟩ = some v := by subst h; rw [Lib.cell_of_heap (World.alloc_heap_new W _)]; rfl
set_option maxHeartbeats 1000000 in
theorem add_old {X : Nat → Prop} {W : World} {B c sb n : Nat} {m : List Bool} {va vw : Value} {l q : List Int} (h : Crowd X W B c sb n m va vw l q) (s : Nat) (hs : s < n) (hm : m[s]? = some true) :
    Calls Try.prog 33 #[.pointer (some ⟨c, 0, none⟩), .int .i64 (s : Int)] W fun e W' => (∃ v, e = .returned v) ∧ W' = W := by
  have hml := h.ml
  have k0 := h.c0
  have k1 := h.seen.cell s (by omega)
  have e1 : m[s]'(by omega) = true := by rw [List.getElem?_eq_getElem (by omega)] at hm; simpa using hm
  rw [e1] at k1
  clear h hm e1
  go_enter Try.func33, Try.ntmps33
  go_wp2_with (fail)
  go_end0
  exact ⟨⟨_, rfl⟩, rfl⟩
set_option maxHeartbeats 2000000 in
set_option maxRecDepth 100000 in
theorem add_new {X : Nat → Prop} {W : World} {B c sb n : Nat} {m : List Bool} {va vw : Value} {l q : List Int} (h : Crowd X W B c sb n m va vw l q) (s : Nat) (hs : s < n) (hm : m[s]? = some false) (hl : l.length ≤ 1000000) (hq : q.length ≤ 1000000) :
    Calls Try.prog 33 #[.pointer (some ⟨c, 0, none⟩), .int .i64 (s : Int)] W fun e W' => (∃ v, e = .returned v) ∧ ∃ va' vw', Crowd X W' B c sb n (m.set s true) va' vw' (l ++ [(s : Int)]) (q ++ [(s : Int)]) ∧ Moved X B W W' := by
  have hml := h.ml
  have k0 := h.c0
  have k1 := h.seen.cell s (by omega)
  have k2 := h.seen.fz s
  have e1 : m[s]'(by omega) = false := by rw [List.getElem?_eq_getElem (by omega)] at hm; simpa using hm
  rw [e1] at k1
  have h1 := h.mark s true
  have j1 := h1.c1
  have M1 : Moved X B W (W.setCell ⟨sb, s, none⟩ (.bool true)) := (Moved.refl X B W).set (fun b hb => (h.ap b hb).2.2.1) h.bs s _
  have hBs := h1.size
  have hX1 : ∀ b, X b → b < (W.setCell ⟨sb, s, none⟩ (.bool true)).heap.size ∧ b ≠ c ∧ b ≠ sb ∧ some b ≠ va.ownBlock ∧ some b ≠ vw.ownBlock := h1.ap
  have A1 := h1.alloc (.cells #[.int .i64 (s : Int)] 3)
  have HA1 := (show Hid (Crowd X ((W.setCell ⟨sb, s, none⟩ (.bool true)).alloc (.cells #[.int .i64 (s : Int)] 3)) B c sb n (m.set s true) va vw l q) from A1)
  have HM1 := (show Hid (Moved X B W ((W.setCell ⟨sb, s, none⟩ (.bool true)).alloc (.cells #[.int .i64 (s : Int)] 3))) from M1.alloc (fun b hb => (h1.ap b hb).1) hBs _)
  obtain ⟨ga, ca, hva⟩ := df.own_slice h.all
  obtain ⟨gq, cq, hvw⟩ := df.own_slice h.wait
  subst hva hvw
  clear h hm e1 A1 M1 hX1 h1
  go_enter Try.func33, Try.ntmps33
  go_wp2_with (first | (at_builtin; refine wpList_append_at rfl (.tmp 22) (.tmp 24) rfl B _ l (s : Int) W.heap.size rfl rfl HA1.out.all (tmp_cell (W.setCell ⟨sb, s, none⟩ (.bool true)) _ _ (by simp)) hl HA1.out.size ?_; intro g' cap' w2 hown2 hgr2 hw2; have HC3 := (show Hid _ from HA1.out.putA hown2 hgr2 hw2); have HM3 := (show Hid _ from (HM1.out.grown HA1.out.all hgr2 (fun b hb => ⟨(HA1.out.ap b hb).1, (HA1.out.ap b hb).2.2.2.1⟩) HA1.out.size).set (g := c) (fun b hb => (HA1.out.ap b hb).2.1) HA1.out.bc 1 (.slice (some ⟨g', 0, none⟩) (l.length + 1) cap')); have bc : w2.heap[c]? = some (.cells #[.slice (some ⟨sb, 0, none⟩) n n, .slice ga l.length ca, .slice gq q.length cq] 76 (0, 0)) := (hgr2.block c HA1.out.lt HA1.out.nac).trans HA1.out.blk; have z1 : w2.cell? ⟨c, 1, none⟩ = some (.slice ga l.length ca) := (by rw [Lib.cell_of_heap bc]; rfl); have z2 : w2.frozen? ⟨c, 1, none⟩ = false := Lib.frozen_of_heap bc 1; have z3 := HC3.out.c2; have HC4 := (show Hid _ from HC3.out.alloc (.cells #[.int .i64 (s : Int)] 3)); have HM4 := (show Hid _ from HM3.out.alloc (fun b hb => (HC3.out.ap b hb).1) HC3.out.size (.cells #[.int .i64 (s : Int)] 3))) | (at_builtin; refine wpList_append_at rfl (.tmp 32) (.tmp 34) rfl B _ q (s : Int) w2.heap.size rfl rfl HC4.out.wait (tmp_cell (w2.setCell ⟨c, 1, none⟩ (.slice (some ⟨g', 0, none⟩) (l.length + 1) cap')) _ _ (by simp)) hq HC4.out.size ?_; intro g4 cap4 w4 hown4 hgr4 hw4; have HC5 := (show Hid _ from HC4.out.putW hown4 hgr4 hw4); have HM5 := (show Hid _ from (HM4.out.grown HC4.out.wait hgr4 (fun b hb => ⟨(HC4.out.ap b hb).1, (HC4.out.ap b hb).2.2.2.2⟩) HC4.out.size).set (g := c) (fun b hb => (HC4.out.ap b hb).2.1) HC4.out.bc 2 (.slice (some ⟨g4, 0, none⟩) (q.length + 1) cap4)); have bc4 : w4.heap[c]? = _ := (hgr4.block c HC4.out.lt HC4.out.nwc).trans HC4.out.blk; have y1 : w4.cell? ⟨c, 2, none⟩ = some (.slice gq q.length cq) := (by rw [Lib.cell_of_heap bc4]; rfl); have y2 : w4.frozen? ⟨c, 2, none⟩ = false := Lib.frozen_of_heap bc4 2))
  go_end0
  exact ⟨⟨_, rfl⟩, _, _, HC5.out, HM5.out⟩
end Go.Proofs.Ytfilndgbgdnpiaa.nf

namespace Go.Proofs.Ytfilndgbgdnpiaa.nf
open Go.RowKit Go.Shelf
set_option linter.unusedVariables false
open df (Kp Owns)

def addE (st : List Int × List Int) (t : Int) : List Int × List Int := if t ∈ st.1 then st else (st.1 ++ [t], st.2 ++ [t])
def addF (st : List Int × List Int) (e : Ed) : List Int × List Int := if e.free = true then addE st e.to else st
def addAll (es : List Ed) (st : List Int × List Int) : List Int × List Int := es.foldl addF st
theorem addAll_snoc (es : List Ed) (e : Ed) (st : List Int × List Int) : addAll (es ++ [e]) st = addF (addAll es st) e := by unfold addAll; rw [List.foldl_append]; rfl
theorem addE_sub (st : List Int × List Int) (t x : Int) (h : x ∈ st.1) : x ∈ (addE st t).1 := by
  unfold addE
  split
  · exact h
  · exact List.mem_append.2 (.inl h)
theorem addF_sub (st : List Int × List Int) (e : Ed) (x : Int) (h : x ∈ st.1) : x ∈ (addF st e).1 := by
  unfold addF
  split
  · exact addE_sub st _ x h
  · exact h
theorem addAll_sub (es : List Ed) : ∀ (st : List Int × List Int) (x : Int), x ∈ st.1 → x ∈ (addAll es st).1 := by
  induction es with
  | nil => intro st x h; exact h
  | cons e es ih => intro st x h; exact ih (addF st e) x (addF_sub st e x h)
theorem addE_in (st : List Int × List Int) (t : Int) : t ∈ (addE st t).1 := by
  unfold addE
  split
  · assumption
  · exact List.mem_append.2 (.inr (by simp))
theorem addAll_in (es : List Ed) : ∀ (st : List Int × List Int) (e : Ed), e ∈ es → e.free = true → e.to ∈ (addAll es st).1 := by
  induction es with
  | nil => intro st e h; cases h
  | cons e0 es ih =>
    intro st e h hf
    rcases List.mem_cons.1 h with rfl | h
    · refine addAll_sub es (addF st e) _ ?_
      unfold addF
      rw [if_pos hf]
      exact addE_in st _
    · exact ih (addF st e0) e h hf
/-- what is kept between two states of the stack -/
structure Inv (x : Nfa) (P : Int → Prop) (l q : List Int) : Prop where
  sub : ∀ t ∈ q, t ∈ l
  reach : ∀ t ∈ l, Reach x P t
  closed : ∀ t ∈ l, t ∉ q → ∀ e ∈ x.edges, e.fr = t → e.free = true → e.to ∈ l
theorem addAll_new (x : Nfa) (P : Int → Prop) (s : Int) (hs : Reach x P s) (es : List Ed) (he : ∀ e ∈ es, e ∈ x.edges ∧ e.fr = s) : ∀ (st : List Int × List Int), (∀ t ∈ st.2, t ∈ st.1) → (∀ t ∈ st.1, Reach x P t) →
    (∀ t ∈ (addAll es st).2, t ∈ (addAll es st).1) ∧ (∀ t ∈ (addAll es st).1, Reach x P t) ∧ (∀ t ∈ (addAll es st).1, t ∈ st.1 ∨ t ∈ (addAll es st).2) ∧ (∀ t ∈ st.2, t ∈ (addAll es st).2) := by
  induction es with
  | nil => intro st h1 h2; exact ⟨h1, h2, fun t h => .inl h, fun t h => h⟩
  | cons e es ih =>
    intro st h1 h2
    have key : (∀ t ∈ (addF st e).2, t ∈ (addF st e).1) ∧ (∀ t ∈ (addF st e).1, Reach x P t) ∧ (∀ t ∈ (addF st e).1, t ∈ st.1 ∨ t ∈ (addF st e).2) ∧ (∀ t ∈ st.2, t ∈ (addF st e).2) := by
      unfold addF addE
      split
      · rename_i hf
        split
        · exact ⟨h1, h2, fun t h => .inl h, fun t h => h⟩
        · refine ⟨fun t ht => ?_, fun t ht => ?_, fun t ht => ?_, fun t ht => List.mem_append.2 (.inl ht)⟩
          · rcases List.mem_append.1 ht with h | h
            · exact List.mem_append.2 (.inl (h1 t h))
            · exact List.mem_append.2 (.inr h)
          · rcases List.mem_append.1 ht with h | h
            · exact h2 t h
            · simp at h
              subst h
              obtain ⟨m1, m2⟩ := he e (by simp)
              exact Reach.step (by rw [m2]; exact hs) m1 hf
          · rcases List.mem_append.1 ht with h | h
            · exact .inl h
            · exact .inr (List.mem_append.2 (.inr h))
      · exact ⟨h1, h2, fun t h => .inl h, fun t h => h⟩
    obtain ⟨k1, k2, k3, k4⟩ := key
    obtain ⟨i1, i2, i3, i4⟩ := ih (fun e' h => he e' (by simp [h])) (addF st e) k1 k2
    refine ⟨i1, i2, fun t ht => ?_, fun t ht => i4 t (k4 t ht)⟩
    rcases i3 t ht with h | h
    · rcases k3 t h with h | h
      · exact .inl h
      · exact .inr (i4 t h)
    · exact .inr h
theorem inv_step {x : Nfa} {P : Int → Prop} {l q0 : List Int} {s : Int} (h : Inv x P l (q0 ++ [s])) : Inv x P (addAll (chainOf x.edges x.edges.length s) (l, q0)).1 (addAll (chainOf x.edges x.edges.length s) (l, q0)).2 := by
  have hs : s ∈ l := h.sub s (by simp)
  have hmem : ∀ e ∈ chainOf x.edges x.edges.length s, e ∈ x.edges ∧ e.fr = s := fun e he => (mem_chain_all x.edges s e).1 he
  obtain ⟨i1, i2, i3, i4⟩ := addAll_new x P s (h.reach s hs) _ hmem (l, q0) (fun t ht => h.sub t (List.mem_append.2 (.inl ht))) h.reach
  refine ⟨i1, i2, fun t ht htq e he hfr hfree => ?_⟩
  by_cases hts : t = s
  · subst hts
    exact addAll_in _ (l, q0) e ((mem_chain_all x.edges t e).2 ⟨he, hfr⟩) hfree
  · have ht2 : t ∈ l := by
      rcases i3 t ht with h | h
      · exact h
      · exact absurd h htq
    refine addAll_sub _ (l, q0) _ (h.closed t ht2 (fun hq => ?_) e he hfr hfree)
    rcases List.mem_append.1 hq with h1 | h1
    · exact htq (i4 t h1)
    · simp at h1; exact hts h1
theorem inv_done {x : Nfa} {P : Int → Prop} {l : List Int} (h : Inv x P l []) (hP : ∀ t, P t → t ∈ l) (t : Int) : t ∈ l ↔ Reach x P t :=
  ⟨h.reach t, fun r => r.least hP (fun e he hf h1 => h.closed e.fr h1 (by simp) e he rfl hf)⟩

theorem nodup_range : ∀ (n : Nat) (l : List Int), l.Nodup → (∀ t ∈ l, 0 ≤ t ∧ t < (n : Int)) → l.length ≤ n
  | 0, l, h, hr => by
    cases l with
    | nil => simp
    | cons a l => have := hr a (by simp); omega
  | n + 1, l, h, hr => by
    by_cases hn : (n : Int) ∈ l
    · have h1 := nodup_range n (l.erase (n : Int)) (h.erase _) (fun t ht => by
        have h2 := hr t (List.mem_of_mem_erase ht)
        have h3 : t ≠ (n : Int) := fun e => by subst e; exact (List.Nodup.not_mem_erase h) ht
        omega)
      rw [List.length_erase_of_mem hn] at h1
      omega
    · have := nodup_range n l h (fun t ht => by
        have h2 := hr t ht
        have h3 : t ≠ (n : Int) := fun e => by subst e; exact hn ht
        omega)
      omega

/-- a crowd, by its lists -/
structure Cr (X : Nat → Prop) (W : World) (B c sb n : Nat) (l q : List Int) : Prop where
  lie : ∃ m va vw, Crowd X W B c sb n m va vw l q ∧ ∀ i, i < n → m[i]? = some (decide ((i : Int) ∈ l))
  nd : l.Nodup
  rg : ∀ t ∈ l, 0 ≤ t ∧ t < (n : Int)
  ql : q.length ≤ l.length
theorem Cr.len {X : Nat → Prop} {W : World} {B c sb n : Nat} {l q : List Int} (h : Cr X W B c sb n l q) : l.length ≤ n := nodup_range n l h.nd h.rg
theorem Cr.keep {X Y : Nat → Prop} {W W' : World} {B c sb n : Nat} {l q : List Int} (h : Cr X W B c sb n l q) (hk : ∀ m va vw, Crowd X W B c sb n m va vw l q → Crowd Y W' B c sb n m va vw l q) : Cr Y W' B c sb n l q := by
  obtain ⟨m, va, vw, h1, h2⟩ := h.lie
  exact ⟨⟨m, va, vw, hk m va vw h1, h2⟩, h.nd, h.rg, h.ql⟩
theorem Cr.later {X : Nat → Prop} {W W' : World} {B c sb n : Nat} {l q : List Int} (h : Cr X W B c sb n l q) (b : Below W.heap.size W W') : Cr X W' B c sb n l q := h.keep fun _ _ _ k => k.later b
theorem Cr.less {X Y : Nat → Prop} {W : World} {B c sb n : Nat} {l q : List Int} (h : Cr X W B c sb n l q) (hx : ∀ b, Y b → X b) : Cr Y W B c sb n l q := h.keep fun _ _ _ k => ⟨k.blk, k.seen, k.ml, k.all, k.wait, k.two, k.bc, k.bs, fun b hb => k.ap b (hx b hb)⟩
/-- more blocks that are not the crowd's: new ones -/
theorem Cr.more {X Y : Nat → Prop} {W W' : World} {B c sb n : Nat} {l q : List Int} (h : Cr X W B c sb n l q) (b : Below W.heap.size W W') (hx : ∀ b, Y b → X b ∨ (W.heap.size ≤ b ∧ b < W'.heap.size)) : Cr Y W' B c sb n l q := h.keep fun m va vw k => by
  have k2 := k.later b
  refine ⟨k2.blk, k2.seen, k2.ml, k2.all, k2.wait, k2.two, k2.bc, k2.bs, fun g hg => ?_⟩
  rcases hx g hg with h1 | h1
  · exact k2.ap g h1
  · refine ⟨h1.2, fun e => by have := k.lt; omega, fun e => by have := k.seen.lt; omega, fun e => ?_, fun e => ?_⟩
    · have := own_lt k.all e.symm; omega
    · have := own_lt k.wait e.symm; omega
theorem Cr.own {X : Nat → Prop} {B c sb n N : Nat} {α : Type} (f : α → List Int × List Int) : OwnFrom N (fun (s : α) W => Cr X W B c sb n (f s).1 (f s).2) := fun s W W' row hs hg hr => hs.keep fun m va vw k => by
  have ne : ∀ g cs t fr, W.heap[g]? = some (.cells cs t fr) → some g ≠ row := fun g cs t fr hc e => by
    obtain ⟨_, o, ho, hn⟩ := hr g e.symm
    rw [hc] at ho
    cases ho
    cases hn
  refine k.keep hg.size (hg.block _ k.lt (ne _ _ _ _ k.blk)) (hg.block _ k.seen.lt (ne _ _ _ _ k.seen)) (fun g e => ?_) (fun g e => ?_)
  · rcases k.all.2 with ⟨h0, _⟩ | ⟨gg, cap, cur, h0, _, hgg, _⟩
    · rw [h0] at e; cases e
    · rw [h0] at e; cases e; exact hg.block _ (Array.getElem?_eq_some_iff.1 hgg).1 (ne _ _ _ _ hgg)
  · rcases k.wait.2 with ⟨h0, _⟩ | ⟨gg, cap, cur, h0, _, hgg, _⟩
    · rw [h0] at e; cases e
    · rw [h0] at e; cases e; exact hg.block _ (Array.getElem?_eq_some_iff.1 hgg).1 (ne _ _ _ _ hgg)
theorem moved_own {X : Nat → Prop} {B N : Nat} {α : Type} {W0 : World} (hX : ∀ b, X b → b < W0.heap.size) (hB : B ≤ W0.heap.size) (hN : W0.heap.size ≤ N) : OwnFrom N (fun (_ : α) W => Moved X B W0 W) := fun s W W' row hs hg hr =>
  ⟨⟨Nat.le_trans hs.kp.1 hg.size, fun b hb => (hg.block b (Nat.lt_of_lt_of_le (hX b hb) hs.kp.1) (fun e => by have := (hr b e.symm).1; have := hX b hb; omega)).trans (hs.kp.2 b hb)⟩,
   hs.be.grown hg (Nat.le_trans hB hs.kp.1) (fun k e => Nat.le_trans hB (Nat.le_trans hN (hr k e).1)),
   ⟨Nat.le_trans hs.kp.1 hg.size, fun k o hk ho => by
    have hlt := (Array.getElem?_eq_some_iff.1 hk).1
    exact (hg.block k (Nat.lt_of_lt_of_le hlt hs.kp.1) (fun e => by have := (hr k e.symm).1; omega)).trans (hs.ot.same k o hk ho)⟩⟩

def AddIs (X : Nat → Prop) (B c sb n : Nat) (l q : List Int) (s : Nat) : Prop := ∀ W, Cr X W B c sb n l q → Calls Try.prog 33 #[.pointer (some ⟨c, 0, none⟩), .int .i64 (s : Int)] W fun e W' => (∃ v, e = .returned v) ∧ Cr X W' B c sb n (addE (l, q) (s : Int)).1 (addE (l, q) (s : Int)).2 ∧ Moved X B W W'
theorem add_any (X : Nat → Prop) (B c sb n : Nat) (hn : n ≤ 2000) (l q : List Int) (s : Nat) (hs : s < n) : AddIs X B c sb n l q s := by
  intro W h
  obtain ⟨m, va, vw, h1, h2⟩ := h.lie
  have hl := h.len
  have hql := h.ql
  by_cases hin : (s : Int) ∈ l
  · have e1 : addE (l, q) (s : Int) = (l, q) := by unfold addE; rw [if_pos hin]
    rw [e1]
    refine (add_old h1 s hs (by rw [h2 s hs, decide_eq_true hin])).mono ?_
    rintro e W' ⟨hv, rfl⟩
    exact ⟨hv, h, Moved.refl _ _ _⟩
  · have e1 : addE (l, q) (s : Int) = (l ++ [(s : Int)], q ++ [(s : Int)]) := by unfold addE; rw [if_neg hin]
    rw [e1]
    refine (add_new h1 s hs (by rw [h2 s hs, decide_eq_false hin]) (by omega) (by omega)).mono ?_
    rintro e W' ⟨hv, va', vw', hc, hm⟩
    refine ⟨hv, ⟨⟨_, va', vw', hc, fun i hi => ?_⟩, ?_, ?_, ?_⟩, hm⟩
    · rw [List.getElem?_set]
      have hml := h1.ml
      by_cases hsi : s = i
      · subst hsi
        rw [if_pos rfl, if_pos (by omega)]
        simp
      · rw [if_neg hsi, h2 i hi]
        congr 1
        rw [decide_eq_decide]
        simp only [List.mem_append, List.mem_singleton]
        constructor
        · exact .inl
        · rintro (h | h)
          · exact h
          · omega
    · rw [List.nodup_append]
      refine ⟨h.nd, by simp, fun a ha b hb => ?_⟩
      simp at hb
      subst hb
      exact fun e => hin (e ▸ ha)
    · intro t ht
      rcases List.mem_append.1 ht with h3 | h3
      · exact h.rg t h3
      · simp at h3; omega
    · simp; omega
end Go.Proofs.Ytfilndgbgdnpiaa.nf

namespace Go.Proofs.Ytfilndgbgdnpiaa.nf
open Go.RowKit Go.Shelf
set_option linter.unusedVariables false
attribute [local go_sem] Oper.semAt_some
open df (Kp Owns)

def mark (D : Nat) : Deferred := { target := .collected D, args := #[] }
structure Marks (N : Nat) (ds : List Nat) (W : World) : Prop where
  nd : ds.Nodup
  at' : ∀ D ∈ ds, N ≤ D ∧ W.heap[D]? = some (.deferred (some []))
theorem leave_marks {fn : Func} {tmps : Array Value} {R : Ending → World → Prop} {N n : Nat} (Inv : World → Prop) (hput : ∀ W D, Inv W → N ≤ D → W.heap[D]? = some (.deferred (some [])) → Inv (W.putObj D (.deferred none)))
    (hend : ∀ W, Inv W → ∃ v, (results fn tmps).run Try.prog W = .ok v W ∧ R (.returned v) W) : ∀ (ds : List Nat) (W : World), Marks N ds W → Inv W → LeavesInM Fence.wide n Try.prog fn tmps R (ds.map mark) .returning W
  | [], W, _, hi => hend W hi
  | D :: ds, W, hm, hi => by
    obtain ⟨h1, h2⟩ := hm.at' D (by simp)
    have hnd := List.nodup_cons.1 hm.nd
    refine ⟨by simp, .inl ⟨D, _, rfl, run_takeDeferred h2, ?_⟩⟩
    refine leave_marks Inv hput hend ds _ ⟨hnd.2, fun D' hD' => ?_⟩ (hput W D hi h1 h2)
    obtain ⟨a1, a2⟩ := hm.at' D' (by simp [hD'])
    exact ⟨a1, (World.putObj_heap_other (fun e => hnd.1 (by subst e; exact hD'))).trans a2⟩
theorem Marks.moved {X : Nat → Prop} {B N : Nat} {ds : List Nat} {W W' : World} (h : Marks N ds W) (m : Moved X B W W') : Marks N ds W' := ⟨h.nd, fun D hD => ⟨(h.at' D hD).1, m.ot.same D _ (h.at' D hD).2 rfl⟩⟩
theorem Crowd.pop {X : Nat → Prop} {W : World} {B c sb n : Nat} {m : List Bool} {va : Value} {l q0 : List Int} {t : Int} {g cq : Nat} (h : Crowd X W B c sb n m va (.slice (some ⟨g, 0, none⟩) (q0.length + 1) cq) l (q0 ++ [t])) :
    Crowd X (W.setCell ⟨c, 2, none⟩ (.slice (some ⟨g, 0, none⟩) q0.length cq)) B c sb n m va (.slice (some ⟨g, 0, none⟩) q0.length cq) l q0 := by
  have hr : Owns W B (.slice (some ⟨g, 0, none⟩) q0.length cq) q0 := by
    rcases h.wait.2 with ⟨h0, _⟩ | ⟨gg, cap, cur, e, hb, hgg, hn, hc, hs, ht⟩
    · cases h0
    · simp only [Value.slice.injEq, Option.some.injEq, Addr.mk.injEq] at e
      obtain ⟨⟨rfl, _⟩, _, rfl⟩ := e
      rw [List.length_append] at hn ht
      simp only [List.length_cons, List.length_nil] at hn ht
      refine ⟨by simp, .inr ⟨_, _, cur, rfl, hb, hgg, by omega, hc, hs, ?_⟩⟩
      have := congrArg (List.take (q0.length * 1)) ht
      rw [List.take_take] at this
      simpa [Nat.min_def] using this
  exact h.putW hr ⟨rfl, rfl, rfl, Nat.le_refl _, fun _ _ _ => rfl⟩ (.inl rfl)

theorem Moved.less {X Y : Nat → Prop} {B : Nat} {W W' : World} (h : Moved X B W W') (hx : ∀ b, Y b → X b) : Moved Y B W W' := ⟨⟨h.kp.1, fun b hb => h.kp.2 b (hx b hb)⟩, h.be, h.ot⟩
def esOf {Q : Ed → Prop} (pre : List { e : Ed // Q e }) : List Ed := pre.map (·.1)
theorem esOf_snoc {Q : Ed → Prop} (pre : List { e : Ed // Q e }) (y : { e : Ed // Q e }) : esOf (pre ++ [y]) = esOf pre ++ [y.1] := by unfold esOf; rw [List.map_append]; rfl
theorem addAll_len (es : List Ed) : ∀ st : List Int × List Int, (addAll es st).2.length + st.1.length = (addAll es st).1.length + st.2.length ∧ st.1.length ≤ (addAll es st).1.length := by
  induction es with
  | nil => intro st; unfold addAll; simp; omega
  | cons e es ih =>
    intro st
    have h := ih (addF st e)
    have k : (addF st e).2.length + st.1.length = (addF st e).1.length + st.2.length ∧ st.1.length ≤ (addF st e).1.length := by
      unfold addF addE
      split
      · split
        · omega
        · simp; omega
      · omega
    have e1 : addAll (e :: es) st = addAll es (addF st e) := rfl
    rw [e1]
    omega
def SpreadIs (x : Nfa) (n : Nat) : Prop := ∀ (P : Int → Prop) (X : Nat → Prop) (B c sb : Nat) (l q : List Int) (o : Option Addr) (cap fb nb : Nat) (W : World), Cr X W B c sb n l q → Inv x P l q → WebAt X W x.edges n o cap fb nb →
    Calls Try.prog 34 #[.pointer (some ⟨c, 0, none⟩), webV o x.edges.length cap n fb nb] W fun e W' => (∃ v, e = .returned v) ∧ ∃ l', Cr X W' B c sb n l' [] ∧ Inv x P l' [] ∧ (∀ t ∈ l, t ∈ l') ∧ Moved X B W W'

set_option maxRecDepth 100000 in
set_option maxHeartbeats 4000000 in
theorem spread_in (x : Nfa) (n : Nat) (hn : n ≤ 2000) (hm : x.edges.length ≤ 16000) (hto : ∀ e ∈ x.edges, 0 ≤ e.to ∧ e.to < (n : Int)) (P : Int → Prop) (X : Nat → Prop) (B c sb : Nat) (l q : List Int) (o : Option Addr) (cap fb nb : Nat) (W : World) (hC : Cr X W B c sb n l q) (hI : Inv x P l q) (hW : WebAt X W x.edges n o cap fb nb) :
    CallsIn Fence.wide 6 Try.prog 34 #[.pointer (some ⟨c, 0, none⟩), webV o x.edges.length cap n fb nb] W fun e W' => (∃ v, e = .returned v) ∧ ∃ l', Cr X W' B c sb n l' [] ∧ Inv x P l' [] ∧ (∀ t ∈ l, t ∈ l') ∧ Moved X B W W' := by
  have hB : B ≤ W.heap.size := by obtain ⟨m, va, vw, k, _⟩ := hC.lie; exact k.size
  have hXl : ∀ b, X b → b < W.heap.size := hW.lt
  have bP := Boxed.new W 72 (.pointer (some ⟨c, 0, none⟩))
  obtain ⟨W2, hW2⟩ : ∃ W2, W2 = (W.alloc (.cells #[.pointer (some ⟨c, 0, none⟩)] 72)).alloc (.cells #[.slice o x.edges.length cap, .slice (some ⟨fb, 0, none⟩) n n, .slice (some ⟨nb, 0, none⟩) x.edges.length x.edges.length] 70) := ⟨_, rfl⟩
  have sz : W2.heap.size = W.heap.size + 1 + 1 := by rw [hW2]; simp
  have B2 : Below W.heap.size W W2 := by rw [hW2]; exact ((Below.refl _ W).alloc (Nat.le_refl _) _).alloc (by simp) _
  have M0 : Moved X B W W2 := by rw [hW2]; exact ((Moved.refl X B W).alloc hXl hB _).alloc (fun b hb => by have := hXl b hb; simp; omega) (by simp; omega) _
  have P2 : Boxed W2 W.heap.size 72 (.pointer (some ⟨c, 0, none⟩)) := by rw [hW2]; exact bP.alloc _
  have Q2 : WBox W2 (W.heap.size + 1) o x.edges.length cap n fb nb := by
    rw [hW2]
    have := World.alloc_heap_new (W.alloc (.cells #[.pointer (some ⟨c, 0, none⟩)] 72)) (.cells #[.slice o x.edges.length cap, .slice (some ⟨fb, 0, none⟩) n n, .slice (some ⟨nb, 0, none⟩) x.edges.length x.edges.length] 70)
    rwa [World.size_alloc] at this
  obtain ⟨X', hX'⟩ : ∃ X' : Nat → Prop, X' = fun b => X b ∨ b = W.heap.size ∨ b = W.heap.size + 1 := ⟨_, rfl⟩
  have hXX : ∀ b, X b → X' b := fun b hb => by rw [hX']; exact .inl hb
  have hXp : X' W.heap.size := by rw [hX']; exact .inr (.inl rfl)
  have hXq : X' (W.heap.size + 1) := by rw [hX']; exact .inr (.inr rfl)
  have hX'l : ∀ b, X' b → b < W2.heap.size := fun b hb => by
    rw [hX'] at hb
    rcases hb with h | h | h
    · have := hXl b h; omega
    · omega
    · omega
  have C2 : Cr X' W2 B c sb n l q := hC.more B2 (fun b hb => by
    rw [hX'] at hb
    rcases hb with h | h | h
    · exact .inl h
    · exact .inr (by omega)
    · exact .inr (by omega))
  have V2 : WebAt X' W2 x.edges n o cap fb nb := by
    have V := hW.carry (Kp.below B2 B2.size hXl)
    exact ⟨V.fit, V.top, fun i hi => by obtain ⟨b, off, e, hp, hc⟩ := V.lie i hi; exact ⟨b, off, e, hXX b hp, hc⟩, V.fr, V.nr, hXX _ V.pf, hXX _ V.pn, hX'l⟩
  have hB2 : B ≤ W2.heap.size := by omega
  clear hX' bP
  refine callsIn_of_wp_marks Try.func34 rfl trivial ?_ rfl
  simp only [Try.ntmps34, List.size_toArray, List.length_cons, List.length_nil, Nat.reduceAdd, Nat.reduceSub, Array.replicate_succ, Array.replicate_zero, List.push_toArray, List.append_toArray, List.nil_append, List.cons_append]
  gi_wp2
  rw [← hW2]
  clear hW2
  refine wpIn_loop_ghost (fun k a w => ∃ (l1 q1 : List Int) (ds : List Nat) (u4 u5 u6 u7 u8 u9 u10 u11 u12 u13 u14 u15 u16 u17 u18 u19 u20 u21 u22 u23 u24 u25 u26 u27 u28 u29 u30 u31 u32 u33 u34 u35 u36 u37 u38 u39 u40 u41 u42 u43 u44 : Value), k = q1.length + 2 * (n - l1.length) ∧ a = { tmps := #[.pointer (some ⟨c, 0, none⟩), webV o x.edges.length cap n fb nb, .pointer (some ⟨W.heap.size, 0, none⟩), .pointer (some ⟨W.heap.size + 1, 0, none⟩), u4, u5, u6, u7, u8, u9, u10, u11, u12, u13, u14, u15, u16, u17, u18, u19, u20, u21, u22, u23, u24, u25, u26, u27, u28, u29, u30, u31, u32, u33, u34, u35, u36, u37, u38, u39, u40, u41, u42, u43, u44], defers := ds.map mark } ∧ Cr X' w B c sb n l1 q1 ∧ Inv x P l1 q1 ∧ (∀ t ∈ l, t ∈ l1) ∧ Moved X' B W2 w ∧ Marks W2.heap.size ds w) (q.length + 2 * (n - l.length)) ⟨l, q, [], undef, undef, undef, undef, undef, undef, undef, undef, undef, undef, undef, undef, undef, undef, undef, undef, undef, undef, undef, undef, undef, undef, undef, undef, undef, undef, undef, undef, undef, undef, undef, undef, undef, undef, undef, undef, undef, undef, undef, undef, undef, rfl, rfl, C2, hI, fun _ h => h, Moved.refl _ _ _, ⟨List.nodup_nil, by simp⟩⟩ ?_
  rintro k a w ⟨l1, q1, ds, u4, u5, u6, u7, u8, u9, u10, u11, u12, u13, u14, u15, u16, u17, u18, u19, u20, u21, u22, u23, u24, u25, u26, u27, u28, u29, u30, u31, u32, u33, u34, u35, u36, u37, u38, u39, u40, u41, u42, u43, u44, rfl, rfl, hC1, hI1, hS1, hM1, hD1⟩
  have p1 : Boxed w W.heap.size 72 (.pointer (some ⟨c, 0, none⟩)) := (hM1.kp.2 _ hXp).trans P2
  have pc := p1.cell
  obtain ⟨m, va, vw, K, hmk⟩ := hC1.lie
  have k2 := K.c2
  have HC1 := (show Hid (Cr X' w B c sb n l1 q1) from hC1)
  rcases List.eq_nil_or_concat q1 with rfl | ⟨q0, t, hq⟩
  · obtain ⟨gq, cq, rfl⟩ := df.own_slice K.wait
    gi_wp2
    refine leave_marks (N := W2.heap.size) (fun W' => Cr X' W' B c sb n l1 [] ∧ Moved X' B W2 W') (fun V D hV hD hd => ?_) (fun V hV => ?_) ds w hD1 ⟨HC1.out, hM1⟩
    · exact ⟨Cr.own (N := W2.heap.size) (fun _ : Unit => (l1, [])) () V _ (some D) hV.1 (grownBy_putObj' V D _) (fun r e => by cases e; exact ⟨hD, _, hd, rfl⟩), moved_own hX'l hB2 (Nat.le_refl _) () V _ (some D) hV.2 (grownBy_putObj' V D _) (fun r e => by cases e; exact ⟨hD, _, hd, rfl⟩)⟩
    · exact ⟨_, results_none rfl _ _ _, ⟨_, rfl⟩, l1, hV.1.less hXX, hI1, hS1, M0.trans (hV.2.less hXX)⟩
  · rw [List.concat_eq_append] at hq
    subst hq
    have htl : t ∈ l1 := hI1.sub t (by simp)
    have htr := hC1.rg t htl
    obtain ⟨s, rfl⟩ : ∃ s : Nat, t = (s : Int) := ⟨t.toNat, by omega⟩
    have hsn : s < n := by omega
    have hln := hC1.len
    have hql := hC1.ql
    have ho := K.wait
    have hlen : (q0 ++ [(s : Int)]).length = q0.length + 1 := by simp
    unfold df.Owns at ho
    rw [hlen] at ho
    obtain ⟨g, cq, rfl⟩ := ownsRow_succ ho
    have hcq : q0.length + 1 ≤ cq ∧ cq ≤ 9223372036854775807 := by
      rcases ho.2 with ⟨h0, _⟩ | ⟨gg, cap, cur, e, hb, hgg, hnn, hc, _⟩
      · cases h0
      · simp only [Value.slice.injEq] at e
        obtain ⟨_, _, rfl⟩ := e
        unfold maxLen at hc
        exact ⟨hnn, hc⟩
    have hcell := World.ownsRow.cellAt ho q0.length (by omega)
    have hc5 : w.cell? ⟨g, q0.length, none⟩ = some (.int .i64 (s : Int)) := by rw [hcell]; simp
    have hfz := K.fz 2
    have K3 := K.pop
    have HK3 := (show Hid _ from K3)
    have hlen2 : q0.length ≤ 2000 := by rw [hlen] at hql; omega
    obtain ⟨hcq1, hcq2⟩ := hcq
    clear hcell ho hlen K3
    gi_wp2
    gi_region
    obtain ⟨w3, hw3⟩ : ∃ w3, w3 = (w.setCell ⟨c, 2, none⟩ (.slice (some ⟨g, 0, none⟩) q0.length cq)).drew := ⟨_, rfl⟩
    have C3 : Cr X' w3 B c sb n l1 q0 := by rw [hw3]; exact ⟨⟨m, va, _, (HK3.out.keep (W' := (w.setCell ⟨c, 2, none⟩ (.slice (some ⟨g, 0, none⟩) q0.length cq)).drew) (Nat.le_refl _) rfl rfl (fun _ _ => rfl) (fun _ _ => rfl)), hmk⟩, HC1.out.nd, HC1.out.rg, by have := HC1.out.ql; simp at this; omega⟩
    have M3' : Moved X' B w w3 := by
      rw [hw3]
      have h := (Moved.refl X' B w).set (g := c) (fun b hb => (K.ap b hb).2.1) K.bc 2 (.slice (some ⟨g, 0, none⟩) q0.length cq)
      exact ⟨h.kp, h.be.drew, ⟨h.ot.size, h.ot.same⟩⟩
    have M3 : Moved X' B W2 w3 := hM1.trans M3'
    have D3 := hD1.moved M3'
    rw [← hw3]
    clear hw3 HK3 K hmk HC1 k2 pc p1 hfz hc5 M3' hC1
    have q3 : WBox w3 (W.heap.size + 1) o x.edges.length cap n fb nb := (M3.kp.2 _ hXq).trans Q2
    have e0 := q3.c0
    have e1 := q3.c1
    have e2 := q3.c2
    have V3 := V2.carry M3.kp
    have hfrom := fun W => from_in o x.edges.length cap n fb nb (s : Int) W
    gi_wp2_with (refine ⟨trivial, ?_⟩; gi_at_call 55; refine (callsIn_wide.2 (hfrom _)).mono ?_; rintro e w4 ⟨rfl, rfl⟩)
    have hsz3 : W2.heap.size ≤ w3.heap.size := M3.kp.1
    obtain ⟨W4, hW4⟩ : ∃ W4, W4 = (w3.alloc (.cells #[.slice o x.edges.length cap, .slice (some ⟨fb, 0, none⟩) n n, .slice (some ⟨nb, 0, none⟩) x.edges.length x.edges.length] 70)).alloc (.cells #[.int .i64 (s : Int)] 3) := ⟨_, rfl⟩
    have sz4 : W4.heap.size = w3.heap.size + 1 + 1 := by rw [hW4]; simp
    have B4 : Below w3.heap.size w3 W4 := by rw [hW4]; exact ((Below.refl _ w3).alloc (Nat.le_refl _) _).alloc (by simp) _
    have G4 : WBox W4 w3.heap.size o x.edges.length cap n fb nb := by rw [hW4]; exact (Below.heap_alloc _ _ _ (by simp)).trans (World.alloc_heap_new w3 _)
    have S4 : Boxed W4 (w3.heap.size + 1) 3 (.int .i64 (s : Int)) := by
      rw [hW4]
      have := Boxed.new (w3.alloc (.cells #[.slice o x.edges.length cap, .slice (some ⟨fb, 0, none⟩) n n, .slice (some ⟨nb, 0, none⟩) x.edges.length x.edges.length] 70)) 3 (.int .i64 (s : Int))
      rwa [World.size_alloc] at this
    have hX3 : ∀ b, X' b → b < w3.heap.size := fun b hb => Nat.lt_of_lt_of_le (hX'l b hb) hsz3
    have MM4 : Moved X' B w3 W4 := by rw [hW4]; exact ((Moved.refl X' B w3).alloc hX3 (by omega) _).alloc (fun b hb => by have := hX3 b hb; simp; omega) (by simp; omega) _
    obtain ⟨Y, hY⟩ : ∃ Y : Nat → Prop, Y = fun b => X' b ∨ b = w3.heap.size := ⟨_, rfl⟩
    have hXY : ∀ b, X' b → Y b := fun b hb => by rw [hY]; exact .inl hb
    have hYg : Y w3.heap.size := by rw [hY]; exact .inr rfl
    have hYl : ∀ b, Y b → b < W4.heap.size := fun b hb => by
      rw [hY] at hb
      rcases hb with h | h
      · have := hX3 b h; omega
      · omega
    have C4 : Cr Y W4 B c sb n l1 q0 := C3.more B4 (fun b hb => by
      rw [hY] at hb
      rcases hb with h | h
      · exact .inl h
      · exact .inr (by omega))
    have V4 : WebAt Y W4 x.edges n o cap fb nb := by
      have V := V3.carry (Kp.below B4 B4.size hX3)
      exact ⟨V.fit, V.top, fun i hi => by obtain ⟨b, off, e, hp, hc⟩ := V.lie i hi; exact ⟨b, off, e, hXY b hp, hc⟩, V.fr, V.nr, hXY _ V.pf, hXY _ V.pn, hYl⟩
    have P4 : Boxed W4 W.heap.size 72 (.pointer (some ⟨c, 0, none⟩)) := (MM4.kp.2 _ hXp).trans ((M3.kp.2 _ hXp).trans P2)
    have hB4 : B ≤ W4.heap.size := by omega
    rw [← hW4]
    clear hW4 hY e0 e1 e2
    refine wpIn_rangeFunc_ownH (α := { e : Ed // 0 ≤ e.to ∧ e.to < (n : Int) }) rfl (by omega) (gf := 76) (lb := #[.pointer (some ⟨w3.heap.size, 0, none⟩), .pointer (some ⟨w3.heap.size + 1, 0, none⟩)]) rfl trivial (enters_of Try.func76 (by kernel_rfl) rfl)
      (from_stops (Q := fun e => 0 ≤ e.to ∧ e.to < (n : Int)) Y w3.heap.size (w3.heap.size + 1) x.edges n s hsn hm o cap fb nb hto W4 V4 G4 hYg S4) (fun h k => h.trans k) (Kp.book hYl) (Below.refl _ _) (fun _ => rfl)
      (fun pre V => Cr Y V B c sb n (addAll (esOf pre) (l1, q0)).1 (addAll (esOf pre) (l1, q0)).2 ∧ Moved Y B W4 V)
      (fun _ _ _ => False)
      (OwnFrom.and (Cr.own _) (moved_own hYl hB4 (Nat.le_refl _)))
      (fun _ _ _ _ _ hs _ _ => hs)
      ⟨C4, Moved.refl _ _ _⟩
      (fun y a' V => ∃ Bx, V.heap[Bx]? = some (.cells #[.int .i64 y.1.fr, .int .i64 y.1.to, .bool y.1.free, .int .u64 y.1.a, .int .u64 y.1.b, .int .u64 y.1.c, .int .u64 y.1.d] 68 (0, 0)) ∧ a' = { tmps := #[.pointer (some ⟨c, 0, none⟩), webV o x.edges.length cap n fb nb, .pointer (some ⟨W.heap.size, 0, none⟩), .pointer (some ⟨W.heap.size + 1, 0, none⟩), .int .i64 (q0.length : Int), .int .i64 (s : Int), .pointer (some ⟨Bx, 0, none⟩), .pointer (some ⟨c, 0, none⟩), .pointer (some ⟨c, 0, none⟩), .pointer (some ⟨c, 2, none⟩), .slice (some ⟨g, 0, none⟩) (q0.length + 1) cq, .int .i64 ((q0.length : Int) + 1), .bool true, .pointer (some ⟨c, 0, none⟩), .pointer (some ⟨c, 0, none⟩), .pointer (some ⟨c, 2, none⟩), .slice (some ⟨g, 0, none⟩) (q0.length + 1) cq, .int .i64 ((q0.length : Int) + 1), .int .i64 (q0.length : Int), .pointer (some ⟨c, 0, none⟩), .pointer (some ⟨c, 0, none⟩), .pointer (some ⟨c, 2, none⟩), .slice (some ⟨g, 0, none⟩) (q0.length + 1) cq, .int .i64 (q0.length : Int), .pointer (some ⟨g, q0.length, none⟩), .int .i64 (s : Int), .pointer (some ⟨c, 0, none⟩), .pointer (some ⟨c, 0, none⟩), .pointer (some ⟨c, 0, none⟩), .pointer (some ⟨c, 2, none⟩), .slice (some ⟨g, 0, none⟩) (q0.length + 1) cq, .int .i64 (q0.length : Int), .slice (some ⟨g, 0, none⟩) q0.length cq, .pointer (some ⟨c, 0, none⟩), .pointer (some ⟨c, 2, none⟩), webV o x.edges.length cap n fb nb, .int .i64 (s : Int), .func (.func 76) #[] #[.pointer (some ⟨w3.heap.size, 0, none⟩), .pointer (some ⟨w3.heap.size + 1, 0, none⟩)], edV y.1, u39, u40, u41, u42, u43, u44], defers := [] })
      (fun y a' _ V V' row hs hg hr => by
        obtain ⟨Bx, h1, h2⟩ := hs
        exact ⟨Bx, (hg.block Bx (Array.getElem?_eq_some_iff.1 h1).1 (fun e => by obtain ⟨_, o', ho', hn'⟩ := hr Bx e.symm; rw [h1] at ho'; cases ho'; cases hn')).trans h1, h2⟩)
      ?assign ?body ?done ?stop
    case assign =>
      rintro lo pre y V KK ⟨hC, hM⟩ hKK
      have hVl : ∀ b, Y b → b < V.heap.size := fun b hb => Nat.lt_of_lt_of_le (hYl b hb) hM.kp.1
      have hBV : B ≤ V.heap.size := Nat.le_trans hB4 hM.kp.1
      gi_wp2
      have mv := (Moved.refl Y B V).alloc hVl hBV (.cells #[.int .i64 y.1.fr, .int .i64 y.1.to, .bool y.1.free, .int .u64 y.1.a, .int .u64 y.1.b, .int .u64 y.1.c, .int .u64 y.1.d] 68)
      exact hKK _ _ (mv.ot.from _) mv.kp ⟨hC.later (below_alloc _ _), hM.trans mv⟩ ⟨V.heap.size, World.alloc_heap_new V _, rfl⟩
    case body =>
      rintro lo pre y a' V hlo ⟨r, hr⟩ ⟨hC, hM⟩ ⟨Bx, hbx, rfl⟩ hlt
      have d1 : V.cell? ⟨Bx, 1, none⟩ = some (.int .i64 y.1.to) := by rw [Lib.cell_of_heap hbx]; rfl
      have d2 : V.cell? ⟨Bx, 2, none⟩ = some (.bool y.1.free) := by rw [Lib.cell_of_heap hbx]; rfl
      have pV : Boxed V W.heap.size 72 (.pointer (some ⟨c, 0, none⟩)) := (hM.kp.2 _ (hXY _ hXp)).trans P4
      have pcV := pV.cell
      obtain ⟨y, hy1, hy2⟩ := y
      dsimp only at *
      have HSN : Hid (addAll (esOf (pre ++ [⟨y, hy1, hy2⟩])) (l1, q0) = addF (addAll (esOf pre) (l1, q0)) y) := by show _ = _; rw [esOf_snoc]; exact addAll_snoc _ _ _
      obtain ⟨s2, hs2⟩ : ∃ s2 : Nat, y.to = (s2 : Int) := ⟨y.to.toNat, by omega⟩
      cases hf : y.free with
      | false =>
        rw [hf] at d2
        have e1 : Hid (addAll (esOf (pre ++ [⟨y, hy1, hy2⟩])) (l1, q0) = addAll (esOf pre) (l1, q0)) := by show _ = _; rw [HSN.out]; unfold addF; rw [hf]; rfl
        clear hs2 hf HSN
        gi_wp2
        exact ⟨KeepsFrom.refl _ _, ⟨Nat.le_refl _, fun _ _ => rfl⟩, by rw [e1.out]; exact hC, hM⟩
      | true =>
        rw [hf] at d2
        have e1 : Hid (addAll (esOf (pre ++ [⟨y, hy1, hy2⟩])) (l1, q0) = addE (addAll (esOf pre) (l1, q0)) (s2 : Int)) := by show _ = _; rw [HSN.out]; unfold addF; rw [hf, hs2]; rfl
        have hadd := add_any Y B c sb n hn (addAll (esOf pre) (l1, q0)).1 (addAll (esOf pre) (l1, q0)).2 s2 (by omega) V hC
        rw [hs2] at d1
        clear hs2 hf HSN
        gi_wp2_with (refine ⟨trivial, ?_⟩; gi_at_call 33; refine (CallsIn.inRound lo (callsIn_wide.2 hadd)).mono ?_; rintro e V2 ⟨⟨v, rfl⟩, hC2, hM2⟩)
        exact ⟨hM2.ot.from _, hM2.kp, by rw [e1.out]; exact hC2, hM.trans hM2⟩
    case done =>
      rintro D ys V hD hS ⟨hC, hM⟩ hK
      have hS2 : esOf ys = chainOf x.edges x.edges.length (s : Int) := hS
      rw [hS2] at hC
      have hI2 := inv_step hI1
      have hsub : ∀ t ∈ l, t ∈ (addAll (chainOf x.edges x.edges.length (s : Int)) (l1, q0)).1 := fun t ht => addAll_sub _ (l1, q0) t (hS1 t ht)
      have hl := addAll_len (chainOf x.edges x.edges.length (s : Int)) (l1, q0)
      have hcl := hC.len
      have mv : Moved X' B w3 V := MM4.trans (hM.less hXY)
      have D5 : Marks W2.heap.size (D :: ds) V := by
        have h := D3.moved mv
        refine ⟨List.nodup_cons.2 ⟨fun hin => ?_, h.nd⟩, fun D' hD' => ?_⟩
        · have h1 := (D3.at' D hin).2
          have h2 := (Array.getElem?_eq_some_iff.1 h1).1
          omega
        · rcases List.mem_cons.1 hD' with rfl | h1
          · exact ⟨by omega, hK⟩
          · exact h.at' D' h1
      gi_wp2
      rw [sz] at D5
      exact ⟨_, by omega, (addAll (chainOf x.edges x.edges.length (s : Int)) (l1, q0)).1, (addAll (chainOf x.edges x.edges.length (s : Int)) (l1, q0)).2, rfl, D :: ds, rfl, hC.less hXY, hI2, hsub, M3.trans mv, D5⟩
    case stop =>
      rintro D cc pre V _ _ h _
      exact h.elim
theorem spread_any (x : Nfa) (n : Nat) (hn : n ≤ 2000) (hm : x.edges.length ≤ 16000) (hto : ∀ e ∈ x.edges, 0 ≤ e.to ∧ e.to < (n : Int)) : SpreadIs x n :=
  fun P X B c sb l q o cap fb nb W hC hI hW => callsIn_wide.1 (spread_in x n hn hm hto P X B c sb l q o cap fb nb W hC hI hW)
end Go.Proofs.Ytfilndgbgdnpiaa.nf

namespace Go.Proofs.Ytfilndgbgdnpiaa.nf
open Go.RowKit Go.Shelf
set_option linter.unusedVariables false
open df (Kp Owns)

theorem info4 : (Try.prog.info? 4).map (fun i => (i.zero, i.size, i.bytes)) = some (some (.bool false), 1, 1) := by kernel_rfl
theorem bcells_made (n : Nat) : madeCells #[.bool false] n = bcells (List.replicate n false) := by
  apply Array.toList_inj.1
  rw [toList_madeCells_one]
  simp [bcells]
theorem make44 (n : Nat) (hn : n ≤ 1000000) (W : World) : (Instr.makeSlice 44 (.int .i64 (n : Int)) (.int .i64 (n : Int))).run Try.prog W = .ok (.slice (some ⟨W.heap.size, 0, none⟩) n n) (W.alloc (.cells (bcells (List.replicate n false)) 4)) := by
  rw [← bcells_made]
  exact run_make_row' (P := Try.prog) 44 4 (.bool false) 1 Try.underlying44 info4 rfl .i64 .i64 n (by omega) (by omega) W
theorem three (h : Array Obj) (a b c : Obj) : (((h.push a).push b).push c)[h.size]? = some a ∧ (((h.push a).push b).push c)[h.size + 1]? = some b ∧ (((h.push a).push b).push c)[h.size + 1 + 1]? = some c := by
  refine ⟨?_, ?_, ?_⟩ <;> simp only [Array.getElem?_push, Array.size_push] <;> (repeat (first | rw [if_pos rfl] | rw [if_pos trivial] | rw [if_neg (by omega)]))
def NewIs (n : Nat) : Prop := ∀ (s e : Int) (o : Option Addr) (m cap : Nat) (X : Nat → Prop) (W : World), (∀ b, X b → b < W.heap.size) → Calls Try.prog 32 #[nfaV (n : Int) s e o m cap] W fun e W' => ∃ c sb, e = .returned (.pointer (some ⟨c, 0, none⟩)) ∧ Cr X W' W.heap.size c sb n [] [] ∧ Below W.heap.size W W' ∧ KeepsOthers W W'
set_option maxHeartbeats 1000000 in
theorem new_any (n : Nat) (hn : n ≤ 2000) : NewIs n := by
  intro s e o m cap X W hX
  have mk := make44 n (by omega)
  go_enter Try.func32, Try.ntmps32
  go_wp2
  go_ret
  refine ⟨W.heap.size + 1 + 1, W.heap.size + 1, rfl, ⟨⟨List.replicate n false, .slice none 0 0, .slice none 0 0, ⟨?_, ?_, by simp, World.ownsRow_nil _ _ _ _, World.ownsRow_nil _ _ _ _, fun g e => (by cases e), by omega, by omega, fun b hb => ?_⟩, fun i hi => ?_⟩, List.nodup_nil, by simp, by simp⟩, ?_, ?_⟩
  · exact (three W.heap _ _ _).2.2
  · exact (three W.heap _ _ _).2.1
  · have := hX b hb
    exact ⟨by simp; omega, by omega, by omega, by simp [Value.ownBlock], by simp [Value.ownBlock]⟩
  · rw [List.getElem?_replicate, if_pos hi]
    simp
  · exact (((Below.refl _ W).alloc (Nat.le_refl _) _).alloc (by simp) _).alloc (by simp; omega) _
  · exact ((KeepsOthers.alloc _ _).trans (KeepsOthers.alloc _ _)).trans (KeepsOthers.alloc _ _)
end Go.Proofs.Ytfilndgbgdnpiaa.nf
